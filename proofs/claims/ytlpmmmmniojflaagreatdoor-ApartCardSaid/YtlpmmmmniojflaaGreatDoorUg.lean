/- What is kept, walked: Work. -/
import Derived.Test.YtlpmmmmniojflaaGreatDoorQ41
import Derived.Test.YtlpmmmmniojflaaGreatDoorQ42
import Derived.Deep.RegionHeld3
import Derived.Deep.CutRange
set_option linter.unusedVariables false
set_option linter.unusedSimpArgs false
namespace Go.Proofs.YtlpmmmmniojflaaGreatDoor
open Go.RowKit
theorem RSC.ofBelow {w w' : World} {own : Nat → Nat} {b x : Nat} (h : Below w.heap.size w w') (hx : x < w.heap.size) : RSC w own w' own b x := (RStep.below (b := b) h (fun _ _ => rfl) hx).toC
theorem EVc.start {w w' : World} {own' : Nat → Nat} {b x : Nat} (h : EVc w own0) (hx : ∃ cs, w.heap[x]? = some (.cells cs 104 (0, 0)) ∧ cs.size = 755) (hb : w.heap.size ≤ b) (hS : RStep w own0 w' own' b x) : EVc w' own' := by
  obtain ⟨g, tp, p, t, f, h1, h2, h3⟩ := h
  have hl := (Array.getElem?_eq_some_iff.1 h3).1
  refine ⟨g, tp, p, t, f, h1, hS.zero g hl h2, ?_⟩
  rw [hS.blk g hl h2 (by omega)]
  · exact h3
  · intro e
    obtain ⟨cs, hb, hs⟩ := hx
    rw [e, hb] at h3
    cases h3
    simp at hs
theorem keeps_reads {E : Env} {fs0 fs : Nat → ByteArray} {k : Kp} {way : Nat} (hk : KInv E fs0 k) : ∀ c, c < 48 → stays (njR fs k way 48) c = true → ∀ y ∈ (k.last c).rs, y.nd.c < 48 := by
  intro c hc hs y hy
  have h1 : ¬ stays (njR fs k way 48) c = false := by rw [hs]; decide
  rw [stays_iff] at h1
  have h2 : (k.last c).f = fs c ∧ (k.last c).v ≠ cyc := Classical.byContradiction h1
  by_cases h0 : fs0 c = eB
  · rw [hk.none c h0] at hy; cases hy
  · exact ((hk.good c h0 h2.2).1.2.2.2 y hy).2
theorem clean_none {E : Env} {fs0 fs : Nat → ByteArray} {k : Kp} {mk : Nat → Bool} (hk : KInv E fs0 k) (hm : MarkOK fs k.last mk) : ∀ c, c < 48 → fs c = eB → mk c = false → k.last c = ans0 := by
  intro c hc hf hmc
  have hn : ¬ ∃ n, dn fs k.last n c := fun h => by rw [(hm c).2 h] at hmc; cases hmc
  have h0 : (k.last c).f = fs c ∧ (k.last c).v ≠ cyc := Classical.byContradiction fun h => hn ⟨0, h⟩
  exact hk.none c (by rw [← hk.f c, h0.1]; exact hf)
theorem cnt_new (fs : Nat → ByteArray) (k : Kp) (way : Nat) (mk : Nat → Bool) : Cnt 0 (newP fs k way mk) := by
  refine ⟨fun c => ?_, Nat.le_refl _⟩
  show (tk0 fs k.last way mk c).kn.length ≤ 0
  unfold tk0
  split
  · exact Nat.le_refl _
  · split <;> exact Nat.le_refl _
theorem wp_seq_var {P : Program} {c1 c2 : Code} {Q : Exit → Act → World → Prop} {a : Act} {w : World} (h : ∀ K : Act → World → Prop, (∀ a w, c2.wp P Q a w → K a w) → c1.wp P (Exit.then K Q) a w) : (c1.seq c2).wp P Q a w := by
  apply wp_seq
  exact h (fun a w => c2.wp P Q a w) (fun _ _ h => h)
def z16 : Array Value := #[.int .i64 0, .int .i64 0, .slice none 0 0, .int .i64 0, .slice none 0 0, .int .i64 0, .int .i64 0, .int .i64 0, .bool false, .slice none 0 0, .slice none 0 0, .string ⟨#[]⟩, .slice none 0 0, .int .i64 0, .int .i64 0, .string ⟨#[]⟩]
theorem info185 : (Tryz.prog.info? 185).map (·.size) = some 768 := by kernel_rfl
theorem box_task {w : World} {own : Nat → Nat} {b x j : Nat} {r : Rn} {cs : Array Value} (hR : RR w own b x r) (hb : w.heap[b]? = some (.cells cs 187 (0, 0))) (hs : cs.size = 1059) (hj : j < 48) (h3 : (r.tk j).st = 3) :
    (((cs.toList.drop 290).take 768).toArray.extract (j * 16) (j * 16 + 16)).size = 16 ∧ (((cs.toList.drop 290).take 768).toArray.extract (j * 16) (j * 16 + 16)).all (·.oneCell') = true ∧ ∀ t, t < 16 → (((cs.toList.drop 290).take 768).toArray.extract (j * 16) (j * 16 + 16))[t]? = w.cell? ⟨b, T j + t, none⟩ := by
  have hl : ((cs.toList.drop 290).take 768).length = 768 := by rw [List.length_take, List.length_drop, Array.length_toList, hs]; omega
  have hz : (((cs.toList.drop 290).take 768).toArray.extract (j * 16) (j * 16 + 16)).size = 16 := by rw [Array.size_extract, List.size_toArray, hl]; omega
  have hg : ∀ t, t < 16 → (((cs.toList.drop 290).take 768).toArray.extract (j * 16) (j * 16 + 16))[t]? = w.cell? ⟨b, T j + t, none⟩ := fun t ht => by
    rw [cell_of_row w b (T j + t) cs 187 (0, 0) hb, Array.getElem?_extract, if_pos (by rw [List.size_toArray, hl]; omega), List.getElem?_toArray, List.getElem?_take_of_lt (by omega), List.getElem?_drop, Array.getElem?_toList]
    congr 1
    unfold T; omega
  refine ⟨hz, Array.all_eq_true_iff_forall_mem.2 fun v hv => ?_, hg⟩
  obtain ⟨i, hi⟩ := Array.getElem?_of_mem hv
  have hi16 : i < 16 := by have := (Array.getElem?_eq_some_iff.1 hi).1; omega
  rw [hg i hi16] at hi
  have ht := hR.tk j hj
  have ha := ht.ans h3
  by_cases hm : 4 ≤ i ∧ i < 11
  · obtain ⟨u, h1, h2⟩ := ht.mz h3 i hm.1 hm.2
    rw [h1] at hi; cases hi; exact h2
  rcases (show i = 0 ∨ i = 1 ∨ i = 2 ∨ i = 3 ∨ i = 11 ∨ i = 12 ∨ i = 13 ∨ i = 14 ∨ i = 15 by omega) with rfl | rfl | rfl | rfl | rfl | rfl | rfl | rfl | rfl
  · rw [Nat.add_zero, ht.st] at hi; cases hi; rfl
  · rw [ht.wt] at hi; cases hi; rfl
  · obtain ⟨u, xs, h1, h2, h3⟩ := ht.kn
    rw [h1] at hi; cases hi
    obtain ⟨qa, qc, rfl⟩ := h2.sl.len; rfl
  · rw [ht.held] at hi; cases hi; rfl
  · rw [ha.f] at hi; cases hi; rfl
  · obtain ⟨u, h1, h2, h3⟩ := ha.rs
    rw [show T j + 12 = T j + 11 + 1 from rfl, h1] at hi; cases hi; exact h2.oneCell
  · rw [show T j + 13 = T j + 11 + 2 from rfl, ha.k] at hi; cases hi; rfl
  · rw [show T j + 14 = T j + 11 + 3 from rfl, ha.n] at hi; cases hi; rfl
  · rw [show T j + 15 = T j + 11 + 4 from rfl, ha.s] at hi; cases hi; rfl
def Rnded (W : World) (x b : Nat) (r : Rn) (ch : List Nat) (w : World) : Prop := ∃ own', RR w own' b x r ∧ RSC W own0 w own' b x ∧ ChA w x ch
set_option maxRecDepth 100000 in
set_option maxHeartbeats 8000000 in
theorem work58 {E : Env} (hE : EnvOK E) (W : World) (x order way : Nat) (fs0 fs : Nat → ByteArray) (bd : Nat → Int × Int) (k : Kp) (FL : List Value) (hl : FL.length = 48) (hfl : ∀ c, c < 48 → FL[c]? = some (.string (fs c))) (h : SR W x fs bd k) (hV : EVc W own0) (hk : KInv E fs0 k) (hfs : FsOK E fs) (hF : EnvF E fs) (ho : order < 3) (hw : way < 3) :
    Calls Tryz.prog 58 #[.pointer (some ⟨x, 144, none⟩), .agg FL.toArray, .int .i64 order, .int .i64 way] W fun e w' => ∃ v k' bg, e = .returned v ∧ Hid (WorkP E k fs order way k' bg ∧ SR w' x fs bd k' ∧ Only x W w' ∧ Slc w' 9 1 v bg.length (bg.map nmV) ∧ ∀ g, v.ownBlock = some g → W.heap.size ≤ g) := by
  have HE : Hid (EnvOK E) := hE
  have HFL : Hid (FL.toArray.size = 48) := by unfold Hid; simpa using hl
  have HFA : Hid (∀ c, c < 48 → FL.toArray[c]? = some (.string (fs c))) := fun c hc => by rw [List.getElem?_toArray]; exact hfl c hc
  have HSR : Hid (SR W x fs bd k) := h
  have HV : Hid (EVc W own0) := hV
  have HK : Hid (KInv E fs0 k) := hk
  have HFS : Hid (FsOK E fs) := hfs
  have HF : Hid (EnvF E fs) := hF
  have HO : Hid (order < 3) := ho
  have HB1 : Hid (Below W.heap.size W (W.alloc (.cells FL.toArray 89))) := bl1 _ _
  have HL1 : Hid ((loadVar 89 ⟨W.heap.size, 0, none⟩).run Tryz.prog (W.alloc (.cells FL.toArray 89)) = .ok (.agg FL.toArray) (W.alloc (.cells FL.toArray 89))) := load89 (rnew _ _ _) HFL.out
  have HQ1 : Hid ((W.alloc (.cells FL.toArray 89)).heap[W.heap.size]? = some (.cells FL.toArray 89 (0, 0))) := rnew _ _ _
  obtain ⟨B, hB⟩ : ∃ B : Bool, B = true ↔ ∀ c, c < 48 → (k.last c).f = fs c := by
    by_cases hh : ∀ c, c < 48 → (k.last c).f = fs c
    · exact ⟨true, by simp; exact hh⟩
    · exact ⟨false, by simp; simpa using hh⟩
  have HB : Hid (B = true ↔ ∀ c, c < 48 → (k.last c).f = fs c) := hB
  clear hE hl hfl h hV hk hfs hF ho hB
  go_enter Tryz.func58, Tryz.ntmps58
  go_wp2_with ((refine wpList_load_run (P := Tryz.prog) ?_ 89 (.tmp 5) ?_ ⟨W.heap.size, 0, none⟩ ?_ (.agg FL.toArray) ?_ ?_; (rfl); (rfl); (rfl); (exact HL1.out)))
  clear HL1
  generalize W.alloc (Obj.cells FL.toArray 89) = W1 at *
  refine (worked_w W1 x fs FL.toArray HFL.out HFA.out (HSR.out.below HB1.out) B HB).mono ?_
  rintro e w2 ⟨rfl, hb2⟩
  have HB2 : Hid (Below W.heap.size W w2) := HB1.out.trans (hb2.mono HB1.out.size)
  have HQ2 : Hid (w2.heap[W.heap.size]? = some (.cells FL.toArray 89 (0, 0))) := by unfold Hid; rw [hb2.block _ (Array.getElem?_eq_some_iff.1 HQ1.out).1]; exact HQ1.out
  clear hb2 HB1 HQ1
  cases B with
  | true =>
    have HWP : Hid (WorkP E k fs order way k []) := .inl ⟨HB.out.1 rfl, rfl, rfl⟩
    go_wp2_with fail
    go_ret
    exact ⟨_, k, [], rfl, HWP.out, HSR.out.below HB2.out, Go.Proofs.YtlpmmmmniojflaaGreatDoor.Below.only HB2.out x, slc_nil _ 9 1, fun g hg => by cases hg⟩
  | false =>
    have HNW : Hid (¬ workedP k fs) := fun hh => by have := HB.out.2 hh; cases this
    have HS2 : Hid (SR w2 x fs bd k) := HSR.out.below HB2.out
    obtain ⟨LL, hll, hrg, hlv⟩ := HS2.out.lv
    have HLV : Hid (LV w2 LL.toArray k.last) := hlv
    obtain ⟨val, hv⟩ := val_all E.D fs
    obtain ⟨mk, hm⟩ := mark_ex fs k.last
    have HM : Hid (MarkOK fs k.last mk) := hm
    have HI : Hid (Inv E val ⟨k.store, fs, k.last, way⟩ (fun c => way = 0 ∧ mk c = false) (fun _ _ => False) (newP fs k way mk) []) := new_inv HK.out HFS.out hm way hv _
    have HX : Hid (XK E val ⟨k.store, fs, k.last, way⟩ (fun c => way = 0 ∧ mk c = false) (fun _ _ => False)) := fun r cs _ c a hf => absurd hf (by simp)
    have hu1 : Tryz.prog.underlying 89 = some (.array 48 9) := Tryz.underlying89
    have hi1 : (Tryz.prog.info? 89).map (·.size) = some FL.length := by rw [show FL.length = 48 by have := HFL.out; simpa using this]; exact info89
    have hu2 : Tryz.prog.underlying 96 = some (.array 48 95) := Tryz.underlying96
    have hi2 : (Tryz.prog.info? 96).map (·.size) = some LL.length := by rw [hll]; exact info96
    have hrq : w2.rangeAt W.heap.size 0 FL := fun j v hj => by
      rw [cell_of_row w2 W.heap.size (0 + j) FL.toArray 89 (0, 0) HQ2.out, Nat.zero_add, List.getElem?_toArray]; exact hj
    have HRG : Hid (w2.rangeAt x 144 LL ∧ w2.rangeAt W.heap.size 0 FL ∧ LL.length = 240 ∧ FL.length = 48) := ⟨hrg, hrq, hll, by have := HFL.out; simpa using this⟩
    have HXW : Hid (x < W.heap.size) := HSR.out.lt
    have HNE : Hid (W.heap.size < w2.heap.size) := (Array.getElem?_eq_some_iff.1 HQ2.out).1
    clear hv hm hlv hll
    go_wp2_with fail
    have hS0 : (fun w' : World => w'.rangeAt W.heap.size 0 FL ∧ w'.rangeAt x 144 LL) { w2 with drawn := w2.drawn + 1 } := ⟨hrq, hrg⟩
    refine wp_region_held (S := fun w' : World => w'.rangeAt W.heap.size 0 FL ∧ w'.rangeAt x 144 LL) (by kernel_rfl) ?_
    refine wpAnyH_take (i := 0) (v := .agg FL.toArray) rfl (by kernel_rfl) (by kernel_rfl) (by kernel_rfl) (fun _ _ _ h => h) (yieldsIf_load_mid (by rfl) 89 (.tmp 5) rfl W.heap.size 0 rfl FL (.array 48 9) (fun w hS => hS.1) Tryz.underlying89 rfl hi1) hS0 ?_
    (try simp only [Act.put, List.setIfInBounds_toArray, List.set_cons_zero, List.set_cons_succ, List.getElem_toArray, List.getElem_cons_zero, List.getElem_cons_succ])
    refine wpAnyH_take (i := 1) (v := .pointer (some ⟨x, 144, none⟩)) rfl (by kernel_rfl) (by kernel_rfl) (by kernel_rfl) (fun _ _ _ h => h) (Or.inl ⟨by rfl, fun w hSw => by go_simp⟩) hS0 ?_
    (try simp only [Act.put, List.setIfInBounds_toArray, List.set_cons_zero, List.set_cons_succ, List.getElem_toArray, List.getElem_cons_zero, List.getElem_cons_succ])
    refine wpAnyH_take (i := 2) (v := .pointer (some ⟨x, 144, none⟩)) rfl (by kernel_rfl) (by kernel_rfl) (by kernel_rfl) (fun _ _ _ h => h) (Or.inl ⟨by rfl, fun w hSw => by go_simp⟩) hS0 ?_
    (try simp only [Act.put, List.setIfInBounds_toArray, List.set_cons_zero, List.set_cons_succ, List.getElem_toArray, List.getElem_cons_zero, List.getElem_cons_succ])
    refine wpAnyH_take (i := 3) (v := .pointer (some ⟨x, 144, none⟩)) rfl (by kernel_rfl) (by kernel_rfl) (by kernel_rfl) (fun _ _ _ h => h) (Or.inl ⟨by rfl, fun w hSw => by go_simp⟩) hS0 ?_
    (try simp only [Act.put, List.setIfInBounds_toArray, List.set_cons_zero, List.set_cons_succ, List.getElem_toArray, List.getElem_cons_zero, List.getElem_cons_succ])
    refine wpAnyH_take (i := 4) (v := .agg LL.toArray) rfl (by kernel_rfl) (by kernel_rfl) (by kernel_rfl) (fun _ _ _ h => h) (yieldsIf_load_mid (by rfl) 96 (.tmp 18) rfl x 144 rfl LL (.array 48 95) (fun w hS => hS.2) Tryz.underlying96 rfl hi2) hS0 ?_
    (try simp only [Act.put, List.setIfInBounds_toArray, List.set_cons_zero, List.set_cons_succ, List.getElem_toArray, List.getElem_cons_zero, List.getElem_cons_succ])
    refine wpAnyH_take (i := 5) (v := .pointer (some ⟨x, 144, none⟩)) rfl (by kernel_rfl) (by kernel_rfl) (by kernel_rfl) (fun _ _ _ h => h) (Or.inl ⟨by rfl, fun w hSw => by go_simp⟩) hS0 ?_
    (try simp only [Act.put, List.setIfInBounds_toArray, List.set_cons_zero, List.set_cons_succ, List.getElem_toArray, List.getElem_cons_zero, List.getElem_cons_succ])
    refine wpAnyH_take (i := 6) (v := .pointer (some ⟨x, 144, none⟩)) rfl (by kernel_rfl) (by kernel_rfl) (by kernel_rfl) (fun _ _ _ h => h) (Or.inl ⟨by rfl, fun w hSw => by go_simp⟩) hS0 ?_
    (try simp only [Act.put, List.setIfInBounds_toArray, List.set_cons_zero, List.set_cons_succ, List.getElem_toArray, List.getElem_cons_zero, List.getElem_cons_succ])
    refine wpAnyH_take (i := 7) (v := .pointer (some ⟨x, 432, none⟩)) rfl (by kernel_rfl) (by kernel_rfl) (by kernel_rfl) (fun _ _ _ h => h) (Or.inl ⟨by rfl, fun w hSw => by go_simp⟩) hS0 ?_
    (try simp only [Act.put, List.setIfInBounds_toArray, List.set_cons_zero, List.set_cons_succ, List.getElem_toArray, List.getElem_cons_zero, List.getElem_cons_succ])
    refine wpAnyH_take (i := 8) (v := .int .i64 way) rfl (by kernel_rfl) (by kernel_rfl) (by kernel_rfl) (fun _ _ _ h => h) (Or.inl ⟨by rfl, fun w hSw => by go_simp⟩) hS0 ?_
    (try simp only [Act.put, List.setIfInBounds_toArray, List.set_cons_zero, List.set_cons_succ, List.getElem_toArray, List.getElem_cons_zero, List.getElem_cons_succ])
    refine wpAnyH_ready (rs := [9]) (by kernel_rfl) (by simp) ?_
    refine AllReadyH.cons rfl (fun K hK => ?_) AllReadyH.nil
    go_simp
    refine (newRound_w _ x way fs fs bd k FL.toArray LL.toArray mk (HS2.out.below ((Below.refl _ _).drew)) HFL.out HFA.out (HLV.out.below ((Below.refl _ _).drew)) (keeps_reads HK.out) (fun c _ => HM.out c) (clean_none HK.out HM.out)).mono ?_
    rintro e w6 ⟨b, rfl, h6⟩
    obtain ⟨own6, R6, S6, B6⟩ := h6.out
    have B6 : w2.heap.size ≤ b := B6
    have hS6 : w6.rangeAt W.heap.size 0 FL ∧ w6.rangeAt x 144 LL := by
      obtain ⟨g1, g2, g3, g4⟩ := HRG.out
      refine ⟨fun j v hj => ?_, fun j v hj => ?_⟩
      · have e : w6.heap[W.heap.size]? = w2.heap[W.heap.size]? := S6.blk _ HNE.out rfl (by have h1 := HNE.out; omega) (by have := HXW.out; omega)
        rw [World.cell?_of_block (w := w2) e]; exact g2 j v hj
      · have hj' : j < 240 := by have := (List.getElem?_eq_some_iff.1 hj).1; omega
        rw [S6.xs _ (by omega)]; exact g1 j v hj
    refine hK.out _ _ hS6 (fun _ => ?_)
    clear hK K
    refine wpAnyH_take (i := 10) (v := .pointer (some ⟨b, 0, none⟩)) rfl (by kernel_rfl) (by kernel_rfl) (by kernel_rfl) (fun _ _ _ h => h) (Or.inl ⟨by rfl, fun w hSw => by go_simp⟩) hS6 ?_
    (try simp only [Act.put, List.setIfInBounds_toArray, List.set_cons_zero, List.set_cons_succ, List.getElem_toArray, List.getElem_cons_zero, List.getElem_cons_succ])
    refine wpAnyH_done (by kernel_rfl) ?_ _
    have HBD : Hid (Below W.heap.size W { w2 with drawn := w2.drawn + 1 }) := HB2.out.drew
    have HRN : Hid (RR w6 own6 b x (newP fs k way mk)) := R6
    have HSN : Hid (RSC W own0 w6 own6 b x) := (RSC.ofBelow HBD.out HXW.out).trans S6.toC
    have HVN : Hid (EVc w6 own6) := EVc.start (HV.out.below HBD.out (fun _ _ => rfl)) (HSR.out.below HBD.out).blk B6 S6
    have HCN : Hid (ChA w6 x k.ch) := ⟨HK.out.ch.len, fun j c hj => by
      have := (List.getElem?_eq_some_iff.1 hj).1
      have hl := HK.out.ch.len
      rw [S6.xs _ (by omega)]
      exact HS2.out.kp.ch j c hj⟩
    have HBB : Hid (W.heap.size ≤ b) := by have := HNE.out; unfold Hid; omega
    obtain ⟨r', ch', hro, h3⟩ : ∃ r' ch', roundP E order (newP fs k way mk) k.ch r' ch' ∧ ∀ c, c < 48 → (r'.tk c).st = 3 := by
      have ho : order = 0 ∨ order = 1 ∨ order = 2 := by have := HO.out; omega
      rcases ho with h | h | h
      · obtain ⟨ch', r', a, b, c, d, e⟩ := chain_all HE.out.w HX.out HK.out.ch HI.out (new_wait fs k way mk)
        exact ⟨r', ch', .inl ⟨h, a⟩, e⟩
      · obtain ⟨r', a, b, c, e⟩ := queue_all HE.out.w HX.out HI.out
        exact ⟨r', k.ch, .inr (.inl ⟨h, a, rfl⟩), e⟩
      · obtain ⟨r', a, b, c, e⟩ := sus_all HE.out.w HX.out 48 0 _ _ (by omega) HI.out (new_wait fs k way mk)
        exact ⟨r', k.ch, .inr (.inr ⟨h, a, rfl⟩), fun x hx => e x (by omega) (by omega)⟩
    have HRO : Hid (roundP E order (newP fs k way mk) k.ch r' ch') := hro
    have H3 : Hid (∀ c, c < 48 → (r'.tk c).st = 3) := h3
    clear hro h3 R6 S6 B6 h6 hS6 hS0 hrq hrg HRG HBD HNE
    rename_i Q0 K0 hK0 hx0
    show K0 _ _
    refine hK0 _ _ ?_
    clear hK0 hx0
    refine wp_seq_var fun K1 hK1 => ?_
    go_cut [] from 25 to 38 (fun wx => Hid (Rnded W x b r' ch' wx))
    case first =>
      rcases HRO.out with ⟨ho, hE1⟩ | ⟨ho, hE1, hch⟩ | ⟨ho, hE1, hch⟩
      · subst ho
        have HCS : Hid (ChS E val ⟨k.store, fs, k.last, way⟩ (fun c => way = 0 ∧ mk c = false) (fun _ _ => False) w6 own6 b x (newP fs k way mk) ⟨48, ch', r'⟩ (chPot ⟨0, k.ch, newP fs k way mk⟩) ⟨0, k.ch, newP fs k way mk⟩ w6) :=
          ⟨own6, 0, HRN.out, RSC.refl _ _ _ _, HCN.out, chain_start HK.out.ch HI.out (new_wait fs k way mk), hE1, cnt_new fs k way mk, by have := msr_le (newP fs k way mk); unfold chPot; dsimp only; omega, rfl⟩
        clear hE1
        go_wp2_with fail
        refine (chain_w HE.out.w HX w6 own6 b x (newP fs k way mk) k.ch ⟨48, ch', r'⟩ HRN HVN HF HCS).mono ?_
        rintro e w7 ⟨rfl, h7⟩
        go_wp2_with fail
        go_meet
        obtain ⟨own7, R7, S7, C7⟩ := h7.out
        exact ⟨own7, R7, HSN.out.trans S7, C7⟩
      · subst ho
        subst hch
        have HE1 : Hid (Ends (queueF E) queueE ⟨List.range 48, newP fs k way mk⟩ ⟨[], r'⟩) := hE1
        clear hE1
        go_wp2_with fail
        refine (restart_w HE.out.w HX w6 own6 b x (newP fs k way mk) ⟨[], r'⟩ HRN HVN HF (queue_start HI.out) HE1 (cnt_new fs k way mk)).mono ?_
        rintro e w7 ⟨rfl, h7⟩
        go_wp2_with fail
        go_meet
        obtain ⟨own7, R7, S7⟩ := h7.out
        exact ⟨own7, R7, HSN.out.trans S7.toC, HCN.out.step S7⟩
      · subst ho
        subst hch
        have HE1 : Hid (Sus E 48 0 (newP fs k way mk) r') := hE1
        clear hE1
        go_wp2_with fail
        refine (suspend_w HE.out.w HX w6 own6 b x (newP fs k way mk) r' HRN HVN HF ⟨_, HI.out⟩ (new_wait fs k way mk) HE1 (cnt_new fs k way mk)).mono ?_
        rintro e w7 ⟨rfl, h7⟩
        go_wp2_with fail
        go_meet
        obtain ⟨own7, R7, S7⟩ := h7.out
        exact ⟨own7, R7, HSN.out.trans S7.toC, HCN.out.step S7⟩
    case rest =>
      obtain ⟨own7, R7, S7, C7⟩ := hcut.out
      obtain ⟨cs7, b7, s7⟩ := R7.blk
      have HR7 : Hid (RR wc own7 b x r') := R7
      have HS7 : Hid (RSC W own0 wc own7 b x) := S7
      have HC7 : Hid (ChA wc x ch') := C7
      have HBC : Hid (wc.heap[b]? = some (.cells cs7 187 (0, 0)) ∧ cs7.size = 1059) := ⟨b7, s7⟩
      have hrt : wc.rangeAt b 290 ((cs7.toList.drop 290).take 768) := fun j v hj => by
        have hj' : j < 768 := by have := (List.getElem?_eq_some_iff.1 hj).1; rw [List.length_take] at this; omega
        rw [cell_of_row wc b (290 + j) cs7 187 (0, 0) b7, ← hj, List.getElem?_take_of_lt hj', List.getElem?_drop, Array.getElem?_toList]
      have HBX : Hid (∀ j, j < 48 → _) := fun j hj => box_task R7 b7 s7 hj (H3.out j hj)
      obtain ⟨TK, hTK⟩ : ∃ TK, (cs7.toList.drop 290).take 768 = TK := ⟨_, rfl⟩
      rw [hTK] at hrt HBX
      have HLD : Hid ((loadVar 185 ⟨b, 290, none⟩).run Tryz.prog wc = .ok (.agg TK.toArray) wc) := run_loadVar_mid wc b 290 185 TK (.array 48 184) hrt Tryz.underlying185 rfl (by
        rw [← hTK, List.length_take, List.length_drop, Array.length_toList, s7]; exact info185)
      have HLS : Hid (LS x b wc 0 wc) := LS.start R7.xblk
      clear hrt hTK b7 s7 R7 S7 C7 hcut HRN HSN HVN HCN
      go_wp2_with ((refine wpList_load_run (P := Tryz.prog) ?_ 185 (.tmp 41) ?_ ⟨b, 290, none⟩ ?_ (.agg TK.toArray) ?_ ?_; (rfl); (rfl); (rfl); (exact HLD.out)))
      clear HLD
      go_loopw [43] (fun s wr => ∃ j : Nat, s = .int .i64 j ∧ Hid (j ≤ 48) ∧ Hid (LS x b wc j wr)) (fun s _ => (48 - intOf s).toNat)
      case atStart => exact ⟨0, rfl, Nat.zero_le _, HLS⟩
      case round =>
        clear HLS
        obtain ⟨j, rfl, HJ, HL⟩ := hrel
        by_cases hj : j < 48
        · have hji : (j : Int) < 48 := by omega
          have hj0 : 0 ≤ (j : Int) := by omega
          have w1' : IntKind.i64.wrap ((j : Int) + 1) = (j : Int) + 1 := by rw [IntKind.wrap_i64]; omega
          have w2' : wrap64 ((j : Int) + 1) = (j : Int) + 1 := by unfold wrap64; omega
          have HJ' : Hid (j < 48) := hj
          obtain ⟨z1, z2, z3⟩ := HBX.out j hj
          obtain ⟨BX, hBX⟩ : ∃ BX, TK.toArray.extract (j * 16) (j * 16 + 16) = BX := ⟨_, rfl⟩
          rw [hBX] at z1 z2 z3
          have HIX : Hid (∀ w, (Instr.index 185 (.agg TK.toArray) (.int .i64 j)).run Tryz.prog w = .ok (.agg BX) w) := fun w => by rw [index185 w hj, hBX]
          have ha := (HR7.out.tk j hj).ans (H3.out j hj)
          obtain ⟨rv, ra, rb, rc⟩ := ha.rs
          have q0 : BX[11]? = some (.string (r'.tk j).an.f) := by rw [z3 11 (by omega)]; exact ha.f
          have q1 : BX[12]? = some rv := by rw [z3 12 (by omega)]; exact ra
          have q2 : BX[13]? = some (.int .i64 (r'.tk j).an.v.k) := by rw [z3 13 (by omega)]; exact ha.k
          have q3 : BX[14]? = some (.int .i64 (r'.tk j).an.v.n) := by rw [z3 14 (by omega)]; exact ha.n
          have q4 : BX[15]? = some (.string (r'.tk j).an.v.s) := by rw [z3 15 (by omega)]; exact ha.s
          have HST : Hid ((storeVar 184 ⟨wr.heap.size, 0, none⟩ (.agg BX)).run Tryz.prog (wr.alloc (.cells z16 184)) = .ok () (wr.alloc (.cells BX 184))) := run_storeVar_new wr 184 z16 BX (by rw [z1]; exact info184) (by rw [z1]; rfl) z2
          have hnew : (wr.alloc (.cells BX 184)).heap[wr.heap.size]? = some (.cells BX 184 (0, 0)) := rnew _ _ _
          have HL1 : Hid (LS x b wc j (wr.alloc (.cells BX 184))) := HL.out.below (bl1 _ _)
          have p0 : (wr.alloc (.cells BX 184)).cell? ⟨wr.heap.size, 11, none⟩ = some (.string (r'.tk j).an.f) := by rw [cell_of_row _ _ 11 BX 184 (0, 0) hnew]; exact q0
          have p1 : (wr.alloc (.cells BX 184)).cell? ⟨wr.heap.size, 12, none⟩ = some rv := by rw [cell_of_row _ _ 12 BX 184 (0, 0) hnew]; exact q1
          have p2 : (wr.alloc (.cells BX 184)).cell? ⟨wr.heap.size, 13, none⟩ = some (.int .i64 (r'.tk j).an.v.k) := by rw [cell_of_row _ _ 13 BX 184 (0, 0) hnew]; exact q2
          have p3 : (wr.alloc (.cells BX 184)).cell? ⟨wr.heap.size, 14, none⟩ = some (.int .i64 (r'.tk j).an.v.n) := by rw [cell_of_row _ _ 14 BX 184 (0, 0) hnew]; exact q3
          have p4 : (wr.alloc (.cells BX 184)).cell? ⟨wr.heap.size, 15, none⟩ = some (.string (r'.tk j).an.v.s) := by rw [cell_of_row _ _ 15 BX 184 (0, 0) hnew]; exact q4
          obtain ⟨xs, xa, xb⟩ := HL1.out.xb
          have hxc : ∀ t, t < 5 → ∃ u, (wr.alloc (.cells BX 184)).cell? ⟨x, 144 + j * 5 + t, none⟩ = some u := fun t ht => by
            rw [cell_of_row _ x _ xs 104 (0, 0) xa, Array.getElem?_eq_getElem (by omega)]; exact ⟨_, rfl⟩
          have hxf : ∀ t, (wr.alloc (.cells BX 184)).frozen? ⟨x, t, none⟩ = false := fun t => by simp [World.frozen?, xa]
          obtain ⟨y0, g0⟩ := hxc 0 (by omega)
          obtain ⟨y1, g1⟩ := hxc 1 (by omega)
          obtain ⟨y2, g2⟩ := hxc 2 (by omega)
          obtain ⟨y3, g3⟩ := hxc 3 (by omega)
          obtain ⟨y4, g4⟩ := hxc 4 (by omega)
          rw [Nat.add_zero] at g0
          have f0 := hxf (144 + j * 5)
          have f1 := hxf (144 + j * 5 + 1)
          have f2 := hxf (144 + j * 5 + 2)
          have f3 := hxf (144 + j * 5 + 3)
          have f4 := hxf (144 + j * 5 + 4)
          obtain ⟨ao, cp, hrv⟩ := Slc.len rb
          rw [hrv] at p1
          have HNX : Hid (LS x b wc (j + 1) ((wr.alloc (.cells BX 184)).drew.setCells x (144 + j * 5) [.string (r'.tk j).an.f, .slice ao (r'.tk j).an.rs.length cp, .int .i64 (r'.tk j).an.v.k, .int .i64 (r'.tk j).an.v.n, .string (r'.tk j).an.v.s])) := by
            refine (HL1.out.below ((Below.refl _ _).drew)).set hj rfl (fun t ht => ?_)
            rcases (show t = 0 ∨ t = 1 ∨ t = 2 ∨ t = 3 ∨ t = 4 by omega) with rfl | rfl | rfl | rfl | rfl
            · exact ha.f.symm
            · rw [ra, hrv]; rfl
            · exact ha.k.symm
            · exact ha.n.symm
            · exact ha.s.symm
          clear HJ hxc hxf xa xb hnew q0 q1 q2 q3 q4 z1 z2 z3 ha ra rb rc hBX HL HL1 hrv hj
          go_wp2_with (first
            | (refine wpList_index_run (P := Tryz.prog) ?_ 185 (.tmp 42) (.tmp 43) ?_ (.agg TK.toArray) (.int .i64 j) (.agg BX) ?_ ?_ ?_ ?_; (rfl); (rfl); (rfl); (rfl); (exact HIX.out _))
            | (refine wpList_store_run (P := Tryz.prog) ?_ 184 (.tmp 11) (.tmp 46) ?_ ⟨wr.heap.size, 0, none⟩ (.agg BX) ?_ ?_ (wr.alloc (.cells BX 184)) ?_ ?_; (rfl); (rfl); (rfl); (rfl); (exact HST.out)))
          clear HST
          go_region
          all_goals
            go_wp2_with fail
            go_roundw
            case rel => exact ⟨j + 1, by go_num, HJ'.out, HNX⟩
            case measure => simp [intOf]; omega
        · have hge : ¬ (j : Int) < 48 := by omega
          have hj48 : j = 48 := by have := HJ.out; omega
          rw [hj48] at HL
          obtain ⟨v, v1, v2⟩ := HR7.out.bg
          have hbx : b ≠ x := fun e => HR7.out.xb e.symm
          have hbl : wr.heap[b]? = wc.heap[b]? := HL.out.only.block b HR7.out.lt hbx
          have v1' : wr.cell? ⟨b, 1058, none⟩ = some v := by rw [World.cell?_of_block (w := wc) hbl]; exact v1
          obtain ⟨hsr, hon⟩ := sheet_done HSR.out HBB.out HR7.out HS7.out HC7.out H3.out HL.out
          obtain ⟨ao, cp, hv⟩ := v2.sl.len
          have HFIN : Hid (WorkP E k fs order way ⟨fun c => (r'.tk c).an, ch', r'.store⟩ r'.bg ∧ SR wr x fs bd ⟨fun c => (r'.tk c).an, ch', r'.store⟩ ∧ Only x W wr ∧ Slc wr 9 1 (.slice ao r'.bg.length cp) r'.bg.length (r'.bg.map nmV) ∧ ∀ g, (Value.slice ao r'.bg.length cp).ownBlock = some g → W.heap.size ≤ g) := by
            rw [← hv]
            refine ⟨.inr ⟨HNW.out, mk, r', ch', HM.out, HRO.out, rfl, rfl⟩, hsr, hon, ?_, fun g hg => ?_⟩
            · refine v2.sl.kept fun g hg => HL.out.only.block g (v2.sl.lt g hg) fun e => ?_
              have e : g = x := e
              have h1 := (v2.col g hg).1
              rw [e, HR7.out.xo] at h1
              cases h1
            · refine Nat.le_of_not_lt fun hlt => ?_
              have h1 := (v2.col g hg).1
              rw [HS7.out.zero g hlt rfl] at h1
              cases h1
          rw [hv] at v1'
          clear HJ hj hj48 hsr hon v1 v2 hbl hbx hv HL
          go_wp2_with fail
          go_ret
          exact ⟨_, rfl, _, _, HFIN⟩
end Go.Proofs.YtlpmmmmniojflaaGreatDoor
