/- Texts put together. -/
import Derived.Test.YtlpmmmmniojflaaGreatDoorUg
import Derived.Test.YtlpmmmmniojflaaGreatDoorQ23
import Derived.Test.YtlpmmmmniojflaaGreatDoorQ22
import Derived.Test.YtlpmmmmniojflaaGreatDoorQ13
import Derived.Test.YtlpmmmmniojflaaGreatDoorQ42
/- A sheet, walked: Work. -/
set_option linter.unusedVariables false
set_option linter.unusedSimpArgs false
namespace Go.Proofs.YtlpmmmmniojflaaGreatDoor
open Go.RowKit
theorem info72 : (Tryz.prog.info? 72).map (·.size) = some 1 := by kernel_rfl
set_option maxRecDepth 100000 in
set_option maxHeartbeats 8000000 in
theorem work37 {E : Env} (hE : EnvOK E) (W : World) (x order way : Nat) (fs0 fs : Nat → ByteArray) (bd : Nat → Int × Int) (k : Kp) (h : SR W x fs bd k) (hV : EVc W own0) (hk : KInv E fs0 k) (hfs : FsOK E fs) (hF : EnvF E fs) (ho : order < 3) (hw : way < 3) :
    Calls Tryz.prog 37 #[.pointer (some ⟨x, 0, none⟩), .int .i64 order, .int .i64 way] W fun e w' => ∃ v k' bg, e = .returned (.tuple #[.agg #[v], .int .i64 0]) ∧ Hid (WorkP E k fs order way k' bg ∧ SR w' x fs bd k' ∧ Only x W w' ∧ Slc w' 9 1 v bg.length (bg.map nmV) ∧ ∀ g, v.ownBlock = some g → W.heap.size ≤ g) := by
  have HE : Hid (EnvOK E) := hE
  have HSR : Hid (SR W x fs bd k) := h
  have HV : Hid (EVc W own0) := hV
  have HK : Hid (KInv E fs0 k) := hk
  have HFS : Hid (FsOK E fs) := hfs
  have HF : Hid (EnvF E fs) := hF
  have HO : Hid (order < 3 ∧ way < 3) := ⟨ho, hw⟩
  have HXW : Hid (x < W.heap.size) := h.lt
  have c1 : ¬ (order : Int) < 0 := by omega
  have c2 : ¬ (2 : Int) < (order : Int) := by omega
  have c3 : ¬ (way : Int) < 0 := by omega
  have c4 : ¬ (2 : Int) < (way : Int) := by omega
  obtain ⟨FL, hFL⟩ : ∃ FL, FL = (List.range 48).map fun c => Value.string (fs c) := ⟨_, rfl⟩
  have hfl : FL.length = 48 := by rw [hFL]; simp
  have hfg : ∀ c, c < 48 → FL[c]? = some (.string (fs c)) := fun c hc => by rw [hFL, List.getElem?_map, List.getElem?_range hc]; rfl
  have HFL : Hid (FL.length = 48 ∧ ∀ c, c < 48 → FL[c]? = some (.string (fs c))) := ⟨hfl, hfg⟩
  have hrg : W.rangeAt x 0 FL := by rw [hFL]; exact h.row.1
  have hi1 : (Tryz.prog.info? 89).map (·.size) = some FL.length := by rw [hfl]; exact info89
  have HRG : Hid (W.rangeAt x 0 FL) := hrg
  clear hE h hV hk hfs hF ho hw hFL hfl hfg hrg
  go_enter Tryz.func37, Tryz.ntmps37
  go_wp2_with fail
  have HB1 : Hid (Below W.heap.size W (W.alloc (.cells #[.slice none 0 0] 72))) := bl1 _ _
  have HQ1 : Hid ((W.alloc (.cells #[.slice none 0 0] 72)).heap[W.heap.size]? = some (.cells #[.slice none 0 0] 72 (0, 0))) := rnew _ _ _
  generalize W.alloc (Obj.cells #[.slice none 0 0] 72) = W1 at *
  have hS0 : (fun w' : World => w'.rangeAt x 0 FL) { W1 with drawn := W1.drawn + 1 } := fun j v hj => by
    have e := HB1.out.cell (p := ⟨x, 0 + j, none⟩) HXW.out
    show W1.cell? ⟨x, 0 + j, none⟩ = some v
    rw [e]; exact HRG.out j v hj
  refine wp_region_held (S := fun w' : World => w'.rangeAt x 0 FL) (by kernel_rfl) ?_
  refine wpAnyH_take (i := 0) (v := .pointer (some ⟨x, 0, none⟩)) rfl (by kernel_rfl) (by kernel_rfl) (by kernel_rfl) (fun _ _ _ h => h) (Or.inl ⟨by rfl, fun w hSw => by go_simp⟩) hS0 ?_
  (try simp only [Act.put, List.setIfInBounds_toArray, List.set_cons_zero, List.set_cons_succ, List.getElem_toArray, List.getElem_cons_zero, List.getElem_cons_succ])
  refine wpAnyH_take (i := 1) (v := .pointer (some ⟨x, 0, none⟩)) rfl (by kernel_rfl) (by kernel_rfl) (by kernel_rfl) (fun _ _ _ h => h) (Or.inl ⟨by rfl, fun w hSw => by go_simp⟩) hS0 ?_
  (try simp only [Act.put, List.setIfInBounds_toArray, List.set_cons_zero, List.set_cons_succ, List.getElem_toArray, List.getElem_cons_zero, List.getElem_cons_succ])
  refine wpAnyH_take (i := 2) (v := .pointer (some ⟨x, 144, none⟩)) rfl (by kernel_rfl) (by kernel_rfl) (by kernel_rfl) (fun _ _ _ h => h) (Or.inl ⟨by rfl, fun w hSw => by go_simp⟩) hS0 ?_
  (try simp only [Act.put, List.setIfInBounds_toArray, List.set_cons_zero, List.set_cons_succ, List.getElem_toArray, List.getElem_cons_zero, List.getElem_cons_succ])
  refine wpAnyH_take (i := 3) (v := .pointer (some ⟨x, 0, none⟩)) rfl (by kernel_rfl) (by kernel_rfl) (by kernel_rfl) (fun _ _ _ h => h) (Or.inl ⟨by rfl, fun w hSw => by go_simp⟩) hS0 ?_
  (try simp only [Act.put, List.setIfInBounds_toArray, List.set_cons_zero, List.set_cons_succ, List.getElem_toArray, List.getElem_cons_zero, List.getElem_cons_succ])
  refine wpAnyH_take (i := 4) (v := .pointer (some ⟨x, 0, none⟩)) rfl (by kernel_rfl) (by kernel_rfl) (by kernel_rfl) (fun _ _ _ h => h) (Or.inl ⟨by rfl, fun w hSw => by go_simp⟩) hS0 ?_
  (try simp only [Act.put, List.setIfInBounds_toArray, List.set_cons_zero, List.set_cons_succ, List.getElem_toArray, List.getElem_cons_zero, List.getElem_cons_succ])
  refine wpAnyH_take (i := 5) (v := .pointer (some ⟨x, 0, none⟩)) rfl (by kernel_rfl) (by kernel_rfl) (by kernel_rfl) (fun _ _ _ h => h) (Or.inl ⟨by rfl, fun w hSw => by go_simp⟩) hS0 ?_
  (try simp only [Act.put, List.setIfInBounds_toArray, List.set_cons_zero, List.set_cons_succ, List.getElem_toArray, List.getElem_cons_zero, List.getElem_cons_succ])
  refine wpAnyH_take (i := 6) (v := .agg FL.toArray) rfl (by kernel_rfl) (by kernel_rfl) (by kernel_rfl) (fun _ _ _ h => h) (yieldsIf_load_mid (by rfl) 89 (.tmp 28) rfl x 0 rfl FL (.array 48 9) (fun w hS => hS) Tryz.underlying89 rfl hi1) hS0 ?_
  (try simp only [Act.put, List.setIfInBounds_toArray, List.set_cons_zero, List.set_cons_succ, List.getElem_toArray, List.getElem_cons_zero, List.getElem_cons_succ])
  refine wpAnyH_take (i := 7) (v := .int .i64 order) rfl (by kernel_rfl) (by kernel_rfl) (by kernel_rfl) (fun _ _ _ h => h) (Or.inl ⟨by rfl, fun w hSw => by go_simp⟩) hS0 ?_
  (try simp only [Act.put, List.setIfInBounds_toArray, List.set_cons_zero, List.set_cons_succ, List.getElem_toArray, List.getElem_cons_zero, List.getElem_cons_succ])
  refine wpAnyH_take (i := 8) (v := .int .i64 way) rfl (by kernel_rfl) (by kernel_rfl) (by kernel_rfl) (fun _ _ _ h => h) (Or.inl ⟨by rfl, fun w hSw => by go_simp⟩) hS0 ?_
  (try simp only [Act.put, List.setIfInBounds_toArray, List.set_cons_zero, List.set_cons_succ, List.getElem_toArray, List.getElem_cons_zero, List.getElem_cons_succ])
  refine wpAnyH_ready (rs := [9]) (by kernel_rfl) (by simp) ?_
  refine AllReadyH.cons rfl (fun K hK => ?_) AllReadyH.nil
  go_simp
  have HBD : Hid (Below W.heap.size W { W1 with drawn := W1.drawn + 1 }) := HB1.out.drew
  refine (work58 HE.out _ x order way fs0 fs bd k FL HFL.out.1 HFL.out.2 (HSR.out.below HBD.out) (HV.out.below HBD.out (fun _ _ => rfl)) HK.out HFS.out HF.out HO.out.1 HO.out.2).mono ?_
  rintro e w6 ⟨v, k', bg, rfl, h6⟩
  have HX6 : Hid (Only x W1 w6) := Only.trans (b := { W1 with drawn := W1.drawn + 1 }) ⟨rfl, rfl, rfl, Nat.le_refl _, fun _ _ _ => rfl⟩ h6.out.2.2.1
  obtain ⟨ao, cp, rfl⟩ := h6.out.2.2.2.1.len
  have HNE : Hid (W.heap.size < W1.heap.size) := (Array.getElem?_eq_some_iff.1 HQ1.out).1
  have hS6 : w6.rangeAt x 0 FL := fun j v hj => by
    have hj' : j < 48 := by have := (List.getElem?_eq_some_iff.1 hj).1; have := HFL.out.1; omega
    rw [Nat.zero_add, h6.out.2.1.fs j hj', ← HFL.out.2 j hj']; exact hj
  refine hK.out _ _ hS6 (fun _ => ?_)
  clear hK K
  refine wpAnyH_take (i := 10) (v := .agg #[.slice ao bg.length cp]) rfl (by kernel_rfl) (by kernel_rfl) (by kernel_rfl) (fun _ _ _ h => h) (Or.inl ⟨by rfl, fun w hSw => by go_simp⟩) hS6 ?_
  (try simp only [Act.put, List.setIfInBounds_toArray, List.set_cons_zero, List.set_cons_succ, List.getElem_toArray, List.getElem_cons_zero, List.getElem_cons_succ])
  have hq6 : w6.heap[W.heap.size]? = some (.cells #[.slice none 0 0] 72 (0, 0)) := by
    rw [HX6.out.block _ HNE.out (by have := HXW.out; omega)]; exact HQ1.out
  have r1 : w6.cell? ⟨W.heap.size, 0, none⟩ = some (.slice none 0 0) := cell_of_row w6 _ 0 _ 72 (0, 0) hq6
  have r2 : w6.frozen? ⟨W.heap.size, 0, none⟩ = false := by simp [World.frozen?, hq6]
  refine wpAnyH_ready (rs := [11]) (by kernel_rfl) (by simp) ?_
  refine AllReadyH.cons rfl (fun K hK => ?_) AllReadyH.nil
  go_simp
  have hS7 : (w6.setCell ⟨W.heap.size, 0, none⟩ (.slice ao bg.length cp)).rangeAt x 0 FL := fun j v hj => by
    rw [World.cell?_setCell_far _ _ _ _ (by show W.heap.size ≠ x; have := HXW.out; omega)]; exact hS6 j v hj
  refine hK.out _ _ hS7 (fun _ => ?_)
  clear hK K
  refine wpAnyH_take (i := 12) (v := .int .i64 0) rfl (by kernel_rfl) (by kernel_rfl) (by kernel_rfl) (fun _ _ _ h => h) (Or.inl ⟨by rfl, fun w hSw => by go_simp⟩) hS7 ?_
  (try simp only [Act.put, List.setIfInBounds_toArray, List.set_cons_zero, List.set_cons_succ, List.getElem_toArray, List.getElem_cons_zero, List.getElem_cons_succ])
  refine wpAnyH_done (by kernel_rfl) ?_ _
  have HB7 : Hid (Only W.heap.size w6 (w6.setCell ⟨W.heap.size, 0, none⟩ (.slice ao bg.length cp))) := ⟨rfl, rfl, rfl, by simp, fun k hk hne => Below.heap_setCell _ _ _ _ hne⟩
  have HFIN : Hid (WorkP E k fs order way k' bg ∧ SR (w6.setCell ⟨W.heap.size, 0, none⟩ (.slice ao bg.length cp)) x fs bd k' ∧ Only x W (w6.setCell ⟨W.heap.size, 0, none⟩ (.slice ao bg.length cp)) ∧ Slc (w6.setCell ⟨W.heap.size, 0, none⟩ (.slice ao bg.length cp)) 9 1 (.slice ao bg.length cp) bg.length (bg.map nmV) ∧ ∀ g, (Value.slice ao bg.length cp).ownBlock = some g → W.heap.size ≤ g) := by
    obtain ⟨g1, g2, g3, g4, g5⟩ := h6.out
    have g5 : ∀ g, (Value.slice ao bg.length cp).ownBlock = some g → W1.heap.size ≤ g := g5
    refine ⟨g1, g2.only HB7.out (by have := HXW.out; omega) (fun cur hc => ?_), ?_, g4.kept fun g hg => HB7.out.block g (g4.lt g hg) (by have := g5 g hg; have := HNE.out; omega), fun g hg => by have := g5 g hg; have := HNE.out; omega⟩
    · rw [hq6] at hc; cases hc
    · refine ⟨HX6.out.os.trans HB1.out.os, HX6.out.tape.trans HB1.out.tape, HX6.out.output.trans HB1.out.output, ?_, fun g hg hne => ?_⟩
      · have h1 := HX6.out.size; have h2 := HB7.out.size; have h3 := HNE.out; omega
      · rw [HB7.out.block g (by have h1 := HX6.out.size; have h3 := HNE.out; omega) (by omega), HX6.out.block g (by have h3 := HNE.out; omega) hne, HB1.out.block g hg]
  have HQ7 : Hid ((w6.setCell ⟨W.heap.size, 0, none⟩ (.slice ao bg.length cp)).heap[W.heap.size]? = some (.cells #[.slice ao bg.length cp] 72 (0, 0))) := rset hq6
  clear r1 r2 hq6 hS6 hS7 h6 HB7 hS0
  generalize w6.setCell ⟨W.heap.size, 0, none⟩ (.slice ao bg.length cp) = w7 at *
  go_wp2_with fail
  refine bodyPost_ret (results_ct rfl _ _ _ ⟨W.heap.size, 0, none⟩ _ _ rfl (run_loadVar_row _ _ 72 72 _ (0, 0) _ HQ7.out Tryz.underlying72 rfl info72)) rfl ?_
  exact ⟨_, k', bg, rfl, HFIN⟩
end Go.Proofs.YtlpmmmmniojflaaGreatDoor
/- The statements' helpers, walked: is, fails, has. -/
set_option linter.unusedVariables false
set_option linter.unusedSimpArgs false
namespace Go.Proofs.YtlpmmmmniojflaaGreatDoor
open Go.RowKit
theorem cmpv (s u : V) : (s.eqB u = true ∧ s.k = u.k ∧ s.n = u.n ∧ s.s = u.s) ∨ (s.eqB u = false ∧ ¬ s.k = u.k) ∨ (s.eqB u = false ∧ s.k = u.k ∧ ¬ s.n = u.n) ∨ (s.eqB u = false ∧ s.k = u.k ∧ s.n = u.n ∧ ¬ s.s.toList = u.s.toList) := by
  by_cases h1 : s.k = u.k
  · by_cases h2 : s.n = u.n
    · by_cases h3 : s.s = u.s
      · exact .inl ⟨eqB_iff.2 (by cases s; cases u; simp_all), h1, h2, h3⟩
      · exact .inr (.inr (.inr ⟨eqB_ne (fun e => h3 (by rw [e])), h1, h2, fun e => h3 (ba_list e)⟩))
    · exact .inr (.inr (.inl ⟨eqB_ne (fun e => h2 (by rw [e])), h1, h2⟩))
  · exact .inr (.inl ⟨eqB_ne (fun e => h1 (by rw [e])), h1⟩)
theorem empty_list {s : ByteArray} (h : ¬ s.toList = eB.toList) : s.toList.isEmpty = false := by
  cases hl : s.toList with
  | nil => exact absurd (by rw [hl]; simp [eB]) h
  | cons a l => rfl
theorem nx_nums {i n : Nat} (h : i < n) (hn : n ≤ maxLen) : IntKind.i64.wrap ((i : Int) + 1) = (i : Int) + 1 ∧ wrap64 ((i : Int) + 1) = (i : Int) + 1 := by
  unfold maxLen at hn
  exact ⟨by rw [IntKind.wrap_i64]; omega, by unfold wrap64; omega⟩
section
variable {fs : Nat → ByteArray} {bd : Nat → Int × Int} {k : Kp}
set_option maxRecDepth 100000 in
set_option maxHeartbeats 4000000 in
theorem is_w (W : World) (x : Nat) (h : Hid (SR W x fs bd k)) (s : ByteArray) (c : Nat) (hs : Hid (cellN s.data.toList = some c)) (n : Int) :
    Calls Tryz.prog 27 #[.pointer (some ⟨x, 0, none⟩), .string s, .int .i64 n] W fun e w' => e = .returned (.bool ((k.last c).v.eqB (vI n))) ∧ Below W.heap.size W w' := by
  have key := cmpv (k.last c).v (vI n)
  obtain ⟨B, hB⟩ : ∃ B, (k.last c).v.eqB (vI n) = B := ⟨_, rfl⟩
  rw [hB] at key ⊢
  clear hB
  obtain ⟨v, hv⟩ : ∃ v, (k.last c).v = v := ⟨_, rfl⟩
  have HV : Hid ((k.last c).v = v) := hv
  rw [hv] at key
  clear hv
  have e1 : (vI n).k = 1 := rfl
  have e2 : (vI n).n = n := rfl
  have e3 : (vI n).s = eB := rfl
  rw [e1, e2, e3] at key
  clear e1 e2 e3
  rcases key with ⟨rfl, h1, h2, h3⟩ | ⟨rfl, h1⟩ | ⟨rfl, h1, h2⟩ | ⟨rfl, h1, h2, h3⟩
  all_goals
    go_enter Tryz.func27, Tryz.ntmps27
    go_wp2_with fail
    refine (value_some W x h.out s c hs.out).mono ?_
    rintro e w1 ⟨rfl, hb1⟩
    rw [HV.out]
    have HB1 : Hid (Below W.heap.size W w1) := hb1
    clear hb1
  · rw [h1, h2, h3]
    unfold eB
    go_wp2_with fail
    go_ret
    exact ⟨rfl, HB1.out.alloc HB1.out.size _⟩
  · have b1 : (v.k == 1) = false := by simpa using h1
    go_wp2_with fail
    go_ret
    exact ⟨rfl, HB1.out.alloc HB1.out.size _⟩
  · rw [h1]
    have b1 : (v.n == n) = false := by simpa using h2
    go_wp2_with fail
    go_ret
    exact ⟨rfl, HB1.out.alloc HB1.out.size _⟩
  · rw [h1, h2]
    have b1 := empty_list h3
    go_wp2_with fail
    go_ret
    exact ⟨rfl, HB1.out.alloc HB1.out.size _⟩
def hasB (bg : List Nat) (s : ByteArray) : Bool := bg.any (fun c => decide (nm c = s))
set_option maxRecDepth 100000 in
set_option maxHeartbeats 4000000 in
theorem has_w (W : World) (v : Value) (bg : List Nat) (s : ByteArray) (h : Hid (Slc W 9 1 v bg.length (bg.map nmV))) :
    Calls Tryz.prog 34 #[v, .string s] W fun e w' => e = .returned (.bool (hasB bg s)) ∧ w' = W := by
  obtain ⟨ao, cp, rfl⟩ := h.out.len
  have HMX : Hid (bg.length ≤ maxLen) := h.out.max
  go_enter Tryz.func34, Tryz.ntmps34
  go_wp2_with fail
  go_loopw [5] (fun u wr => ∃ i : Nat, u = .int .i64 i ∧ wr = W ∧ Hid (i ≤ bg.length) ∧ Hid (hasB (bg.take i) s = false)) (fun u _ => (bg.length - intOf u).toNat)
  case atStart => exact ⟨0, rfl, rfl, Nat.zero_le _, rfl⟩
  case round =>
    obtain ⟨i, rfl, rfl, HI, HN⟩ := hrel
    by_cases hi : i < bg.length
    · obtain ⟨c, hc⟩ : ∃ c, bg[i]? = some c := ⟨_, List.getElem?_eq_getElem hi⟩
      obtain ⟨g, o, cap, e, hcp⟩ := Slc.at h.out (by omega)
      cases e
      have hcell := Slc.cell h.out i (nmV c) (by rw [List.getElem?_map, hc]; rfl)
      unfold nmV at hcell
      obtain ⟨n1, n2⟩ := nx_nums hi HMX.out
      have hii : (i : Int) < (bg.length : Int) := by omega
      have hi0 : 0 ≤ (i : Int) := by omega
      have HII : Hid (i < bg.length) := hi
      have HTK : Hid (bg.take (i + 1) = bg.take i ++ [c]) := by unfold Hid; rw [List.take_add_one, hc]; rfl
      by_cases he : nm c = s
      · have HT : Hid (hasB bg s = true) := by
          unfold Hid hasB
          rw [List.any_eq_true]
          exact ⟨c, List.mem_of_getElem? hc, by simpa using he⟩
        rw [he] at hcell
        clear hc hi HI he
        go_wp2_with fail
        go_ret
        rw [HT.out]
        exact ⟨rfl, rfl⟩
      · have hfl : ¬ (nm c).toList = s.toList := fun e => he (ba_list e)
        have hfb : ((nm c).toList == s.toList) = false := by simpa using hfl
        have HE : Hid (¬ nm c = s) := he
        clear hc hi HI he
        go_wp2_with fail
        go_roundw
        case rel =>
          refine ⟨i + 1, by go_num, by trivial, HII.out, ?_⟩
          unfold Hid
          rw [HTK.out]
          unfold hasB
          rw [List.any_append]
          have h1 : (bg.take i).any (fun c => decide (nm c = s)) = false := HN.out
          rw [h1]
          simp
          exact HE.out
        case measure => have := HII.out; simp [intOf]; omega
    · have hge : ¬ (i : Int) < (bg.length : Int) := by omega
      have HF : Hid (hasB bg s = false) := by
        have h1 := HN.out
        rw [List.take_of_length_le (by omega)] at h1
        exact h1
      clear hi HI
      go_wp2_with fail
      go_ret
      rw [HF.out]
      exact ⟨rfl, rfl⟩
end
end Go.Proofs.YtlpmmmmniojflaaGreatDoor
/- The statement's small functions on sheets: pick, begin, set. -/
set_option linter.unusedVariables false
set_option linter.unusedSimpArgs false
namespace Go.Proofs.YtlpmmmmniojflaaGreatDoor
open Go.RowKit
def pk (c : Int) (n : Nat) : Nat := if c < 0 then ((-(c + 1)).toNat) % n else c.toNat % n
theorem pk_lt (c : Int) {n : Nat} (h : 0 < n) : pk c n < n := by unfold pk; split <;> exact Nat.mod_lt _ h
theorem tmod_nat {a : Int} {n : Nat} (ha : 0 ≤ a) : a.tmod n = ((a.toNat % n : Nat) : Int) := by
  obtain ⟨m, rfl⟩ := Int.eq_ofNat_of_zero_le ha
  rfl
set_option maxHeartbeats 1000000 in
theorem pick_any (c : Int) (n : Nat) (hc : I64 c) (hn : 0 < n) (hn2 : n ≤ 1000) (w : World) : Calls Tryz.prog 33 #[.int .i64 c, .int .i64 n] w fun e w' => e = .returned (.int .i64 (pk c n)) ∧ w' = w := by
  unfold I64 at hc
  obtain ⟨hc1, hc2⟩ := hc
  have hn0 : ((n : Int) == 0) = false := by simpa using (by omega : (n : Int) ≠ 0)
  have hn1 : ¬ (n : Int) = 0 := by omega
  by_cases h : c < 0
  · have hw1 : wrap64 (c + 1) = c + 1 := by unfold wrap64; omega
    have hw2 : wrap64 (-(c + 1)) = -(c + 1) := by unfold wrap64; omega
    have ht : (-(c + 1)).tmod (n : Int) = (pk c n : Nat) := by unfold pk; rw [if_pos h]; exact tmod_nat (by omega)
    go_enter Tryz.func33, Tryz.ntmps33
    go_wp2_with fail
    go_ret
    exact ⟨rfl, rfl⟩
  · have ht : c.tmod (n : Int) = (pk c n : Nat) := by unfold pk; rw [if_neg h]; exact tmod_nat (by omega)
    go_enter Tryz.func33, Tryz.ntmps33
    go_wp2_with fail
    go_ret
    exact ⟨rfl, rfl⟩
set_option maxHeartbeats 1000000 in
theorem begin_any (c : Int) (hc : I64 c) (w : World) :
    Calls Tryz.prog 19 #[.int .i64 c] w fun e w' => ∃ x, e = .returned (.tuple #[.pointer (some ⟨x, 0, none⟩), .bool true]) ∧ Hid (w.heap.size ≤ x) ∧ Hid (Below w.heap.size w w') ∧ Hid (SR w' x fs0 bd0 (k0 (pk c 65))) := by
  have HC : Hid _ := hc
  clear hc
  go_enter Tryz.func19, Tryz.ntmps19
  go_wp2_with fail
  refine (pick_any c 65 HC.out (by omega) (by omega) _).mono ?_
  rintro e w1 ⟨rfl, rfl⟩
  go_wp2_with fail
  refine (new_any (pk c 65) (by have := pk_lt c (n := 65) (by omega); omega) _).mono ?_
  rintro e w1 ⟨x, rfl, h1, h2, h3⟩
  go_wp2_with fail
  go_ret2
  exact ⟨_, rfl, h1, h2, h3⟩
theorem er_zero (bd : Nat → Int × Int) : ∀ (es : List (ByteArray × ByteArray)) (i : Nat) (fs : Nat → ByteArray), (edR bd i es fs).e = 0 → (edR bd i es fs).i = 0 ∧ (edR bd i es fs).p = 0
  | [], i, fs, _ => ⟨rfl, rfl⟩
  | e :: l, i, fs, h => by
    unfold edR at h ⊢
    by_cases h0 : (ckP bd e.1 e.2).e ≠ 0
    · rw [if_pos h0] at h; exact absurd h h0
    · rw [if_neg h0] at h ⊢; exact er_zero bd l _ _ h
section
variable {fs : Nat → ByteArray} {bd : Nat → Int × Int} {k : Kp}
set_option maxHeartbeats 1000000 in
theorem set_any (W : World) (x : Nat) (cl tx : ByteArray) (hSR : Hid (SR W x fs bd k)) (hA : Hid (Amb W)) (hl : Hid (tx.size ≤ maxLen)) :
    Calls Tryz.prog 20 #[.pointer (some ⟨x, 0, none⟩), .string cl, .string tx] W fun e w' => e = .returned (.bool (decide ((edR bd 0 [(cl, tx)] fs).e = 0))) ∧ Hid (((edR bd 0 [(cl, tx)] fs).e ≠ 0 → Below W.heap.size W w') ∧ ((edR bd 0 [(cl, tx)] fs).e = 0 → Only x W w' ∧ SR w' x (edR bd 0 [(cl, tx)] fs).fs bd k)) := by
  go_enter Tryz.func20, Tryz.ntmps20
  go_wp2_with fail
  have HB1 : Hid (Below W.heap.size W (W.alloc (.cells #[.string cl, .string tx] 68))) := bl1 _ _
  have HV : Hid (Slc (W.alloc (.cells #[.string cl, .string tx] 68)) 68 2 (.slice (some ⟨W.heap.size, 0, none⟩) 1 1) 1 ([(cl, tx)].flatMap edC)) :=
    ⟨rfl, .inr ⟨W.heap.size, 0, 1, _, rfl, heap_alloc_new W _, Nat.le_refl _, by unfold maxLen; omega, by simp, rfl⟩⟩
  refine (edit_any (fs := fs) (bd := bd) (k := k) _ x _ [(cl, tx)] (hSR.out.below HB1.out) (hA.out.below HB1.out) HV (by simp) (by intro e he; simp at he; subst he; exact hl.out)).mono ?_
  rintro e w1 ⟨rfl, h2⟩
  have HZ : Hid _ := er_zero bd [(cl, tx)] 0 fs
  have H2 : Hid (((edR bd 0 [(cl, tx)] fs).e ≠ 0 → Below W.heap.size W w1) ∧ ((edR bd 0 [(cl, tx)] fs).e = 0 → Only x W w1 ∧ SR w1 x (edR bd 0 [(cl, tx)] fs).fs bd k)) :=
    ⟨fun h => HB1.out.trans ((h2.out.1 h).mono (by simp)), fun h => ⟨(Below.only HB1.out x).trans (h2.out.2 h).1, (h2.out.2 h).2⟩⟩
  clear h2 HV
  obtain ⟨r, hr⟩ : ∃ r, edR bd 0 [(cl, tx)] fs = r := ⟨_, rfl⟩
  have HRR : Hid _ := hr
  rw [hr] at HZ H2 ⊢
  clear hr
  by_cases h0 : r.e = 0
  · obtain ⟨z1, z2⟩ := HZ.out h0
    have h0' : (r.e == 0) = true := by simpa using h0
    have H0 : Hid _ := h0
    rw [z1, z2]
    clear h0
    go_wp2_with fail
    go_ret
    rw [HRR.out]
    exact ⟨ret_bool (by simp [H0.out]), H2⟩
  · have h0' : (r.e == 0) = false := by simpa using h0
    have H0 : Hid _ := h0
    clear h0
    go_wp2_with fail
    go_ret
    rw [HRR.out]
    exact ⟨ret_bool (decide_eq_false H0.out).symm, H2⟩
end
end Go.Proofs.YtlpmmmmniojflaaGreatDoor
/- The statements' helpers, walked: worked; what stays of a place where sheets are worked out. -/
set_option linter.unusedVariables false
set_option linter.unusedSimpArgs false
namespace Go.Proofs.YtlpmmmmniojflaaGreatDoor
open Go.RowKit
theorem EVc.ofVar {w : World} (h : ErrVar w) : EVc w own0 := by
  obtain ⟨tp, p, h⟩ := h
  unfold World.var? at h
  cases hg : Tryz.prog.globalNamed "strconv.ErrRange" with
  | none => rw [hg] at h; simp at h
  | some g =>
    rw [hg] at h
    cases hb : w.heap[g]? with
    | none => simp [hb] at h
    | some o =>
      cases o with
      | cells cs t f =>
        simp [hb] at h
        subst h
        exact ⟨g, tp, p, t, f, hg, rfl, hb⟩
      | _ => simp [hb] at h
set_option maxRecDepth 100000 in
set_option maxHeartbeats 4000000 in
theorem worked26 {E : Env} (hE : Hid (EnvOK E)) (W : World) (x : Nat) (how : Int) (hh : Hid (I64 how)) (fs0 fs : Nat → ByteArray) (bd : Nat → Int × Int) (k : Kp) (h : Hid (SR W x fs bd k)) (hV : Hid (EVc W own0)) (hk : Hid (KInv E fs0 k)) (hfs : Hid (FsOK E fs)) (hF : Hid (EnvF E fs)) :
    Calls Tryz.prog 26 #[.pointer (some ⟨x, 0, none⟩), .int .i64 how] W fun e w' => ∃ v k' bg, e = .returned (.tuple #[v, .bool true]) ∧ Hid (WorkP E k fs (pk how 9 / 3) (pk how 9 % 3) k' bg ∧ SR w' x fs bd k' ∧ Only x W w' ∧ Slc w' 9 1 v bg.length (bg.map nmV) ∧ ∀ g, v.ownBlock = some g → W.heap.size ≤ g) := by
  obtain ⟨p, hp⟩ : ∃ p, pk how 9 = p := ⟨_, rfl⟩
  have hp9 : p < 9 := by rw [← hp]; exact pk_lt how (by omega)
  have HP : Hid (pk how 9 = p) := hp
  rw [hp]
  have d1 : (p : Int).tdiv 3 = ((p / 3 : Nat) : Int) := by rw [Int.tdiv_eq_ediv_of_nonneg (by omega)]; omega
  have d2 : (p : Int).tmod 3 = ((p % 3 : Nat) : Int) := by rw [Int.tmod_eq_emod_of_nonneg (by omega)]; omega
  have HP9 : Hid (p < 9) := hp9
  clear hp
  go_enter Tryz.func26, Tryz.ntmps26
  go_wp2_with fail
  refine (pick_any how 9 hh.out (by omega) (by omega) _).mono ?_
  rintro e w1 ⟨rfl, rfl⟩
  rw [HP.out]
  go_wp2_with fail
  refine (work37 hE.out _ x (p / 3) (p % 3) fs0 fs bd k h.out hV.out hk.out hfs.out hF.out (by have := HP9.out; omega) (by omega)).mono ?_
  rintro e w2 ⟨v, k', bg, rfl, h2⟩
  obtain ⟨ao, cp, rfl⟩ := h2.out.2.2.2.1.len
  go_wp2_with fail
  go_ret2
  refine ⟨_, k', bg, rfl, ?_⟩
  obtain ⟨g1, g2, g3, g4, g5⟩ := h2.out
  exact ⟨g1, g2.below (bl1 _ _), g3.trans (Go.Proofs.YtlpmmmmniojflaaGreatDoor.Below.only (bl1 _ _) x), g4.kept fun g hg => Below.heap_alloc _ _ _ (g4.lt g hg), g5⟩
end Go.Proofs.YtlpmmmmniojflaaGreatDoor
/- Texts of the statements: what comes of them. -/
set_option linter.unusedVariables false
set_option linter.unusedSimpArgs false
namespace Go.Proofs.YtlpmmmmniojflaaGreatDoor
open Go.RowKit
def np (t : Tk) : Tk := tk t.k t.x
def npR (r : List Ins × Beh × List Tk) : List Ins × Beh × List Tk := (r.1, r.2.1, r.2.2.map np)
theorem hk_np (ts : List Tk) : hk (ts.map np) = hk ts := by cases ts <;> rfl
theorem hx_np (ts : List Tk) : hx (ts.map np) = hx ts := by cases ts <;> rfl
theorem tail_np (ts : List Tk) : (ts.map np).tail = ts.tail.map np := by cases ts <;> rfl
theorem bind_np {x : Option (List Ins × Beh × List Tk)} {g h : List Ins × Beh × List Tk → Option (List Ins × Beh × List Tk)} (hg : ∀ a, g (npR a) = (h a).map npR) : (x.map npR).bind g = (x.bind h).map npR := by
  cases x with
  | none => rfl
  | some a => exact hg a
theorem bind_np' {α : Type} {x : Option α} {g h : α → Option (List Ins × Beh × List Tk)} (hg : ∀ a, g a = (h a).map npR) : x.bind g = (x.bind h).map npR := by
  cases x with
  | none => rfl
  | some a => exact hg a
theorem ite_np {c : Prop} [Decidable c] {x y x' y' : Option (List Ins × Beh × List Tk)} (h1 : x = x'.map npR) (h2 : y = y'.map npR) : (if c then x else y) = (if c then x' else y').map npR := by
  by_cases h : c
  · rw [if_pos h, if_pos h]; exact h1
  · rw [if_neg h, if_neg h]; exact h2
theorem cmp_np : ∀ (f tag off : Nat) (s : List Ins) (d : Beh) (ts : List Tk), cmp f tag off s d (ts.map np) = (cmp f tag off s d ts).map npR
  | 0, _, _, _, _, _ => rfl
  | f + 1, tag, off, s, d, ts => by
    have ih := cmp_np f
    rw [cmp, cmp]
    simp only [hk_np, hx_np, tail_np]
    refine ite_np ?_ (ite_np (ite_np ?_ (ite_np (ite_np rfl rfl) (ite_np (ite_np rfl rfl) (ite_np rfl (ite_np ?_ (ite_np ?_ (ite_np ?_ (ite_np ?_ (ite_np ?_ (ite_np ?_ rfl)))))))))) (ite_np ?_ rfl))
    · rw [ih]; exact bind_np fun a => ih _ _ _ _ _
    · rw [ih]; exact bind_np fun a => rfl
    · exact bind_np' fun a => rfl
    · rw [ih]; exact bind_np fun a => by show some (a.1, a.2.1, (a.2.2.map np).tail) = _; rw [tail_np]; rfl
    · rw [ih]
      refine bind_np fun a => ?_
      show Option.bind (cmp f 0 (off + a.1.length + 1) [] (retA vN) (a.2.2.map np).tail) _ = _
      rw [tail_np, ih]
      refine bind_np fun b => ?_
      show Option.bind (cmp f 0 (off + a.1.length + 1 + b.1.length + 1) [] (retA vN) (b.2.2.map np).tail) _ = _
      rw [tail_np, ih]
      refine bind_np fun c => ?_
      show some (_, _, (c.2.2.map np).tail) = _
      rw [tail_np]; rfl
    · rw [ih]; exact bind_np fun a => by show some (_, _, (a.2.2.map np).tail) = _; rw [tail_np]; rfl
    · rw [ih]; exact bind_np fun a => by show some (_, _, (a.2.2.map np).tail) = _; rw [tail_np]; rfl
    · exact bind_np' fun a => bind_np' fun b => rfl
    · rw [ih]; exact bind_np fun a => ih _ _ _ _ _
def tokB (t : Tk) : Bool := (decide (t.k ≠ 1) || (!t.x.isEmpty && t.x.all (fun c => dgB (c.toNat : Int)) && decide (t.x.length ≤ 19))) && (decide (t.k ≠ 2) || (decide (2 ≤ t.x.length) && decide (t.x.length ≤ 1000))) && decide (t.x.length ≤ 1000)
theorem tokB_ok {t : Tk} (h : tokB t = true) : TkOK t := by
  unfold tokB at h
  simp only [Bool.and_eq_true, Bool.or_eq_true, decide_eq_true_eq, List.all_eq_true, Bool.not_eq_true'] at h
  obtain ⟨⟨h1, h2⟩, h3⟩ := h
  refine ⟨fun e => ?_, fun e => ?_, h3⟩
  · rcases h1 with h1 | ⟨⟨a, b⟩, c⟩
    · exact absurd e h1
    · exact ⟨(fun e => by rw [e] at a; cases a), b, c⟩
  · rcases h2 with h2 | h2
    · exact absurd e h2
    · exact h2
structure TxtOK (t : ByteArray) (d : Beh) : Prop where
  ne : t ≠ eB
  e : (rd t.data.toList).e = 0
  pl : plT t.data.toList = t.data.toList
  cm : ∃ code, Cmpd t code d
def kxT (t : Tk) : Int × List UInt8 := (t.k, t.x)
theorem np_kx (ts : List Tk) : ts.map np = (ts.map kxT).map (fun p => tk p.1 p.2) := by rw [List.map_map]; rfl
theorem txt_of {l : List UInt8} {g : List Tk} {d : Beh} (hne : l.isEmpty = false) (he : (rd l).e = 0) (hp : plT l = l) (hg : ((rdA l).ts.map kxT).map (fun p => tk p.1 p.2) = g) (hok : (rdA l).ts.all tokB = true) (hcg : CG 0 g d) : TxtOK ⟨l.toArray⟩ d := by
  have hl : l.length ≤ 120 := by
    unfold rd at he
    by_cases h : 120 < l.length
    · rw [if_pos h] at he; cases he
    · omega
  have hrd : rd l = rdA l := by unfold rd; rw [if_neg (by omega)]
  rw [← np_kx] at hg
  obtain ⟨f, code, hc⟩ := hcg 0 [] (by decide)
  rw [List.append_nil, ← hg, cmp_np] at hc
  cases hq : cmp f 0 0 [] (retA vN) (rdA l).ts with
  | none => rw [hq] at hc; cases hc
  | some r =>
    rw [hq] at hc
    have e := Option.some.inj hc
    refine { ne := fun e => ?_, e := he, pl := hp, cm := ⟨code, { e := by rw [← hrd]; exact he, tok := fun x hx => tokB_ok (List.all_eq_true.1 hok x hx), c := ⟨f, r.2.2, ?_⟩, size := by show l.toArray.size ≤ 900; simp; omega }⟩ }
    · have : l.toArray = #[] := congrArg ByteArray.data e
      have : l = [] := by simpa using this
      rw [this] at hne; cases hne
    · show cmp f 0 0 [] (retA vN) (rdA l).ts = _
      rw [hq]
      congr 1
      have e1 : r.1 = code := congrArg (fun t => t.1) e
      have e2 : r.2.1 = d := congrArg (fun t => t.2.1) e
      rw [← e1, ← e2]
end Go.Proofs.YtlpmmmmniojflaaGreatDoor
/- A sheet in a statement: what stays true of it from call to call. -/
set_option linter.unusedVariables false
set_option linter.unusedSimpArgs false
namespace Go.Proofs.YtlpmmmmniojflaaGreatDoor
open Go.RowKit
theorem numT_rng {ts : List Tk} {n : Int} (h : numT ts = some n) : -9223372036854775808 ≤ n ∧ n ≤ 9223372036854775807 := by
  unfold numT at h
  split at h
  · split at h
    · rw [Option.map_eq_some_iff] at h
      obtain ⟨a, _, rfl⟩ := h
      unfold wrap64; omega
    · cases h
  · split at h
    · rw [Option.map_eq_some_iff] at h
      obtain ⟨a, _, rfl⟩ := h
      unfold wrap64; omega
    · cases h
  · cases h
theorem ck_txt {cl tx : ByteArray} {c : Nat} (hc : cellN cl.data.toList = some c) (h0 : tx ≠ eB) (he : (rd tx.data.toList).e = 0) : ckP bd0 cl tx = ⟨0, 0, c, ⟨(plT tx.data.toList).toArray⟩⟩ := by
  unfold ckP
  rw [hc]
  simp only
  rw [if_neg h0, if_neg (by simp [he])]
  unfold ckN
  split
  · rename_i n hn
    have := numT_rng hn
    rw [if_neg (by unfold bd0; simp only; omega)]
  · rfl
theorem TxtOK.ed {t : ByteArray} {d : Beh} (h : TxtOK t d) {cl : ByteArray} {c : Nat} (hc : cellN cl.data.toList = some c) (fs : Nat → ByteArray) : edR bd0 0 [(cl, t)] fs = ⟨0, 0, 0, updF fs c t⟩ := by
  have hck := ck_txt hc h.ne h.e
  rw [h.pl] at hck
  unfold edR
  simp only [hck]
  rfl
theorem TxtOK.small {t : ByteArray} {d : Beh} (h : TxtOK t d) : t.size ≤ 900 := by obtain ⟨code, hc⟩ := h.cm; exact hc.size
structure FsT (fs : Nat → ByteArray) : Prop where
  t : ∀ c, fs c ≠ eB → ∃ d, TxtOK (fs c) d
  out : ∀ c, 48 ≤ c → fs c = eB
theorem FsT.ok {E : Env} (hE : EnvOK E) {fs : Nat → ByteArray} (h : FsT fs) : FsOK E fs ∧ EnvF E fs := by
  have key : ∀ c, fs c ≠ eB → ∃ code, FmlOK E (fs c) code ∧ ActN (E.B (fs c)) (E.D (fs c)) ∧ E.B (fs c) ≤ 90000 := fun c hc => by
    obtain ⟨d, hd⟩ := h.t c hc
    obtain ⟨code, hcd⟩ := hd.cm
    obtain ⟨a, _, b, e⟩ := hE.c _ _ _ hcd
    exact ⟨code, a, b, e⟩
  exact ⟨⟨fun c hc => by obtain ⟨_, _, b, _⟩ := key c hc; exact b, h.out⟩, ⟨fun c hc => by obtain ⟨code, a, _⟩ := key c hc; exact ⟨code, a⟩, fun c hc => by obtain ⟨_, _, _, b⟩ := key c hc; exact b⟩⟩
theorem FsT.upd {fs : Nat → ByteArray} (h : FsT fs) {t : ByteArray} {d : Beh} (ht : TxtOK t d) {c : Nat} (hc : c < 48) : FsT (updF fs c t) := by
  refine ⟨fun i hi => ?_, fun i hi => ?_⟩
  · unfold updF at hi ⊢
    by_cases e : i = c
    · rw [if_pos e]; exact ⟨d, ht⟩
    · rw [if_neg e] at hi ⊢; exact h.t i hi
  · unfold updF
    rw [if_neg (by omega)]; exact h.out i hi
theorem fsT0 : FsT fs0 := ⟨fun c hc => absurd rfl hc, fun _ _ => rfl⟩
theorem has_zero {n : Nat} : (k0 n).store.has = [] := rfl
theorem kinv0 (E : Env) (n : Nat) (hn : n ≤ 64) : KInv E fs0 (k0 n) where
  fit := fun c hc => absurd rfl hc
  out := fun _ _ => rfl
  f := fun _ => rfl
  v := fun c => .inl ⟨1, .inl ⟨rfl, rfl⟩⟩
  none := fun _ _ => rfl
  good := fun c hc => absurd rfl hc
  ch := { len := by show (List.range 48).length = 48; simp, all := fun c hc => List.mem_range.2 hc, only := fun c hc => List.mem_range.1 hc }
  sw := { len := by show (List.replicate 64 ans0).length = 64; simp, places := hn, size := Nat.zero_le _, next := fun h => Nat.pos_of_ne_zero h, open' := fun _ => rfl }
  sto := fun a ha => by rw [has_zero] at ha; cases ha
structure ShS (E : Env) (w0 w : World) (x : Nat) (fl fs : Nat → ByteArray) (k : Kp) : Prop where
  bel : Below w0.heap.size w0 w
  xB : w0.heap.size ≤ x
  sr : SR w x fs bd0 k
  kinv : KInv E fl k
  ft : FsT fs
section
variable {E : Env} {w0 w w' : World} {x : Nat} {fl fs : Nat → ByteArray} {k k' : Kp}
theorem ShS.below (h : ShS E w0 w x fl fs k) (hb : Below w.heap.size w w') : ShS E w0 w' x fl fs k := ⟨h.bel.trans (hb.mono h.bel.size), h.xB, h.sr.below hb, h.kinv, h.ft⟩
theorem ShS.bel' (h : ShS E w0 w x fl fs k) (ho : Only x w w') : Below w0.heap.size w0 w' := h.bel.trans (Only.below ho h.xB h.bel.size)
theorem begin_s (E : Env) (c : Int) (hc : I64 c) (w0 w : World) (hb : Hid (Below w0.heap.size w0 w)) :
    Calls Tryz.prog 19 #[.int .i64 c] w fun e w' => ∃ x, e = .returned (.tuple #[.pointer (some ⟨x, 0, none⟩), .bool true]) ∧ Hid (ShS E w0 w' x fs0 fs0 (k0 (pk c 65)) ∧ Below w.heap.size w w' ∧ w.heap.size ≤ x) := by
  refine (begin_any c hc w).mono ?_
  rintro e w' ⟨x, rfl, h1, h2, h3⟩
  exact ⟨x, rfl, ⟨hb.out.trans (h2.out.mono hb.out.size), Nat.le_trans hb.out.size h1.out, h3.out, kinv0 E _ (by have := pk_lt c (n := 65) (by omega); omega), fsT0⟩, h2.out, h1.out⟩
theorem set_s (hA : Hid (Amb w0)) (h : Hid (ShS E w0 w x fl fs k)) {t : ByteArray} {d : Beh} (ht : Hid (TxtOK t d)) {cl : ByteArray} {c : Nat} (hc : Hid (cellN cl.data.toList = some c)) :
    Calls Tryz.prog 20 #[.pointer (some ⟨x, 0, none⟩), .string cl, .string t] w fun e w' => e = .returned (.bool true) ∧ Hid (ShS E w0 w' x fl (updF fs c t) k ∧ Only x w w') := by
  have hed := ht.out.ed hc.out fs
  refine (set_any (fs := fs) (bd := bd0) (k := k) w x cl t h.out.sr (hA.out.below h.out.bel) (by have := ht.out.small; unfold Hid maxLen; omega)).mono ?_
  rintro e w' ⟨rfl, h1⟩
  rw [hed] at h1 ⊢
  obtain ⟨g1, g2⟩ := h1.out.2 rfl
  exact ⟨rfl, ⟨h.out.bel' g1, h.out.xB, g2, h.out.kinv, h.out.ft.upd ht.out (cellN_lt hc.out)⟩, g1⟩
theorem WorkP.inv (hE : EnvOK E) (hk : KInv E fl k) (hf : FsT fs) {order way : Nat} (ho : order < 3) {bg : List Nat} (h : WorkP E k fs order way k' bg) : KInv E fs k' := by
  obtain ⟨k2, bg2, h2, h3, _⟩ := work_ok hE.w hk (hf.ok hE).1 ho (way := way) (fun _ _ => False) (fun val mk _ _ r cs _ c a hh => absurd hh (by simp))
  obtain ⟨rfl, rfl⟩ := h.same h2
  exact h3
theorem worked_s (hE : Hid (EnvOK E)) (hA : Hid (Amb w0)) (h : Hid (ShS E w0 w x fl fs k)) (how : Int) (hh : Hid (I64 how)) :
    Calls Tryz.prog 26 #[.pointer (some ⟨x, 0, none⟩), .int .i64 how] w fun e w' => ∃ v k' bg, e = .returned (.tuple #[v, .bool true]) ∧ Hid (ShS E w0 w' x fs fs k' ∧ WorkP E k fs (pk how 9 / 3) (pk how 9 % 3) k' bg ∧ Only x w w' ∧ Slc w' 9 1 v bg.length (bg.map nmV)) := by
  have hp := pk_lt how (n := 9) (by omega)
  refine (worked26 hE w x how hh fl fs bd0 k h.out.sr (EVc.ofVar (hA.out.below h.out.bel).1) h.out.kinv (h.out.ft.ok hE.out).1 (h.out.ft.ok hE.out).2).mono ?_
  rintro e w' ⟨v, k', bg, rfl, h1⟩
  obtain ⟨g1, g2, g3, g4, g5⟩ := h1.out
  exact ⟨v, k', bg, rfl, ⟨h.out.bel' g3, h.out.xB, g2, g1.inv hE.out h.out.kinv h.out.ft (by omega), h.out.ft⟩, g1, g3, g4⟩
theorem is_s (h : Hid (ShS E w0 w x fl fs k)) {cl : ByteArray} {c : Nat} (hc : Hid (cellN cl.data.toList = some c)) (n : Int) :
    Calls Tryz.prog 27 #[.pointer (some ⟨x, 0, none⟩), .string cl, .int .i64 n] w fun e w' => e = .returned (.bool ((k.last c).v.eqB (vI n))) ∧ Hid (ShS E w0 w' x fl fs k ∧ Below w.heap.size w w') := by
  refine (is_w w x h.out.sr cl c hc n).mono ?_
  rintro e w' ⟨rfl, hb⟩
  exact ⟨rfl, h.out.below hb, hb⟩
end
end Go.Proofs.YtlpmmmmniojflaaGreatDoor
/- Plain mathematics: which cells a Work begins; what a formula of a statement is worth. -/
set_option linter.unusedVariables false
set_option linter.unusedSimpArgs false
namespace Go.Proofs.YtlpmmmmniojflaaGreatDoor
section
variable {E : Env} {fl fs : Nat → ByteArray} {k k' : Kp} {order way : Nat} {bg : List Nat}
theorem WorkP.done (hE : EnvOK E) (hk : KInv E fl k) (hf : FsT fs) (ho : order < 3) (h : WorkP E k fs order way k' bg) (hn : ¬ workedP k fs) (X : Nat → Ans → Prop)
    (hX : ∀ val mk, (∀ c, Val E.D fs c (val c)) → MarkOK fs k.last mk → XK E val ⟨k.store, fs, k.last, way⟩ (fun c => way = 0 ∧ mk c = false) X) : Done E k fs way X k' bg := by
  obtain ⟨k2, bg2, h2, h3, h4⟩ := work_ok hE.w hk (hf.ok hE).1 ho X hX
  obtain ⟨rfl, rfl⟩ := h.same h2
  exact h4 hn
theorem WorkP.stored (hE : EnvOK E) (hk : KInv E fl k) (hf : FsT fs) (ho : order < 3) (h : WorkP E k fs order way k' bg) : ∀ a ∈ k'.store.has, a ∈ k.store.has ∨ ∃ c ∈ bg, a.f = fs c := by
  by_cases hw : workedP k fs
  · rcases h with ⟨_, rfl, rfl⟩ | ⟨hn, _⟩
    · intro a ha; exact .inl ha
    · exact absurd hw hn
  · obtain ⟨mk, r', cs, hm, hi, h3', e1, e2, rfl⟩ := (h.done hE hk hf ho hw (fun _ _ => False) (fun val mk _ _ r cs _ c a hh => absurd hh (by simp))).ex
    intro a ha
    rw [e2] at ha
    rcases (hi.stoOK a ha).2 with g | ⟨c', g1, g2⟩
    · exact .inl g
    · obtain ⟨b3, b4⟩ := hi.csOK c' g1
      refine .inr ⟨c', b4, ?_⟩
      rw [g2, (hi.sett c' b3).f]
      exact congrFun hi.con.1 c'
end
theorem TxtOK.D {E : Env} (hE : EnvOK E) {t : ByteArray} {d : Beh} (h : TxtOK t d) : E.D t = bindA d retA := by
  obtain ⟨code, hc⟩ := h.cm
  exact (hE.c _ _ _ hc).2.1
end Go.Proofs.YtlpmmmmniojflaaGreatDoor
