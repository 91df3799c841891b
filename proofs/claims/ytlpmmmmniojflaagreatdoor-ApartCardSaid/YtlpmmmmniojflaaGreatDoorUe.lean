/- A working out, walked: newRound. -/
import Derived.Test.YtlpmmmmniojflaaGreatDoorUd
set_option linter.unusedVariables false
set_option linter.unusedSimpArgs false
namespace Go.Proofs.YtlpmmmmniojflaaGreatDoor
open Go.RowKit
set_option maxRecDepth 100000 in
theorem load96 {W : World} {q : Nat} {cs : Array Value} {t : TypeId} (h : W.heap[q]? = some (.cells cs t (0, 0))) (hs : cs.size = 240) : (loadVar 96 ⟨q, 0, none⟩).run Tryz.prog W = .ok (.agg cs) W :=
  run_loadVar_row _ _ t 96 cs (0, 0) _ h Tryz.underlying96 rfl (by rw [hs]; exact info96)
theorem new_NB {arr L : Array Value} {fs : Nat → ByteArray} {x way : Nat} (h2 : arr.size = 48) (h3 : ∀ c, c < 48 → arr[c]? = some (.string (fs c))) (hL : L.size = 240) : NB (((Array.foldl (fun (cs : Array Value) x => cs.setIfInBounds (48 + x.snd) x.fst) (Array.foldl (fun (cs : Array Value) x => cs.setIfInBounds x.snd x.fst) Tryz.zeroCells187 arr.zipIdx 0 48) L.zipIdx 0 240).setIfInBounds 288 (Value.pointer (some { block := x, off := 432 }))).setIfInBounds 289 (Value.int IntKind.i64 way)) fs L x way := by
  have e : (((Array.foldl (fun (cs : Array Value) x => cs.setIfInBounds (48 + x.snd) x.fst) (Array.foldl (fun (cs : Array Value) x => cs.setIfInBounds x.snd x.fst) Tryz.zeroCells187 arr.zipIdx 0 48) L.zipIdx 0 240).setIfInBounds 288 (Value.pointer (some { block := x, off := 432 }))).setIfInBounds 289 (Value.int IntKind.i64 way)) = ((layAt (layAt Tryz.zeroCells187 0 arr) 48 L).setIfInBounds 288 (Value.pointer (some { block := x, off := 432 }))).setIfInBounds 289 (Value.int IntKind.i64 way) := by
    unfold layAt
    simp only [Nat.zero_add, h2, hL]
  rw [e]
  have s1 : (layAt Tryz.zeroCells187 0 arr).size = 1059 := by rw [layAt_size, size187]
  have s2 : (layAt (layAt Tryz.zeroCells187 0 arr) 48 L).size = 1059 := by rw [layAt_size, s1]
  have g : ∀ j, j ≠ 288 → j ≠ 289 → (((layAt (layAt Tryz.zeroCells187 0 arr) 48 L).setIfInBounds 288 (Value.pointer (some { block := x, off := 432 }))).setIfInBounds 289 (Value.int IntKind.i64 way))[j]? = (layAt (layAt Tryz.zeroCells187 0 arr) 48 L)[j]? := fun j h1 h2 => by
    rw [Array.getElem?_setIfInBounds_ne (fun e => h2 e.symm), Array.getElem?_setIfInBounds_ne (fun e => h1 e.symm)]
  refine { size := by simp [s2], fs := fun c hc => ?_, last := fun i hi => ?_, sp := ?_, way := ?_, rest := fun i hi => ?_ }
  · rw [g c (by omega) (by omega), layAt_get, if_neg (by omega), layAt_get, if_pos ⟨by omega, by omega, by rw [size187]; omega⟩, Nat.sub_zero]; exact h3 c hc
  · rw [g _ (by omega) (by omega), layAt_get, if_pos ⟨by omega, by omega, by omega⟩]
    congr 1; omega
  · rw [Array.getElem?_setIfInBounds_ne (by omega), Array.getElem?_setIfInBounds_self_of_lt (by omega)]
  · rw [Array.getElem?_setIfInBounds_self_of_lt (by simp; omega)]
  · rw [g i (by omega) (by omega), layAt_get, if_neg (by omega), layAt_get, if_neg (by omega)]
theorem RR.congr {w : World} {own : Nat → Nat} {b x : Nat} {r r' : Rn} (h : RR w own b x r) (h1 : r'.fs = r.fs) (h2 : r'.last = r.last) (h3 : r'.store = r.store) (h4 : r'.way = r.way) (h5 : r'.bg = r.bg) (h6 : ∀ c, c < 48 → r'.tk c = r.tk c) : RR w own b x r' :=
  { blk := h.blk, fs := by rw [h1]; exact h.fs, last := by rw [h2]; exact h.last, sp := h.sp, way := by rw [h4]; exact h.way, tk := fun c hc => by rw [h6 c hc]; exact h.tk c hc, bg := by rw [h5]; exact h.bg, sto := by rw [h3]; exact h.sto, xblk := h.xblk, xb := h.xb, xo := h.xo, bo := h.bo }
def tkE : Tsk := ⟨3, -1, [], 0, retA vN, ans0⟩
def tkF : Tsk := ⟨0, -1, [], 0, retA vN, ans0⟩
def njT (fs : Nat → ByteArray) (j c : Nat) : Tsk := if c < j then (if fs c = eB then tkE else tkF) else tkZ
def njR (fs : Nat → ByteArray) (k : Kp) (way j : Nat) : Rn := ⟨fs, k.last, k.store, way, njT fs j, []⟩
theorem njR_zero (fs : Nat → ByteArray) (k : Kp) (way : Nat) : njR fs k way 0 = rn0 fs k way := by
  unfold njR rn0
  have : njT fs 0 = fun _ => tkZ := by funext c; unfold njT; rw [if_neg (by omega)]
  rw [this]
theorem njR_wt (fs : Nat → ByteArray) (k : Kp) (way j : Nat) : ((njR fs k way j).tk j) = tkZ := by show njT fs j j = tkZ; unfold njT; rw [if_neg (by omega)]
theorem njR_none {fs : Nat → ByteArray} {k : Kp} {way j : Nat} (h : fs j = eB) : njR fs k way (j + 1) = settle ((njR fs k way j).put j { (njR fs k way j).tk j with wt := -1 }) j ans0 := by
  unfold settle Rn.put njR
  have : njT fs (j + 1) = fun i => if i = j then tkE else if i = j then { njT fs j j with wt := -1 } else njT fs j i := by
    funext c
    unfold njT
    by_cases e : c = j
    · subst e; rw [if_pos rfl, if_pos (by omega), if_pos h]
    · rw [if_neg e, if_neg e]
      by_cases h1 : c < j
      · rw [if_pos h1, if_pos (by omega)]
      · rw [if_neg h1, if_neg (by omega)]
  rw [this]; rfl
theorem njR_some {fs : Nat → ByteArray} {k : Kp} {way j : Nat} (h : fs j ≠ eB) : njR fs k way (j + 1) = (njR fs k way j).put j { (njR fs k way j).tk j with wt := -1 } := by
  unfold Rn.put
  have : njT fs (j + 1) = fun i => if i = j then { (njR fs k way j).tk j with wt := -1 } else njT fs j i := by
    funext c
    rw [njR_wt]
    unfold njT
    by_cases e : c = j
    · subst e; rw [if_pos rfl, if_pos (by omega), if_neg h]; rfl
    · rw [if_neg e]
      by_cases h1 : c < j
      · rw [if_pos h1, if_pos (by omega)]
      · rw [if_neg h1, if_neg (by omega)]
  unfold njR at this ⊢
  rw [this]
theorem new_any_way {w : World} {own : Nat → Nat} {b x way : Nat} {fs : Nat → ByteArray} {k : Kp} {mk : Nat → Bool} (hw : way ≠ 0) (h : RR w own b x (njR fs k way 48)) : RR w own b x (newP fs k way mk) :=
  h.congr rfl rfl rfl rfl rfl fun c hc => by
    show tk0 fs k.last way mk c = njT fs 48 c
    unfold tk0 njT
    rw [if_pos hc]
    by_cases h1 : fs c = eB
    · rw [if_pos h1, if_pos h1]; rfl
    · rw [if_neg h1, if_neg h1, if_neg (fun h => hw h.1)]; rfl
theorem new_way_0 {w : World} {own : Nat → Nat} {b x way : Nat} {fs : Nat → ByteArray} {k : Kp} {mk : Nat → Bool} (hw : way = 0) (hn : ∀ c, c < 48 → fs c = eB → mk c = false → k.last c = ans0) (h : RR w own b x (clR (njR fs k way 48) mk 48)) : RR w own b x (newP fs k way mk) :=
  h.congr rfl rfl rfl rfl rfl fun c hc => by
    show tk0 fs k.last way mk c = clT (njR fs k way 48) mk 48 c
    unfold tk0 clT
    by_cases h1 : fs c = eB
    · rw [if_pos h1]
      by_cases h2 : mk c = false
      · rw [if_pos ⟨hc, h2⟩]
        show _ = (⟨3, -1, [], 0, retA vN, k.last c⟩ : Tsk)
        rw [hn c hc h1 h2]
      · rw [if_neg (fun h => h2 h.2)]
        show _ = njT fs 48 c
        unfold njT
        rw [if_pos hc, if_pos h1]; rfl
    · rw [if_neg h1]
      by_cases h2 : mk c = false
      · rw [if_pos ⟨hw, h2⟩, if_pos ⟨hc, h2⟩]; rfl
      · rw [if_neg (fun h => h2 h.2), if_neg (fun h => h2 h.2)]
        show _ = njT fs 48 c
        unfold njT
        rw [if_pos hc, if_neg h1]; rfl
set_option maxRecDepth 100000 in
set_option maxHeartbeats 4000000 in
theorem newRound_w (W : World) (x way : Nat) (fs0 fs : Nat → ByteArray) (bd : Nat → Int × Int) (k : Kp) (arr L : Array Value) (mk : Nat → Bool) (h : Hid (SR W x fs0 bd k)) (h2 : arr.size = 48) (h3 : ∀ c, c < 48 → arr[c]? = some (.string (fs c))) (hL : LV W L k.last)
    (hr : Hid (∀ c, c < 48 → stays (njR fs k way 48) c = true → ∀ y ∈ (k.last c).rs, y.nd.c < 48)) (hm : Hid (∀ c, c < 48 → (mk c = true ↔ ∃ n, dn fs k.last n c))) (hn : Hid (∀ c, c < 48 → fs c = eB → mk c = false → k.last c = ans0)) :
    Calls Tryz.prog 83 #[.agg arr, .agg L, .pointer (some ⟨x, 432, none⟩), .int .i64 way] W fun e w' => ∃ b, e = .returned (.pointer (some ⟨b, 0, none⟩)) ∧ Hid (∃ own', RR w' own' b x (newP fs k way mk) ∧ RStep W own0 w' own' b x ∧ W.heap.size ≤ b) := by
  have H2 : Hid (arr.size = 48) := h2
  have H3 : Hid (∀ c, c < 48 → arr[c]? = some (.string (fs c))) := h3
  have HL : Hid (LV W L k.last) := hL
  have e1 : Hid ((loadVar 89 ⟨W.heap.size, 0, none⟩).run Tryz.prog ((W.alloc (.cells arr 89)).alloc (.cells L 96)) = .ok (.agg arr) ((W.alloc (.cells arr 89)).alloc (.cells L 96))) := load89 (rold (rnew _ _ _) _) h2
  have hb : ((W.alloc (.cells arr 89)).alloc (.cells L 96)).heap[W.heap.size + 1]? = some (.cells L 96 (0, 0)) := by
    have := rnew (W.alloc (.cells arr 89)) L 96
    rw [show (W.alloc (.cells arr 89)).heap.size = W.heap.size + 1 by simp] at this
    exact this
  have e2 : Hid ((loadVar 96 ⟨W.heap.size + 1, 0, none⟩).run Tryz.prog ((W.alloc (.cells arr 89)).alloc (.cells L 96)) = .ok (.agg L) ((W.alloc (.cells arr 89)).alloc (.cells L 96))) := load96 hb hL.size
  have HZ : Hid (NB (((Array.foldl (fun (cs : Array Value) x => cs.setIfInBounds (48 + x.snd) x.fst) (Array.foldl (fun (cs : Array Value) x => cs.setIfInBounds x.snd x.fst) Tryz.zeroCells187 arr.zipIdx 0 48) L.zipIdx 0 240).setIfInBounds 288 (Value.pointer (some { block := x, off := 432 }))).setIfInBounds 289 (Value.int IntKind.i64 way)) fs L x way) := new_NB h2 h3 hL.size
  have e3 : Hid ((loadVar 89 ⟨W.heap.size, 0, none⟩).run Tryz.prog (((W.alloc (.cells arr 89)).alloc (.cells L 96)).alloc (.cells (((Array.foldl (fun (cs : Array Value) x => cs.setIfInBounds (48 + x.snd) x.fst) (Array.foldl (fun (cs : Array Value) x => cs.setIfInBounds x.snd x.fst) Tryz.zeroCells187 arr.zipIdx 0 48) L.zipIdx 0 240).setIfInBounds 288 (Value.pointer (some { block := x, off := 432 }))).setIfInBounds 289 (Value.int IntKind.i64 way)) 187)) = .ok (.agg arr) (((W.alloc (.cells arr 89)).alloc (.cells L 96)).alloc (.cells (((Array.foldl (fun (cs : Array Value) x => cs.setIfInBounds (48 + x.snd) x.fst) (Array.foldl (fun (cs : Array Value) x => cs.setIfInBounds x.snd x.fst) Tryz.zeroCells187 arr.zipIdx 0 48) L.zipIdx 0 240).setIfInBounds 288 (Value.pointer (some { block := x, off := 432 }))).setIfInBounds 289 (Value.int IntKind.i64 way)) 187))) := load89 (rold (rold (rnew _ _ _) _) _) h2
  have hs := hL.size
  have z1 : (Array.foldl (fun (cs : Array Value) x => cs.setIfInBounds x.snd x.fst) Tryz.zeroCells187 arr.zipIdx 0 48).size = 1059 := by
    have := layAt_size Tryz.zeroCells187 0 arr
    unfold layAt at this
    simp only [Nat.zero_add, h2] at this
    rw [this, size187]
  have z2 : (Array.foldl (fun (cs : Array Value) x => cs.setIfInBounds (48 + x.snd) x.fst) (Array.foldl (fun (cs : Array Value) x => cs.setIfInBounds x.snd x.fst) Tryz.zeroCells187 arr.zipIdx 0 48) L.zipIdx 0 240).size = 1059 := by
    have := layAt_size (Array.foldl (fun (cs : Array Value) x => cs.setIfInBounds x.snd x.fst) Tryz.zeroCells187 arr.zipIdx 0 48) 48 L
    unfold layAt at this
    simp only [hs] at this
    rw [this, z1]
  clear h3 hL hb
  go_enter Tryz.func83, Tryz.ntmps83
  go_wp2_with (first
    | (refine wpList_load_run (P := Tryz.prog) ?_ 89 (.tmp 4) ?_ ⟨W.heap.size, 0, none⟩ ?_ (.agg arr) ?_ ?_; (rfl); (rfl); (rfl); (exact e1.out))
    | (refine wpList_load_run (P := Tryz.prog) ?_ 96 (.tmp 5) ?_ ⟨W.heap.size + 1, 0, none⟩ ?_ (.agg L) ?_ ?_; (rfl); (rfl); (rfl); (exact e2.out))
    | (refine wpList_load_run (P := Tryz.prog) ?_ 89 (.tmp 4) ?_ ⟨W.heap.size, 0, none⟩ ?_ (.agg arr) ?_ ?_; (rfl); (rfl); (rfl); (exact e3.out)))
  clear e1 e2 e3
  generalize (((Array.foldl (fun (cs : Array Value) x => cs.setIfInBounds (48 + x.snd) x.fst) (Array.foldl (fun (cs : Array Value) x => cs.setIfInBounds x.snd x.fst) Tryz.zeroCells187 arr.zipIdx 0 48) L.zipIdx 0 240).setIfInBounds 288 (Value.pointer (some { block := x, off := 432 }))).setIfInBounds 289 (Value.int IntKind.i64 way)) = Z at *
  have HB2 : Hid (Below W.heap.size W ((W.alloc (.cells arr 89)).alloc (.cells L 96))) := bl2 _ _ _
  have hsz : ((W.alloc (.cells arr 89)).alloc (.cells L 96)).heap.size = W.heap.size + 1 + 1 := by simp
  generalize (W.alloc (Obj.cells arr 89)).alloc (Obj.cells L 96) = W2 at *
  obtain ⟨b, hb⟩ : ∃ b, W.heap.size + 1 + 1 = b := ⟨_, rfl⟩
  rw [hb] at hsz ⊢
  have HBB : Hid (W.heap.size ≤ b) := by unfold Hid; omega
  have HS0 : Hid (∃ own1, RR (W2.alloc (.cells Z 187)) own1 b x (njR fs k way 0) ∧ RStep W own0 (W2.alloc (.cells Z 187)) own1 b x) := by
    rw [njR_zero, ← hsz]
    refine ⟨own0, new_RR (h.out.below HB2.out) (HL.out.below HB2.out) HZ.out, RStep.below (HB2.out.alloc HB2.out.size _) (fun _ _ => rfl) h.out.lt⟩
  clear hsz hb HB2 HZ
  generalize W2.alloc (Obj.cells Z 187) = W3 at *
  go_loopw [19] (fun s wr => ∃ j : Nat, s = .int .i64 j ∧ Hid (j ≤ 48) ∧ Hid (∃ own1, RR wr own1 b x (njR fs k way j) ∧ RStep W own0 wr own1 b x)) (fun s _ => (48 - intOf s).toNat)
  case atStart => exact ⟨0, rfl, Nat.zero_le _, HS0⟩
  case round =>
    clear HS0 z1 z2 h2 hs
    obtain ⟨j, rfl, HJ, HR⟩ := hrel
    by_cases hj : j < 48
    · have hji : (j : Int) < 48 := by omega
      have hj0 : 0 ≤ (j : Int) := by omega
      have w1' : IntKind.i64.wrap ((j : Int) + 1) = (j : Int) + 1 := by rw [IntKind.wrap_i64]; omega
      have w2' : wrap64 ((j : Int) + 1) = (j : Int) + 1 := by unfold wrap64; omega
      have HJ' : Hid (j < 48) := hj
      have HIX : Hid (∀ w, (Instr.index 89 (.agg arr) (.int .i64 j)).run Tryz.prog w = .ok (.string (fs j)) w) := fun w => index89 w hj (H3.out j hj)
      obtain ⟨own1, R1, S1⟩ := HR.out
      have c1 := (R1.tk j hj).wt
      rw [← T_addr] at c1
      have c2 := R1.frozen (290 + j * 16 + 1)
      obtain ⟨own2, R2, S2⟩ := R1.setWt hj (-1)
      rw [← T_addr] at R2 S2
      have HR2 : Hid (RR (wr.setCell ⟨b, 290 + j * 16 + 1, none⟩ (.int .i64 (-1))) own2 b x ((njR fs k way j).put j { (njR fs k way j).tk j with wt := -1 })) := R2
      have HS2 : Hid (RStep W own0 (wr.setCell ⟨b, 290 + j * 16 + 1, none⟩ (.int .i64 (-1))) own2 b x) := S1.trans S2
      clear HJ R1 S1 R2 S2 HR
      by_cases hf : fs j = eB
      · have HF : Hid (fs j = eB) := hf
        rw [hf] at HIX
        unfold eB at HIX
        clear hf
        go_wp2_with ((refine wpList_index_run (P := Tryz.prog) ?_ 89 (.tmp 18) (.tmp 19) ?_ (.agg arr) (.int .i64 j) (.string ⟨#[]⟩) ?_ ?_ ?_ ?_; (rfl); (rfl); (rfl); (rfl); (exact HIX.out _)))
        refine (settle_w _ own2 b x _ j ans0 (.slice none 0 0) hj HR2 (slc_nil _ 274 5) (fun g hg => by cases hg)).mono ?_
        rintro e w2 ⟨rfl, h2⟩
        clear hj
        go_wp2_with fail
        go_roundw
        case rel =>
          obtain ⟨own3, R3, S3⟩ := h2.out
          exact ⟨j + 1, by go_num, HJ'.out, own3, by rw [njR_none HF.out]; exact R3, HS2.out.trans S3⟩
        case measure => simp [intOf]; omega
      · have HF : Hid (fs j ≠ eB) := hf
        have f1 : ¬ (fs j).toList = (⟨#[]⟩ : ByteArray).toList := fun e => hf (ba_list e)
        have f2 : (fs j).toList.isEmpty = false := by
          cases hl : (fs j).toList with
          | nil => exact absurd (by rw [hl]; simp) f1
          | cons a l => rfl
        clear f1
        go_wp2_with ((refine wpList_index_run (P := Tryz.prog) ?_ 89 (.tmp 18) (.tmp 19) ?_ (.agg arr) (.int .i64 j) (.string (fs j)) ?_ ?_ ?_ ?_; (rfl); (rfl); (rfl); (rfl); (exact HIX.out _)))
        go_roundw
        case rel => exact ⟨j + 1, by go_num, HJ'.out, own2, by rw [njR_some HF.out]; exact HR2.out, HS2.out⟩
        case measure => simp [intOf]; omega
    · have hge : ¬ (j : Int) < 48 := by omega
      have hj48 : j = 48 := by have := HJ.out; omega
      rw [hj48] at HR
      clear hj hj48 HJ
      obtain ⟨own1, R1, S1⟩ := HR.out
      by_cases hw : way = 0
      · have HR1 : Hid (RR wr own1 b x (njR fs k way 48)) := R1
        have HS1 : Hid (RStep W own0 wr own1 b x) := S1
        subst hw
        clear R1 S1 HR
        go_wp2_with fail
        refine (clean_w wr own1 b x _ mk HR1 hr hm).mono ?_
        rintro e w2 ⟨rfl, h2⟩
        go_wp2_with fail
        go_ret
        obtain ⟨own3, R3, S3⟩ := h2.out
        exact ⟨b, rfl, own3, new_way_0 rfl hn.out R3, HS1.out.trans S3, HBB.out⟩
      · have b1 : ((way : Int) == 0) = false := by simp; omega
        have b2 : ¬ (way : Int) = 0 := by omega
        have HFIN : Hid (∃ own', RR wr own' b x (newP fs k way mk) ∧ RStep W own0 wr own' b x ∧ W.heap.size ≤ b) := ⟨own1, new_any_way hw R1, S1, HBB.out⟩
        clear R1 S1 HR
        go_wp2_with fail
        go_ret
        exact ⟨b, rfl, HFIN⟩
end Go.Proofs.YtlpmmmmniojflaaGreatDoor
