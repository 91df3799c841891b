/- The compiler in memory: a row of parts with signs between. -/
import Derived.Test.YtlpmmmmniojflaaGreatDoorCm
import Derived.Deep.LoopGhost
set_option linter.unusedVariables false
set_option linter.unusedSimpArgs false
namespace Go.Proofs.YtlpmmmmniojflaaGreatDoor
open Go.RowKit
def CAL (fn tag f : Nat) : Prop := ∀ (w : World) (cb : Nat) (cv : Value) (ts : List Tk) (code seg : List Ins) (d : Beh) (rest : List Tk), Hid (CW w cb cv ts code) → code.length + 100 * ts.length ≤ 90000 → Hid (cmp f tag code.length [] (retA vN) ts = some (seg, d, rest)) →
  Calls Tryz.prog fn #[.pointer (some ⟨cb, 0, none⟩)] w fun e w' => e = .returned (.tuple #[]) ∧ Hid (CCs cb w cv w' rest (code ++ seg))
theorem SgS.keep {w w' : World} {v : Value} {l : List Int} (h : SgS w v l) (hk : ∀ g, v.ownBlock = some g → w'.heap[g]? = w.heap[g]?) : SgS w' v l := by
  obtain ⟨g, rfl, hg⟩ := h
  exact ⟨g, rfl, by rw [hk g rfl]; exact hg⟩
theorem SgS.lt {w : World} {v : Value} {l : List Int} (h : SgS w v l) : ∀ g, v.ownBlock = some g → g < w.heap.size := by
  obtain ⟨g, rfl, hg⟩ := h
  intro k hk; cases hk
  exact (Array.getElem?_eq_some_iff.1 hg).1
structure SgA (w : World) (cb : Nat) (cv v : Value) (l : List Int) : Prop where
  s : SgS w v l
  n : ∀ g, v.ownBlock = some g → g ≠ cb ∧ cv.ownBlock ≠ some g
theorem SgA.step {w w' : World} {cb : Nat} {cv cv' v : Value} {l : List Int} (h : SgA w cb cv v l) (hc : CC cb w w' cv cv') : SgA w' cb cv' v l := by
  refine ⟨h.s.keep fun g hg => hc.keep g (h.s.lt g hg) (h.n g hg).1 (h.n g hg).2, fun g hg => ⟨(h.n g hg).1, ?_⟩⟩
  rcases hc.row with e | ⟨g', e, hge⟩
  · rw [e]; exact (h.n g hg).2
  · rw [e]; intro e2; cases e2; have := h.s.lt g hg; omega
theorem cmp_row (f lv off : Nat) (hl : lv < 3) (s : List Ins) (d : Beh) (ts : List Tk) : cmp (f + 1) (lv + 4) off s d ts = if hk ts ∈ signs lv then (cmp f (lv + 1) (off + s.length) [] (retA vN) ts.tail).bind fun x => cmp f (lv + 4) off (s ++ (x.1 ++ [iOp (signOp (hk ts))])) (binA (signOp (hk ts)) d x.2.1) x.2.2 else some (s, d, ts) := by
  rw [cmp, if_neg (by omega), if_neg (by omega), show lv + 4 - 4 = lv by omega, show lv + 4 - 3 = lv + 1 by omega]
theorem signs_len (lv : Nat) : (signs lv).length ≤ 10 := by
  unfold signs
  repeat' split
  all_goals decide
theorem signs_ne {lv : Nat} {ts : List Tk} (h : hk ts ∈ signs lv) : hk ts ≠ 0 := by
  intro e
  rw [e] at h
  unfold signs at h
  repeat' split at h
  all_goals simp at h
theorem hk_hd (ts : List Tk) : (hd0 ts).k = hk ts := by cases ts <;> rfl
set_option maxRecDepth 100000 in
set_option maxHeartbeats 4000000 in
theorem row_step (lv fn f : Nat) (hlv : lv < 3) (hfn : fn = 237 ∨ fn = 254 ∨ fn = 261) (sub : ∀ g, g ≤ f → CAL fn (lv + 1) g) (w : World) (cb : Nat) (cv sv : Value) (ts : List Tk) (code seg : List Ins) (d : Beh) (rest : List Tk) (h : Hid (CW w cb cv ts code)) (hb : code.length + 100 * ts.length ≤ 90000) (hs : Hid (SgA w cb cv sv (signs lv)))
    (hc : Hid (cmp (f + 1) lv code.length [] (retA vN) ts = some (seg, d, rest))) :
    Calls Tryz.prog 236 #[.pointer (some ⟨cb, 0, none⟩), .func (Fn.func fn) #[.pointer (some ⟨cb, 0, none⟩)] #[], sv] w fun e w' => e = .returned (.tuple #[]) ∧ Hid (CCs cb w cv w' rest (code ++ seg)) := by
  have hc' := hc.out
  rw [cmp, if_pos hlv] at hc'
  obtain ⟨⟨s1, d1, r1⟩, hx, hy⟩ := bind_some hc'
  dsimp only at hy
  have hok := (cmp_ok f (lv + 1) code.length [] (retA vN) ts s1 d1 r1 (by omega) hx (fun e => absurd e (by omega)) (fun _ => rfl)).2
  have HX : Hid _ := hx
  have HY : Hid _ := hy
  have HOK : Hid _ := hok
  have HB : Hid _ := hb
  clear hc' hx hy hok hb hc
  rcases hfn with rfl | rfl | rfl
  all_goals
    go_enter Tryz.func236, Tryz.ntmps236
    go_wp2_with fail
    refine (sub f (Nat.le_refl _) _ cb cv ts code s1 d1 r1 h HB.out HX).mono ?_
    rintro e w1 ⟨rfl, h1⟩
    go_wp2_with fail
    go_loopg [6] f (fun g _ wr => ∃ (cv' : Value) (ts' : List Tk) (s' : List Ins) (d' : Beh), g ≤ f ∧ Hid (CW wr cb cv' ts' (code ++ s')) ∧ Hid (CC cb w wr cv cv') ∧ Hid (cmp g (lv + 4) code.length s' d' ts' = some (seg, d, rest)) ∧ Hid (s'.length + 100 * ts'.length ≤ 100 * ts.length))
    case atStart =>
      obtain ⟨cv1, c1, g1⟩ := h1.out
      exact ⟨cv1, r1, s1, d1, Nat.le_refl _, c1, g1, HY.out, by have := HOK.out; unfold Hid; simp at this; omega⟩
    case round =>
      obtain ⟨cv', ts', s', d', hg, HC, HCC, HE, HLN⟩ := hrel
      match gk, hg, HE with
      | 0, _, HE => exact absurd HE.out (by simp [cmp])
      | g + 1, hg, HE =>
        have he := HE.out
        rw [cmp_row g lv code.length hlv] at he
        have HE' : Hid _ := he
        have hsub := sub g (by omega)
        have HSG : Hid (SgA wr cb cv' sv (signs lv)) := hs.out.step HCC.out
        have hsl : (signs lv).length ≤ 10 := signs_len lv
        have HSL : Hid _ := hsl
        clear he HE hsl sub
        go_wp2_with fail
        refine (ckind_w _ cb cv' ts' _ HC).mono ?_
        rintro e w2 ⟨rfl, rfl⟩
        go_wp2_with fail
        refine (contains_w _ sv (signs lv) (hk ts') HSG.out.s HSL.out).mono ?_
        rintro e w2 ⟨rfl, rfl⟩
        by_cases hin : hk ts' ∈ signs lv
        · have hd : decide (hk ts' ∈ signs lv) = true := decide_eq_true hin
          rw [hd]
          have he := HE'.out
          rw [if_pos hin] at he
          obtain ⟨⟨s2, d2, r2⟩, hx2, hy2⟩ := bind_some he
          dsimp only at hy2
          have hts : ts'.tail.length + 1 = ts'.length := hk_tail1 (signs_ne hin)
          have hok2 := (cmp_ok g (lv + 1) (code.length + s'.length) [] (retA vN) ts'.tail s2 d2 r2 (by omega) hx2 (fun e => absurd e (by omega)) (fun _ => rfl)).2
          simp only [List.length_nil] at hok2
          have HX2 : Hid _ := hx2
          have HY2 : Hid _ := hy2
          have HOK2 : Hid _ := hok2
          have HTS : Hid _ := hts
          clear he HE' hin hd hx2 hy2 hok2 hts
          go_wp2_with fail
          refine (ctake_w _ cb cv' ts' _ HC).mono ?_
          rintro e w3 ⟨rfl, h3⟩
          have hkk := hk_hd ts'
          obtain ⟨t0, ht0⟩ : ∃ t0, hd0 ts' = t0 := ⟨_, rfl⟩
          rw [ht0] at hkk ⊢
          have HKK : Hid _ := hkk
          clear ht0 hkk
          unfold tkV
          go_wp2_with fail
          have hl3 : cb < w3.heap.size := h3.out.1.lt
          have HW3 : Hid (CW (w3.alloc (Obj.cells #[Value.int IntKind.i64 t0.k, Value.string ⟨t0.x.toArray⟩, Value.int IntKind.i64 t0.p] 142)) cb cv' ts'.tail (code ++ s')) := h3.out.1.below (bl1 _ _)
          have HC3 : Hid (CC cb w (w3.alloc (Obj.cells #[Value.int IntKind.i64 t0.k, Value.string ⟨t0.x.toArray⟩, Value.int IntKind.i64 t0.p] 142)) cv cv') := (HCC.out.trans h3.out.2).trans (CC.below _ (bl1 _ _))
          have hq : cv'.ownBlock ≠ some w3.heap.size := fun e => by have := h3.out.1.code.lt _ e; omega
          have hb3 : (code ++ s').length + 100 * ts'.tail.length ≤ 90000 := by
            have a1 := HLN.out; have a2 := HTS.out; have a3 := HB.out
            rw [List.length_append]; omega
          have HB3 : Hid _ := hb3
          refine (hsub _ cb cv' ts'.tail (code ++ s') s2 d2 r2 HW3 hb3 (by unfold Hid; rw [List.length_append]; exact HX2.out)).mono ?_
          rintro e w4 ⟨rfl, h4⟩
          obtain ⟨cv4, c4, g4⟩ := h4.out
          have hbox : w4.heap[w3.heap.size]? = some (.cells #[Value.int IntKind.i64 t0.k, Value.string ⟨t0.x.toArray⟩, Value.int IntKind.i64 t0.p] 142 (0, 0)) := by
            rw [g4.keep _ (by simp) (by omega) hq]; exact rnew _ _ _
          have k0 := boxc hbox 0 (.int .i64 t0.k) rfl
          have HC4 : Hid _ := c4
          have HG4 : Hid (CC cb w w4 cv cv4) := HC3.out.trans g4
          clear h4 c4 g4 hbox h3 HC3 HW3 hl3 hq hb3
          go_wp2_with fail
          refine (ofSign_w _ _).mono ?_
          rintro e w5 ⟨rfl, rfl⟩
          go_wp2_with fail
          refine (emit_w _ cb cv4 r2 _ (iOp (signOp t0.k)) HC4 (by
            have a1 := HOK2.out.2; have a2 := HB3.out
            simp only [List.length_append] at a2 ⊢; omega)).mono ?_
          rintro e w6 ⟨rfl, h6⟩
          have H6 : Hid (CCs cb w cv w6 r2 (code ++ (s' ++ (s2 ++ [iOp (signOp (hk ts'))])))) := by
            unfold Hid
            have := CCs.comp HG4.out h6.out
            rw [HKK.out] at this
            simpa [List.append_assoc] using this
          clear h6 HC4 HG4 k0
          go_wp2_with fail
          obtain ⟨cv6, c6, g6⟩ := H6.out
          go_roundg g
          case rel =>
            refine ⟨cv6, r2, s' ++ (s2 ++ [iOp (signOp (hk ts'))]), binA (signOp (hk ts')) d' d2, by omega, c6, g6, HY2.out, ?_⟩
            have a1 := HOK2.out.2; have a2 := HLN.out; have a3 := HTS.out
            unfold Hid
            simp only [List.length_append, List.length_singleton]; omega
          case measure => omega
        · have hd : decide (hk ts' ∈ signs lv) = false := decide_eq_false hin
          rw [hd]
          have he := HE'.out
          rw [if_neg hin] at he
          cases he
          clear HE' hin hd
          go_wp2_with fail
          refine bodyPost_end (results_none rfl _ _ _) rfl ?_
          exact ⟨rfl, cv', HC.out, HCC.out⟩
end Go.Proofs.YtlpmmmmniojflaaGreatDoor
