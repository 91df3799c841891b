/- Texts put together. -/
import Derived.Test.YtlpmmmmniojflaaGreatDoorCmE
import Derived.Test.YtlpmmmmniojflaaGreatDoorQ22
import Derived.Test.YtlpmmmmniojflaaGreatDoorQ23
import Derived.Test.YtlpmmmmniojflaaGreatDoorQ21
import Derived.Deep.RegionHeld3
/- The compiler in memory: ranges. -/
set_option linter.unusedVariables false
set_option linter.unusedSimpArgs false
namespace Go.Proofs.YtlpmmmmniojflaaGreatDoor
open Go.RowKit
structure RgA (w : World) (cb : Nat) (cv v : Value) (l : List Nat) : Prop where
  s : Slc w 3 1 v l.length (l.map intV)
  n : ∀ g, v.ownBlock = some g → g ≠ cb ∧ cv.ownBlock ≠ some g
theorem RgA.step {w w' : World} {cb : Nat} {cv cv' v : Value} {l : List Nat} (h : RgA w cb cv v l) (hc : CC cb w w' cv cv') : RgA w' cb cv' v l := by
  refine ⟨h.s.kept fun g hg => hc.keep g (h.s.lt g hg) (h.n g hg).1 (h.n g hg).2, fun g hg => ⟨(h.n g hg).1, ?_⟩⟩
  rcases hc.row with e | ⟨g', e, hge⟩
  · rw [e]; exact (h.n g hg).2
  · rw [e]; intro e2; cases e2; have := h.s.lt _ hg; omega
theorem bb {w w' : World} {q : Nat} {ob : Obj} (h : w.heap[q]? = some ob) (hb : Below w.heap.size w w') : w'.heap[q]? = some ob := by
  rw [hb.block q (Array.getElem?_eq_some_iff.1 h).1]; exact h
theorem cbx {cb : Nat} {w w' : World} {cv cv' : Value} {q : Nat} {ob : Obj} (h : w.heap[q]? = some ob) (hc : CC cb w w' cv cv') (h1 : q ≠ cb) (h2 : cv.ownBlock ≠ some q) : w'.heap[q]? = some ob := by
  rw [hc.keep q (Array.getElem?_eq_some_iff.1 h).1 h1 h2]; exact h
theorem eachI_app (o1 o2 : Nat) (l : List Nat) (c : Nat) : eachI o1 o2 (l ++ [c]) = eachI o1 o2 l ++ [iRead o1 c, iOp o2] := by unfold eachI; rw [List.flatMap_append]; rfl
set_option maxRecDepth 100000 in
set_option maxHeartbeats 4000000 in
theorem each_step (o1 o2 : Nat) (w : World) (cb : Nat) (cv : Value) (ts : List Tk) (code : List Ins) (a b : Nat) (h : Hid (CW w cb cv ts code)) (hb : Hid (code.length ≤ 90000)) (ha : Hid (cellN (hx ts.tail) = some a)) (hbb : Hid (cellN (hx ts.tail.tail.tail) = some b)) :
    Calls Tryz.prog 266 #[.pointer (some ⟨cb, 0, none⟩), .int .i64 o1, .int .i64 o2] w fun e w' => e = .returned (.tuple #[]) ∧ Hid (CCs cb w cv w' ts.tail.tail.tail.tail.tail (code ++ (iPut (vI 0) :: eachI o1 o2 (rangeL a b)))) := by
  have x1 := hx_hd ts.tail
  have x2 := hx_hd ts.tail.tail.tail
  obtain ⟨t1, ht1⟩ : ∃ t1, hd0 ts.tail = t1 := ⟨_, rfl⟩
  obtain ⟨t2, ht2⟩ : ∃ t2, hd0 ts.tail.tail.tail = t2 := ⟨_, rfl⟩
  rw [ht1] at x1
  rw [ht2] at x2
  have HA : Hid (cellN (⟨t1.x.toArray⟩ : ByteArray).data.toList = some a) := by unfold Hid; rw [x1]; simpa using ha.out
  have HB : Hid (cellN (⟨t2.x.toArray⟩ : ByteArray).data.toList = some b) := by unfold Hid; rw [x2]; simpa using hbb.out
  have HT1 : Hid _ := ht1
  have HT2 : Hid _ := ht2
  have hrl := rangeL_len (cellN_lt ha.out) (cellN_lt hbb.out)
  have HRL : Hid _ := hrl
  clear x1 x2 ht1 ht2 hrl
  have hlt := h.out.lt
  go_enter Tryz.func266, Tryz.ntmps266
  go_wp2_with fail
  refine (ctake_w _ cb cv ts code h).mono ?_
  rintro e w1 ⟨rfl, h1⟩
  unfold tkV
  go_wp2_with fail
  refine (ctake_w _ cb cv ts.tail code h1.out.1).mono ?_
  rintro e w2 ⟨rfl, h2⟩
  rw [HT1.out]
  have HC2 : Hid (CC cb w w2 cv cv) := h1.out.2.trans h2.out.2
  have HW2 : Hid (CW w2 cb cv ts.tail.tail code) := h2.out.1
  clear h1 h2
  unfold tkV
  go_wp2_with fail
  have HC2' : Hid (CC cb w (w2.alloc (Obj.cells #[Value.int IntKind.i64 t1.k, Value.string ⟨t1.x.toArray⟩, Value.int IntKind.i64 t1.p] 142)) cv cv) := HC2.out.trans (CC.below _ (bl1 _ _))
  have HW2' : Hid (CW (w2.alloc (Obj.cells #[Value.int IntKind.i64 t1.k, Value.string ⟨t1.x.toArray⟩, Value.int IntKind.i64 t1.p] 142)) cb cv ts.tail.tail code) := HW2.out.below (bl1 _ _)
  have HQ1 : Hid ((w2.alloc (Obj.cells #[Value.int IntKind.i64 t1.k, Value.string ⟨t1.x.toArray⟩, Value.int IntKind.i64 t1.p] 142)).heap[w2.heap.size]? = some (Obj.cells #[Value.int IntKind.i64 t1.k, Value.string ⟨t1.x.toArray⟩, Value.int IntKind.i64 t1.p] 142)) := rnew _ _ _
  have HN1 : Hid (w2.heap.size ≠ cb ∧ cv.ownBlock ≠ some w2.heap.size) := ⟨by have := HW2.out.lt; omega, fun e => by have := HW2.out.code.lt _ e; omega⟩
  refine (ctake_w _ cb cv ts.tail.tail code HW2').mono ?_
  rintro e w3 ⟨rfl, h3⟩
  unfold tkV
  have HQ1' : Hid (w3.heap[w2.heap.size]? = some (Obj.cells #[Value.int IntKind.i64 t1.k, Value.string ⟨t1.x.toArray⟩, Value.int IntKind.i64 t1.p] 142)) := cbx HQ1.out h3.out.2 HN1.out.1 HN1.out.2
  have HC3 : Hid (CC cb w w3 cv cv) := HC2'.out.trans h3.out.2
  have HW3 : Hid (CW w3 cb cv ts.tail.tail.tail code) := h3.out.1
  clear h3 HC2 HW2 HC2' HW2' HQ1
  go_wp2_with fail
  refine (ctake_w _ cb cv ts.tail.tail.tail code HW3).mono ?_
  rintro e w4 ⟨rfl, h4⟩
  rw [HT2.out]
  unfold tkV
  have HQ2 : Hid (w4.heap[w2.heap.size]? = some (Obj.cells #[Value.int IntKind.i64 t1.k, Value.string ⟨t1.x.toArray⟩, Value.int IntKind.i64 t1.p] 142)) := cbx HQ1'.out h4.out.2 HN1.out.1 HN1.out.2
  have HC4 : Hid (CC cb w w4 cv cv) := HC3.out.trans h4.out.2
  have HW4 : Hid (CW w4 cb cv ts.tail.tail.tail.tail code) := h4.out.1
  clear h4 HQ1' HC3 HW3
  go_wp2_with fail
  have HC4' : Hid (CC cb w (w4.alloc (Obj.cells #[Value.int IntKind.i64 t2.k, Value.string ⟨t2.x.toArray⟩, Value.int IntKind.i64 t2.p] 142)) cv cv) := HC4.out.trans (CC.below _ (bl1 _ _))
  have HW4' : Hid (CW (w4.alloc (Obj.cells #[Value.int IntKind.i64 t2.k, Value.string ⟨t2.x.toArray⟩, Value.int IntKind.i64 t2.p] 142)) cb cv ts.tail.tail.tail.tail code) := HW4.out.below (bl1 _ _)
  have HN2 : Hid (w4.heap.size ≠ cb ∧ cv.ownBlock ≠ some w4.heap.size) := ⟨by have := HW4.out.lt; omega, fun e => by have := HW4.out.code.lt _ e; omega⟩
  refine (ctake_w _ cb cv ts.tail.tail.tail.tail code HW4').mono ?_
  rintro e w5 ⟨rfl, h5⟩
  unfold tkV
  have HQ3 : Hid (w5.heap[w2.heap.size]? = some (Obj.cells #[Value.int IntKind.i64 t1.k, Value.string ⟨t1.x.toArray⟩, Value.int IntKind.i64 t1.p] 142)) := cbx (rold HQ2.out _) h5.out.2 HN1.out.1 HN1.out.2
  have HR3 : Hid (w5.heap[w4.heap.size]? = some (Obj.cells #[Value.int IntKind.i64 t2.k, Value.string ⟨t2.x.toArray⟩, Value.int IntKind.i64 t2.p] 142)) := cbx (rnew _ _ _) h5.out.2 HN2.out.1 HN2.out.2
  have HC5 : Hid (CC cb w w5 cv cv) := HC4'.out.trans h5.out.2
  have HW5 : Hid (CW w5 cb cv ts.tail.tail.tail.tail.tail code) := h5.out.1
  clear h5 HQ2 HC4 HW4 HC4' HW4'
  go_wp2_with fail
  refine (int_w 0 _).mono ?_
  rintro e w6 ⟨rfl, hb6⟩
  have HQ4 : Hid _ := bb HQ3.out hb6
  have HR4 : Hid _ := bb HR3.out hb6
  have HC6 : Hid (CC cb w w6 cv cv) := HC5.out.trans (CC.below _ hb6)
  have HW6 : Hid (CW w6 cb cv ts.tail.tail.tail.tail.tail code) := HW5.out.below hb6
  clear hb6 HQ3 HR3 HC5 HW5
  go_wp2_with fail
  refine (cput_w _ cb cv ts.tail.tail.tail.tail.tail code (vI 0) HW6 (by have := hb.out; omega)).mono ?_
  rintro e w7 ⟨rfl, h7⟩
  obtain ⟨cv7, c7, g7⟩ := h7.out
  have hq5 := cbx HQ4.out g7 HN1.out.1 HN1.out.2
  have hr5 := cbx HR4.out g7 HN2.out.1 HN2.out.2
  have y1 := boxc hq5 1 (.string ⟨t1.x.toArray⟩) rfl
  have y2 := boxc hr5 1 (.string ⟨t2.x.toArray⟩) rfl
  have HC7 : Hid (CC cb w w7 cv cv7) := HC6.out.trans g7
  have HW7 : Hid (CW w7 cb cv7 ts.tail.tail.tail.tail.tail (code ++ [iPut (vI 0)])) := c7
  clear h7 c7 g7 hq5 hr5 HQ4 HR4 HC6 HW6
  go_wp2_with fail
  refine (range_any ⟨t1.x.toArray⟩ ⟨t2.x.toArray⟩ a b HA.out HB.out _).mono ?_
  rintro e w8 ⟨v, rfl, hb8, hs8, hn8⟩
  obtain ⟨ao, cp, rfl⟩ := hs8.len
  have HC8 : Hid (CC cb w w8 cv cv7) := HC7.out.trans (CC.below _ hb8)
  have HW8 : Hid (CW w8 cb cv7 ts.tail.tail.tail.tail.tail (code ++ [iPut (vI 0)])) := HW7.out.below hb8
  have HG8 : Hid (RgA w8 cb cv7 (.slice ao (rangeL a b).length cp) (rangeL a b)) := ⟨hs8, fun g hg => by
    have := hn8 g hg
    have h1 := HW7.out.lt
    exact ⟨by omega, fun e => by have := HW7.out.code.lt _ e; omega⟩⟩
  clear hb8 hs8 hn8 HC7 HW7 y1 y2
  obtain ⟨L, hL⟩ : ∃ L, rangeL a b = L := ⟨_, rfl⟩
  rw [hL] at HG8 HRL ⊢
  have HL : Hid _ := hL
  clear hL
  go_wp2_with fail
  go_loopw [29] (fun x wr => ∃ (j : Nat) (cvj : Value), j ≤ L.length ∧ x = .int .i64 j ∧ Hid (CC cb w wr cv cvj) ∧ Hid (CW wr cb cvj ts.tail.tail.tail.tail.tail (code ++ (iPut (vI 0) :: eachI o1 o2 (L.take j)))) ∧ Hid (RgA wr cb cvj (.slice ao L.length cp) L)) (fun x _ => L.length - (intOf x).toNat)
  case atStart =>
    have e0 : code ++ (iPut (vI 0) :: eachI o1 o2 (L.take 0)) = code ++ [iPut (vI 0)] := by rw [List.take_zero]; rfl
    exact ⟨0, cv7, by omega, rfl, HC8, by rw [e0]; exact HW8, HG8⟩
  case round =>
    obtain ⟨j, cvj, hj, rfl, HCj, HWj, HGj⟩ := hrel
    by_cases hlt2 : j < L.length
    · have hlti : (j : Int) < (L.length : Int) := by omega
      have hge : 0 ≤ (j : Int) := by omega
      obtain ⟨c, hc⟩ : ∃ c, L[j]? = some c := ⟨_, List.getElem?_eq_getElem hlt2⟩
      obtain ⟨g, o, cp', hcp, hle⟩ := HGj.out.s.at (by omega)
      cases hcp
      have cj := HGj.out.s.cell j (.int .i64 c) (by rw [List.getElem?_map, hc]; rfl)
      have htk : L.take (j + 1) = L.take j ++ [c] := by
        rw [List.take_add_one, hc]; rfl
      have HTK : Hid _ := htk
      have hlen : (code ++ (iPut (vI 0) :: eachI o1 o2 (L.take j))).length + 2 ≤ 100000 := by
        have a1 := hb.out; have a2 := HRL.out
        simp only [List.length_append, List.length_cons, eachI_len, List.length_take]
        omega
      have HLN : Hid _ := hlen
      clear hc htk hlen
      go_wp2_with fail
      refine (emit_w _ cb cvj ts.tail.tail.tail.tail.tail _ (iRead o1 c) HWj (by have := HLN.out; omega)).mono ?_
      rintro e w9 ⟨rfl, h9⟩
      obtain ⟨cv9, c9, g9⟩ := h9.out
      have HC9 : Hid _ := c9
      have HG9 : Hid _ := g9
      clear h9 c9 g9
      go_wp2_with fail
      refine (emit_w _ cb cv9 ts.tail.tail.tail.tail.tail _ (iOp o2) HC9 (by have := HLN.out; rw [List.length_append]; simp only [List.length_singleton]; omega)).mono ?_
      rintro e w10 ⟨rfl, h10⟩
      obtain ⟨cv10, c10, g10⟩ := h10.out
      have HC10 : Hid (CW w10 cb cv10 ts.tail.tail.tail.tail.tail (code ++ (iPut (vI 0) :: eachI o1 o2 (L.take (j + 1))))) := by
        unfold Hid
        rw [HTK.out, eachI_app]
        have := c10
        simpa [List.append_assoc] using this
      have HG10 : Hid (CC cb w w10 cv cv10) := (HCj.out.trans HG9.out).trans g10
      have HR10 : Hid (RgA w10 cb cv10 (.slice (some ⟨g, o, none⟩) L.length cp) L) := (HGj.out.step HG9.out).step g10
      have hL48 := HRL.out
      have hw1 : wrap64 ((j : Int) + 1) = (j : Int) + 1 := by unfold wrap64; omega
      clear h10 c10 g10 HC9 HG9 cj
      go_wp2_with fail
      go_roundw
      case rel => exact ⟨j + 1, cv10, by omega, by go_num, HG10, HC10, HR10⟩
      case measure => simp [intOf]; omega
    · have hlti : ¬ (j : Int) < (L.length : Int) := by omega
      have HWE : Hid (CW wr cb cvj ts.tail.tail.tail.tail.tail (code ++ (iPut (vI 0) :: eachI o1 o2 L))) := by
        have := HWj.out
        rw [List.take_of_length_le (by omega)] at this
        exact this
      go_wp2_with fail
      refine bodyPost_end (results_none rfl _ _ _) rfl ?_
      rw [HL.out]
      exact ⟨rfl, cvj, HWE.out, HCj.out⟩
end Go.Proofs.YtlpmmmmniojflaaGreatDoor
/- The compiler in memory: all of it; compile; a machine begins. -/
set_option linter.unusedVariables false
set_option linter.unusedSimpArgs false
namespace Go.Proofs.YtlpmmmmniojflaaGreatDoor
open Go.RowKit
set_option maxRecDepth 100000 in
set_option maxHeartbeats 2000000 in
theorem atom_sum (w : World) (cb : Nat) (cv : Value) (ts : List Tk) (code : List Ins) (h : Hid (CW w cb cv ts code)) (hb : Hid (code.length + 100 * ts.length ≤ 90000)) (hkk : hk ts = 9) (a b : Nat) (ha : Hid (cellN (hx ts.tail.tail) = some a)) (hbb : Hid (cellN (hx ts.tail.tail.tail.tail) = some b)) :
    Calls Tryz.prog 261 #[.pointer (some ⟨cb, 0, none⟩)] w fun e w' => e = .returned (.tuple #[]) ∧ Hid (CCs cb w cv w' ts.tail.tail.tail.tail.tail.tail (code ++ (iPut (vI 0) :: eachI 1 5 (rangeL a b)))) := by
  have htl : ts.tail.length + 1 = ts.length := hk_tail1 (by rw [hkk]; decide)
  have HT : Hid _ := htl
  obtain ⟨t0, ht0⟩ : ∃ t0, hd0 ts = t0 := ⟨_, rfl⟩
  have k1 := hk_hd ts
  rw [ht0] at k1
  obtain ⟨k, x, p⟩ := t0
  dsimp only at k1
  rw [hkk] at k1
  subst k1
  have HT0 : Hid _ := ht0
  clear htl ht0 hkk
  go_enter Tryz.func261, Tryz.ntmps261
  go_wp2_with fail
  refine (ctake_w _ cb cv ts code h).mono ?_
  rintro e w1 ⟨rfl, h1⟩
  rw [HT0.out]
  unfold tkV
  go_wp2_with fail
  have HW1 : Hid (CW (w1.alloc (Obj.cells #[Value.int IntKind.i64 9, Value.string ⟨x.toArray⟩, Value.int IntKind.i64 p] 142)) cb cv ts.tail code) := h1.out.1.below (bl1 _ _)
  have HC1 : Hid (CC cb w (w1.alloc (Obj.cells #[Value.int IntKind.i64 9, Value.string ⟨x.toArray⟩, Value.int IntKind.i64 p] 142)) cv cv) := h1.out.2.trans (CC.below _ (bl1 _ _))
  clear h1
  refine (each_step 1 5 _ cb cv ts.tail code a b HW1 (by have := hb.out; unfold Hid; omega) ha hbb).mono ?_
  rintro e w4 ⟨rfl, h4⟩
  have H4 : Hid (CCs cb w cv w4 ts.tail.tail.tail.tail.tail.tail (code ++ (iPut (vI 0) :: eachI 1 5 (rangeL a b)))) := CCs.comp HC1.out h4.out
  clear h4
  go_wp2_with fail
  refine bodyPost_end (results_none rfl _ _ _) rfl ?_
  exact ⟨rfl, H4⟩
set_option maxRecDepth 100000 in
set_option maxHeartbeats 2000000 in
theorem atom_cnt (w : World) (cb : Nat) (cv : Value) (ts : List Tk) (code : List Ins) (h : Hid (CW w cb cv ts code)) (hb : Hid (code.length + 100 * ts.length ≤ 90000)) (hkk : hk ts = 10) (a b : Nat) (ha : Hid (cellN (hx ts.tail.tail) = some a)) (hbb : Hid (cellN (hx ts.tail.tail.tail.tail) = some b)) :
    Calls Tryz.prog 261 #[.pointer (some ⟨cb, 0, none⟩)] w fun e w' => e = .returned (.tuple #[]) ∧ Hid (CCs cb w cv w' ts.tail.tail.tail.tail.tail.tail (code ++ (iPut (vI 0) :: eachI 2 12 (rangeL a b)))) := by
  have htl : ts.tail.length + 1 = ts.length := hk_tail1 (by rw [hkk]; decide)
  have HT : Hid _ := htl
  obtain ⟨t0, ht0⟩ : ∃ t0, hd0 ts = t0 := ⟨_, rfl⟩
  have k1 := hk_hd ts
  rw [ht0] at k1
  obtain ⟨k, x, p⟩ := t0
  dsimp only at k1
  rw [hkk] at k1
  subst k1
  have HT0 : Hid _ := ht0
  clear htl ht0 hkk
  go_enter Tryz.func261, Tryz.ntmps261
  go_wp2_with fail
  refine (ctake_w _ cb cv ts code h).mono ?_
  rintro e w1 ⟨rfl, h1⟩
  rw [HT0.out]
  unfold tkV
  go_wp2_with fail
  have HW1 : Hid (CW (w1.alloc (Obj.cells #[Value.int IntKind.i64 10, Value.string ⟨x.toArray⟩, Value.int IntKind.i64 p] 142)) cb cv ts.tail code) := h1.out.1.below (bl1 _ _)
  have HC1 : Hid (CC cb w (w1.alloc (Obj.cells #[Value.int IntKind.i64 10, Value.string ⟨x.toArray⟩, Value.int IntKind.i64 p] 142)) cv cv) := h1.out.2.trans (CC.below _ (bl1 _ _))
  clear h1
  refine (each_step 2 12 _ cb cv ts.tail code a b HW1 (by have := hb.out; unfold Hid; omega) ha hbb).mono ?_
  rintro e w4 ⟨rfl, h4⟩
  have H4 : Hid (CCs cb w cv w4 ts.tail.tail.tail.tail.tail.tail (code ++ (iPut (vI 0) :: eachI 2 12 (rangeL a b)))) := CCs.comp HC1.out h4.out
  clear h4
  go_wp2_with fail
  refine bodyPost_end (results_none rfl _ _ _) rfl ?_
  exact ⟨rfl, H4⟩
theorem atom_step' (f : Nat) (s3 : CAL 261 3 f) (s0 : CAL 219 0 f) (sb : BRK f) : CAL 261 3 (f + 1) := by
  intro w cb cv ts code seg d rest h hb hc
  have hc := hc.out
  rw [cmp, if_neg (by omega), if_pos rfl] at hc
  by_cases k23 : hk ts = 23
  · rw [if_pos k23] at hc
    obtain ⟨⟨s1, d1, r1⟩, hx1, hc⟩ := bind_some hc
    cases hc
    exact atom_neg w cb cv ts code h hb k23 f s3 s1 d1 _ hx1
  rw [if_neg k23] at hc
  by_cases k1 : hk ts = 1
  · rw [if_pos k1] at hc
    by_cases hv : valN (hx ts) ≤ 9223372036854775807
    · rw [if_pos hv] at hc
      cases hc
      exact atom_num w cb cv ts code h hb k1 hv
    · rw [if_neg hv] at hc; cases hc
  rw [if_neg k1] at hc
  by_cases k2 : hk ts = 2
  · rw [if_pos k2] at hc
    by_cases hv : (hx ts).length ≤ 1000
    · rw [if_pos hv] at hc
      cases hc
      exact atom_str w cb cv ts code h hb k2
    · rw [if_neg hv] at hc; cases hc
  rw [if_neg k2] at hc
  by_cases k3 : hk ts = 3 ∨ hk ts = 4
  · rw [if_pos k3] at hc
    cases hc
    rcases k3 with k3 | k4
    · rw [k3]; exact atom_b3 w cb cv ts code h hb k3
    · rw [k4]; exact atom_b4 w cb cv ts code h hb k4
  rw [if_neg k3] at hc
  by_cases k5 : hk ts = 5
  · rw [if_pos k5] at hc
    obtain ⟨c, hcc, hc⟩ := bind_some hc
    cases hc
    exact atom_cell w cb cv ts code h hb k5 c hcc
  rw [if_neg k5] at hc
  by_cases k12 : hk ts = 12
  · rw [if_pos k12] at hc
    obtain ⟨⟨s1, d1, r1⟩, hx1, hc⟩ := bind_some hc
    cases hc
    exact atom_open w cb cv ts code h hb k12 f s0 _ _ r1 hx1
  rw [if_neg k12] at hc
  by_cases k6 : hk ts = 6
  · rw [if_pos k6] at hc
    obtain ⟨⟨s1, d1, r1⟩, h1, hc⟩ := bind_some hc
    obtain ⟨⟨s2, d2, r2⟩, h2, hc⟩ := bind_some hc
    obtain ⟨⟨s3', d3, r3⟩, h3, hc⟩ := bind_some hc
    cases hc
    exact atom_if w cb cv ts code h hb k6 f sb s0 s1 s2 s3' d1 d2 d3 r1 r2 r3 h1 h2 h3
  rw [if_neg k6] at hc
  by_cases k7 : hk ts = 7
  · rw [if_pos k7] at hc
    obtain ⟨⟨s1, d1, r1⟩, hx1, hc⟩ := bind_some hc
    cases hc
    exact atom_at w cb cv ts code h hb k7 f sb s1 d1 r1 hx1
  rw [if_neg k7] at hc
  by_cases k8 : hk ts = 8
  · rw [if_pos k8] at hc
    obtain ⟨⟨s1, d1, r1⟩, hx1, hc⟩ := bind_some hc
    cases hc
    exact atom_bad w cb cv ts code h hb k8 f sb s1 d1 r1 hx1
  rw [if_neg k8] at hc
  by_cases k9 : hk ts = 9 ∨ hk ts = 10
  · rw [if_pos k9] at hc
    obtain ⟨a, ha, hc⟩ := bind_some hc
    obtain ⟨b, hbb, hc⟩ := bind_some hc
    cases hc
    rcases k9 with k9 | k10
    · rw [if_pos k9]; exact atom_sum w cb cv ts code h hb k9 a b ha hbb
    · rw [if_neg (by rw [k10]; decide)]; exact atom_cnt w cb cv ts code h hb k10 a b ha hbb
  rw [if_neg k9] at hc
  cases hc
theorem cal_none (fn tag : Nat) : CAL fn tag 0 := by
  intro w cb cv ts code seg d rest h hb hc
  exact absurd hc.out (by simp [cmp])
theorem cal_all : ∀ f, (∀ g, g ≤ f → CAL 219 0 g ∧ CAL 237 1 g ∧ CAL 254 2 g ∧ CAL 261 3 g)
  | 0 => fun g hg => by
    have : g = 0 := by omega
    subst this
    exact ⟨cal_none _ _, cal_none _ _, cal_none _ _, cal_none _ _⟩
  | f + 1 => fun g hg => by
    have ih := cal_all f
    by_cases hf : g ≤ f
    · exact ih g hf
    · have : g = f + 1 := by omega
      subst this
      have i0 := ih f (Nat.le_refl _)
      exact ⟨form_step f fun g hg => (ih g hg).2.1, sum_stepC f fun g hg => (ih g hg).2.2.1, prod_stepC f fun g hg => (ih g hg).2.2.2, atom_step' f i0.2.2.2 i0.1 (brk_step f i0.1)⟩
theorem rdA_len (l : List UInt8) {n : Nat} (hl : l.length ≤ n) : (rdA l).ts.length ≤ n := by
  have h1 := scn_len l.length l 0
  unfold rdA
  split
  · simp
  · obtain ⟨r, hr, hf⟩ := prs_fuel (8 * (scn l.length l 0).1.length + 6) 0 (scn l.length l 0).1 0 0 (by omega) (by unfold rk; simp)
    rw [hr]
    simp only
    unfold rdP
    split
    · simp
    · split
      · simp
      · have := hf.2.2
        show r.ts.length ≤ n
        omega
theorem owns_slc {w : World} {B : Nat} {e : TypeId} {size : Nat} {v : Value} {n : Nat} {xs : List Value} (h : w.ownsRow B e size v n xs) : Slc w e size v n xs := by
  refine ⟨h.1, ?_⟩
  rcases h.2 with h2 | ⟨g, cap, cur, hv, hg, hh, hnc, hcm, hcs, ht⟩
  · exact .inl h2
  · exact .inr ⟨g, 0, cap, cur, hv, hh, hnc, hcm, by omega, by simpa using ht⟩
structure Cmpd (t : ByteArray) (code : List Ins) (d : Beh) : Prop where
  e : (rdA t.data.toList).e = 0
  tok : ∀ x ∈ (rdA t.data.toList).ts, TkOK x
  c : ∃ f rest, cmp f 0 0 [] (retA vN) (rdA t.data.toList).ts = some (code, d, rest)
  size : t.size ≤ 900
set_option maxRecDepth 100000 in
set_option maxHeartbeats 2000000 in
theorem compile_w (t : ByteArray) (code : List Ins) (d : Beh) (hC : Hid (Cmpd t code d)) (w : World) (hE : Hid (ErrVar w)) :
    Calls Tryz.prog 199 #[.string t] w fun e w' => ∃ v, e = .returned v ∧ Hid (Slc w' 303 6 v code.length (code.flatMap insC) ∧ Below w.heap.size w w' ∧ ∀ g, v.ownBlock = some g → w.heap.size ≤ g) := by
  obtain ⟨f, rest, hc⟩ := hC.out.c
  have HC' : Hid _ := hc
  have HS : Hid (t.size ≤ 100000) := by have := hC.out.size; unfold Hid; omega
  have HE0 : Hid ((rdA t.data.toList).e = 0) := hC.out.e
  have HTK : Hid _ := hC.out.tok
  have hlen : (rdA t.data.toList).ts.length ≤ 900 := rdA_len t.data.toList (by have := hC.out.size; simpa using this)
  have HLN : Hid _ := hlen
  clear hc hlen
  go_enter Tryz.func199, Tryz.ntmps199
  go_wp2_with fail
  refine (readAll_any t _ hE HS.out).mono ?_
  rintro e w1 ⟨hb1, v, rfl, _, ho⟩
  obtain ⟨ts, hts⟩ : ∃ ts, (rdA t.data.toList).ts = ts := ⟨_, rfl⟩
  rw [hts] at ho HC' HTK HLN
  have hsl : Slc w1 142 3 v ts.length (ts.flatMap tkCells) := owns_slc ho
  obtain ⟨ao, cp, rfl⟩ := hsl.len
  have HB1 : Hid _ := hb1
  have HSL : Hid (Slc w1 142 3 (.slice ao ts.length cp) ts.length (ts.flatMap tkCells)) := hsl
  clear ho hb1 hsl hts
  go_wp2_with fail
  have hcw : CW (w1.alloc (Obj.cells #[.slice ao ts.length cp, .slice none 0 0] 312)) w1.heap.size (.slice none 0 0) ts [] := {
    blk := ⟨_, rnew _ _ _, HSL.out.al _, fun g hg => ⟨by have := HSL.out.lt g hg; omega, fun e => by cases e⟩⟩
    code := slc_nil _ _ _
    cb := fun e => by cases e
    tok := HTK.out }
  refine ((cal_all f f (Nat.le_refl _)).1 _ w1.heap.size (.slice none 0 0) ts [] code d rest hcw (by have := HLN.out; simp only [List.length_nil]; omega) HC'.out).mono ?_
  rintro e w2 ⟨rfl, h2⟩
  obtain ⟨cv2, c2, g2⟩ := h2.out
  obtain ⟨lv, hbk, _, _⟩ := c2.blk
  have d1 := boxc hbk 1 cv2 rfl
  have HF : Hid (Slc w2 303 6 cv2 code.length (code.flatMap insC) ∧ Below w.heap.size w w2 ∧ ∀ g, cv2.ownBlock = some g → w.heap.size ≤ g) := by
    have hs1 := HB1.out.size
    refine ⟨by simpa using c2.code, HB1.out.trans ⟨g2.os, g2.tape, g2.output, Nat.le_trans (by simp) g2.size, fun k hk => ?_⟩, fun g hg => ?_⟩
    · rw [g2.keep k (by simp; omega) (by omega) (fun e => by cases e), Below.heap_alloc _ _ _ (by omega)]
    · rcases g2.row with e | ⟨g', e, hge⟩
      · rw [e] at hg; cases hg
      · rw [e] at hg; cases hg; simp at hge; omega
  clear h2 c2 g2 hbk hcw
  go_wp2_with fail
  go_ret
  exact ⟨cv2, rfl, HF⟩
end Go.Proofs.YtlpmmmmniojflaaGreatDoor
/- A working out, walked: look, settle, Holds. -/
set_option linter.unusedVariables false
set_option linter.unusedSimpArgs false
namespace Go.Proofs.YtlpmmmmniojflaaGreatDoor
open Go.RowKit
theorem results_cell_tmp {fn : Func} {p u : Tmp} {ty : TypeId} (h : fn.results = #[.cell p ty, .tmp u]) (tmps : Array Value) (P : Program) (w : World) (ad : Addr) (v : Value) (w' : World) (hp : tmps.getD p undef = .pointer (some ad)) (hl : (loadVar ty ad).run P w = .ok v w') :
    (results fn tmps).run P w = .ok (.tuple #[v, tmps.getD u undef]) w' := by
  simp only [results, h]
  rw [Array.getD_eq_getD_getElem?] at hp
  simp [Sem.run_bind, Result.andThen, hp, asAddr, hl]
set_option maxRecDepth 100000 in
set_option maxHeartbeats 2000000 in
theorem look_w (E : Env) (hE : Hid (RightW E)) (w : World) (own : Nat → Nat) (b x : Nat) (r : Rn) (c o : Nat) (hc : c < 48) (ho : o < 48) (h : Hid (RR w own b x r)) (hW : Hid (WtOK r)) (hst : (r.tk o).st ≤ 3) :
    Calls Tryz.prog 172 #[.pointer (some ⟨b, 0, none⟩), .int .i64 c, .int .i64 o] w fun e w' => e = .returned (.tuple #[vV ((look E r c o).2.getD vN), .bool (look E r c o).2.isSome]) ∧ Hid (RS w own b x w' (look E r c o).1) := by
  have hci : (c : Int) < 48 := by omega
  have hc0 : 0 ≤ (c : Int) := by omega
  have hoi : (o : Int) < 48 := by omega
  have ho0 : 0 ≤ (o : Int) := by omega
  have hT := h.out.tk o ho
  have s1 := hT.st
  have s1' := al hT.st
  have hlt := h.out.lt
  rw [← T_addr] at s1 s1'
  by_cases h3 : (r.tk o).st = 3
  · have HL : Hid (look E r c o = (r, some (r.tk o).an.v)) := by unfold Hid look; rw [if_pos h3]
    have hA := hT.ans h3
    have a2 := hA.k
    have a3 := hA.n
    have a4 := hA.s
    have e2 : T o + 11 + 2 = 290 + o * 16 + 11 + 2 := by unfold T; omega
    have e3 : T o + 11 + 3 = 290 + o * 16 + 11 + 2 + 1 := by unfold T; omega
    have e4 : T o + 11 + 4 = 290 + o * 16 + 11 + 2 + 2 := by unfold T; omega
    rw [e2] at a2
    rw [e3] at a3
    rw [e4] at a4
    have a2' := al a2
    have a3' := al a3
    have a4' := al a4
    have b3 : (((r.tk o).st : Int) == 3) = true := by simpa using (by omega : ((r.tk o).st : Int) = 3)
    clear hA hT e2 e3 e4 h3
    go_enter Tryz.func172, Tryz.ntmps172
    go_wp2_with fail
    refine bodyPost_ret (results_cell_tmp rfl _ _ _ ⟨w.heap.size, 0, none⟩ _ _ rfl (load52 (rnew _ _ _) rfl)) rfl ?_
    rw [HL.out]
    exact ⟨rfl, own, h.out.below (bl1 _ _) (fun _ _ => rfl)⟩
  · have b3 : (((r.tk o).st : Int) == 3) = false := by simpa using (by omega : ((r.tk o).st : Int) ≠ 3)
    cases hw : E.W r.wts o c with
    | true =>
      have HL : Hid (look E r c o = (r, some cyc)) := by unfold Hid look; rw [if_neg h3, if_pos hw]
      obtain ⟨W, HWt⟩ : ∃ W, W = true := ⟨true, rfl⟩
      have HWW : Hid (W = true ↔ ∃ m, along r.wts m o = c) := by unfold Hid; rw [HWt, ← hE.out r.wts hW.out.ends o c, hw]
      have HWt' : Hid (W = true) := HWt
      clear hw h3 hT HWt
      go_enter Tryz.func172, Tryz.ntmps172
      go_wp2_with fail
      refine (waitsFor_w _ own b x r o c ho hc (h.out.below (bl1 _ _) (fun _ _ => rfl)).1 hW W HWW).mono ?_
      rintro e w1 ⟨rfl, rfl⟩
      rw [HWt'.out]
      go_wp2_with fail
      refine (cycle_w _).mono ?_
      rintro e w2 ⟨rfl, hb2⟩
      have HR : Hid (w2.heap[w.heap.size]? = some (.cells #[.int .i64 0, .int .i64 0, .string ⟨#[]⟩] 52 (0, 0))) := by
        unfold Hid; rw [hb2.block _ (by simp)]; exact rnew w _ _
      obtain ⟨z0, z1, z2, z3, z4, z5⟩ := box3 rfl HR.out
      have HB : Hid (Below w.heap.size w w2) := (bl1 w _).trans (hb2.mono (by simp))
      clear hb2 s1 s1'
      unfold vV
      go_wp2_with fail
      refine bodyPost_ret (results_cell_tmp rfl _ _ _ ⟨w.heap.size, 0, none⟩ _ _ rfl (load52 (rset (rset (rset HR.out))) rfl)) rfl ?_
      rw [HL.out]
      refine ⟨rfl, own, h.out.below ?_ (fun _ _ => rfl)⟩
      repeat (first | exact HB.out | refine Below.setCell ?_ (by dsimp only; omega) _)
    | false =>
      have HL : Hid (look E r c o = (r.put c { r.tk c with wt := o }, none)) := by unfold Hid look; rw [if_neg h3, if_neg (by rw [hw]; decide)]
      obtain ⟨W, HWt⟩ : ∃ W, W = false := ⟨false, rfl⟩
      have HWW : Hid (W = true ↔ ∃ m, along r.wts m o = c) := by unfold Hid; rw [HWt, ← hE.out r.wts hW.out.ends o c, hw]
      have HWt' : Hid (W = false) := HWt
      clear HWt
      have hwt := (h.out.tk c hc).wt
      rw [← T_addr] at hwt
      have hwt' := al hwt
      have hfz := h.out.frozen (290 + c * 16 + 1)
      have hfz' := afz hfz hlt
      have n1 : b ≠ w.heap.size := by omega
      have n2 : w.heap.size ≠ b := by omega
      clear hw h3 hT
      go_enter Tryz.func172, Tryz.ntmps172
      go_wp2_with fail
      refine (waitsFor_w _ own b x r o c ho hc (h.out.below (bl1 _ _) (fun _ _ => rfl)).1 hW W HWW).mono ?_
      rintro e w1 ⟨rfl, rfl⟩
      rw [HWt'.out]
      go_wp2_with fail
      have hz : ∀ cs t, ((w.setCell ⟨b, 290 + c * 16 + 1, none⟩ (.int .i64 o)).alloc (.cells cs t)).heap[w.heap.size]? = some (.cells cs t (0, 0)) := fun cs t => by
        have := rnew (w.setCell ⟨b, 290 + c * 16 + 1, none⟩ (.int .i64 o)) cs t
        rw [show (w.setCell ⟨b, 290 + c * 16 + 1, none⟩ (.int .i64 o)).heap.size = w.heap.size by simp [World.setCell]] at this
        exact this
      refine bodyPost_ret (results_cell_tmp rfl _ _ _ ⟨w.heap.size, 0, none⟩ _ _ rfl (load52 (hz _ _) rfl)) rfl ?_
      rw [HL.out]
      have := h.out.setWt hc o
      rw [← T_addr] at this
      exact ⟨rfl, this.then (bl1 _ _)⟩
theorem info184 : (Tryz.prog.info? 184).map (·.size) = some 16 := by kernel_rfl
def tkC16 (a : Ans) (rv : Value) : Array Value := #[.int .i64 3, .int .i64 (-1), .slice none 0 0, .int .i64 0, .slice none 0 0, .int .i64 0, .int .i64 0, .int .i64 0, .bool false, .slice none 0 0, .slice none 0 0, .string a.f, rv, .int .i64 a.v.k, .int .i64 a.v.n, .string a.v.s]
def zc (own : Nat → Nat) (c : Nat) : Nat → Nat := fun k => if own k = cR c then 0 else own k
theorem RR.settled {w : World} {own : Nat → Nat} {b x c : Nat} {r : Rn} (h : RR w own b x r) (hc : c < 48) (a : Ans) (rv : Value) (hr : RdSl w rv a.rs) (hg : ∀ g, rv.ownBlock = some g → (own g = 0 ∨ own g = cR c)) :
    RS w own b x (w.setCells b (T c) (tkC16 a rv).toList) (settle r c a) := by
  obtain ⟨cs, hb, hs⟩ := h.blk
  obtain ⟨cs', e1, e2, e3, e4⟩ := setCells_row (tkC16 a rv).toList (T c) w cs hb
  have hcell : ∀ j, (w.setCells b (T c) (tkC16 a rv).toList).cell? ⟨b, j, none⟩ = cs'[j]? := fun j => cell_of_row _ b j cs' 187 (0, 0) e1
  have hin : ∀ t, t < 16 → (w.setCells b (T c) (tkC16 a rv).toList).cell? ⟨b, T c + t, none⟩ = (tkC16 a rv).toList[t]? := fun t ht => by
    rw [hcell, e3, if_pos ⟨by omega, by show T c + t < T c + 16; omega, by unfold T; omega⟩, Nat.add_sub_cancel_left]
  have g : Chg own (cC c) b (T c) (T c + 16) w (w.setCells b (T c) (tkC16 a rv).toList) := ⟨e4.os, e4.tape, e4.output, e4.size, fun k hk hkb _ => e4.block k hk hkb, fun cs0 t0 h0 => by
    rw [hb] at h0
    cases h0
    refine ⟨cs', e1, e2, fun j hj => ?_⟩
    rw [e3, if_neg]
    show ¬ (T c ≤ j ∧ j < T c + 16 ∧ _)
    omega⟩
  have hrb : ∀ gg, rv.ownBlock = some gg → gg ≠ b := fun gg hgg e => by
    rcases hr.2 with ⟨rfl, _⟩ | ⟨g', o, cap, cur, rfl, hgb, _⟩
    · cases hgg
    · cases hgg
      exact h.notRead cur ((show g' = b from e) ▸ hgb)
  have hmz : MZ (w.setCells b (T c) (tkC16 a rv).toList) b c := fun j h4 hj => by
    rcases (show j = 4 ∨ j = 5 ∨ j = 6 ∨ j = 7 ∨ j = 8 ∨ j = 9 ∨ j = 10 by omega) with rfl | rfl | rfl | rfl | rfl | rfl | rfl
    · exact ⟨_, hin 4 (by omega), rfl⟩
    · exact ⟨_, hin 5 (by omega), rfl⟩
    · exact ⟨_, hin 6 (by omega), rfl⟩
    · exact ⟨_, hin 7 (by omega), rfl⟩
    · exact ⟨_, hin 8 (by omega), rfl⟩
    · exact ⟨_, hin 9 (by omega), rfl⟩
    · exact ⟨_, hin 10 (by omega), rfl⟩
  refine ⟨zc own c, h.task hc g (fun k hk hn => ?_) ?_⟩
  · unfold zc
    rw [if_neg (fun e => hn (.inr (.inr (.inr e))))]
  · refine { st := hin 0 (by omega), wt := hin 1 (by omega), kn := ⟨.slice none 0 0, [], hin 2 (by omega), ⟨slc_nil _ _ _, fun g hg => by cases hg⟩, rfl⟩, held := hin 3 (by omega), run := fun e => (by cases e), mz := fun _ => hmz, ans := fun _ => ?_ }
    refine { f := hin 11 (by omega), rs := ⟨rv, hin 12 (by omega), hr.kept fun gg hgg => e4.block gg (hr.lt gg hgg) (hrb gg hgg), fun gg hgg => ?_⟩, k := hin 13 (by omega), n := hin 14 (by omega), s := hin 15 (by omega) }
    unfold zc
    rcases hg gg hgg with e | e
    · split
      · rfl
      · exact e
    · rw [if_pos e]
def ansV (a : Ans) (rv : Value) : Value := .agg #[.string a.f, rv, .int .i64 a.v.k, .int .i64 a.v.n, .string a.v.s]
set_option maxRecDepth 100000 in
set_option maxHeartbeats 4000000 in
theorem settle_w (w : World) (own : Nat → Nat) (b x : Nat) (r : Rn) (c : Nat) (a : Ans) (rv : Value) (hc : c < 48) (h : Hid (RR w own b x r)) (hr : Hid (RdSl w rv a.rs)) (hg : Hid (∀ g, rv.ownBlock = some g → (own g = 0 ∨ own g = cR c))) :
    Calls Tryz.prog 113 #[.pointer (some ⟨b, 0, none⟩), .int .i64 c, ansV a rv] w fun e w' => e = .returned (.tuple #[]) ∧ Hid (RS w own b x w' (settle r c a)) := by
  have hci : (c : Int) < 48 := by omega
  have hc0 : 0 ≤ (c : Int) := by omega
  have hlt := h.out.lt
  have n1 : b ≠ w.heap.size := by omega
  have n2 : w.heap.size ≠ b := by omega
  have hex : ∀ j, j < 16 → ∃ v, w.cell? ⟨b, 290 + c * 16 + j, none⟩ = some v := fun j hj => by
    obtain ⟨cs, hb, hs⟩ := h.out.blk
    exact ⟨_, by rw [cell_of_row _ b _ cs 187 (0, 0) hb, Array.getElem?_eq_getElem (by omega)]⟩
  obtain ⟨u0, hu0⟩ := hex 0 (by omega)
  have hz0 := h.out.frozen (290 + c * 16)
  rw [Nat.add_zero] at hu0
  obtain ⟨u1, hu1⟩ := hex 1 (by omega)
  have hz1 := h.out.frozen (290 + c * 16 + 1)
  obtain ⟨u2, hu2⟩ := hex 2 (by omega)
  have hz2 := h.out.frozen (290 + c * 16 + 2)
  obtain ⟨u3, hu3⟩ := hex 3 (by omega)
  have hz3 := h.out.frozen (290 + c * 16 + 3)
  obtain ⟨u4, hu4⟩ := hex 4 (by omega)
  have hz4 := h.out.frozen (290 + c * 16 + 4)
  obtain ⟨u5, hu5⟩ := hex 5 (by omega)
  have hz5 := h.out.frozen (290 + c * 16 + 5)
  obtain ⟨u6, hu6⟩ := hex 6 (by omega)
  have hz6 := h.out.frozen (290 + c * 16 + 6)
  obtain ⟨u7, hu7⟩ := hex 7 (by omega)
  have hz7 := h.out.frozen (290 + c * 16 + 7)
  obtain ⟨u8, hu8⟩ := hex 8 (by omega)
  have hz8 := h.out.frozen (290 + c * 16 + 8)
  obtain ⟨u9, hu9⟩ := hex 9 (by omega)
  have hz9 := h.out.frozen (290 + c * 16 + 9)
  obtain ⟨u10, hu10⟩ := hex 10 (by omega)
  have hz10 := h.out.frozen (290 + c * 16 + 10)
  obtain ⟨u11, hu11⟩ := hex 11 (by omega)
  have hz11 := h.out.frozen (290 + c * 16 + 11)
  obtain ⟨u12, hu12⟩ := hex 12 (by omega)
  have hz12 := h.out.frozen (290 + c * 16 + 12)
  obtain ⟨u13, hu13⟩ := hex 13 (by omega)
  have hz13 := h.out.frozen (290 + c * 16 + 13)
  obtain ⟨u14, hu14⟩ := hex 14 (by omega)
  have hz14 := h.out.frozen (290 + c * 16 + 14)
  obtain ⟨u15, hu15⟩ := hex 15 (by omega)
  have hz15 := h.out.frozen (290 + c * 16 + 15)
  obtain ⟨ao, cp, hrv⟩ := Slc.len hr.out
  have HS : Hid (RS w own b x (w.setCells b (T c) (tkC16 a rv).toList) (settle r c a)) := h.out.settled hc a rv hr.out hg.out
  rw [hrv] at HS ⊢
  clear hrv hex hr hg
  unfold ansV
  go_enter Tryz.func113, Tryz.ntmps113
  go_wp2_with fail
  go_region
  all_goals
    change bodyPost Tryz.prog Tryz.f113 (fun e w' => e = Ending.returned (Value.tuple #[]) ∧ Hid (RS w own b x w' (settle r c a))) Exit.normal _ _
    refine bodyPost_end (results_none rfl _ _ _) rfl ⟨rfl, ?_⟩
    have := HS.out
    rw [← T_addr] at this
    exact RS.then this (bl1 _ _).drew
theorem box5 {W : World} {q : Nat} {a b c d e : Value} {t : TypeId} (h : W.heap[q]? = some (.cells #[a, b, c, d, e] t (0, 0))) : W.cell? ⟨q, 0, none⟩ = some a ∧ W.cell? ⟨q, 1, none⟩ = some b ∧ W.cell? ⟨q, 2, none⟩ = some c ∧ W.cell? ⟨q, 3, none⟩ = some d ∧ W.cell? ⟨q, 4, none⟩ = some e :=
  ⟨cell_of_row W q 0 _ t (0, 0) h, cell_of_row W q 1 _ t (0, 0) h, cell_of_row W q 2 _ t (0, 0) h, cell_of_row W q 3 _ t (0, 0) h, cell_of_row W q 4 _ t (0, 0) h⟩
theorem two0 (w : World) (x y : Obj) : ((w.alloc x).alloc y).drew.heap[w.heap.size]? = some x := by
  show ((w.alloc x).alloc y).heap[w.heap.size]? = some x
  rw [Below.heap_alloc _ _ _ (by simp)]; exact heap_alloc_new w _
def Cmps (s u : V) (B : Bool) : Prop := (B = true ∧ s.k = u.k ∧ s.n = u.n ∧ s.s = u.s) ∨ (B = false ∧ ¬ s.k = u.k) ∨ (B = false ∧ s.k = u.k ∧ ¬ s.n = u.n) ∨ (B = false ∧ s.k = u.k ∧ s.n = u.n ∧ ¬ s.s.toList = u.s.toList)
theorem cmps (s u : V) : Cmps s u (s.eqB u) := by
  unfold Cmps
  by_cases h1 : s.k = u.k
  · by_cases h2 : s.n = u.n
    · by_cases h3 : s.s = u.s
      · exact .inl ⟨eqB_iff.2 (by cases s; cases u; simp_all), h1, h2, h3⟩
      · exact .inr (.inr (.inr ⟨eqB_ne (fun e => h3 (by rw [e])), h1, h2, fun e => h3 (ba_list e)⟩))
    · exact .inr (.inr (.inl ⟨eqB_ne (fun e => h2 (by rw [e])), h1, h2⟩))
  · exact .inr (.inl ⟨eqB_ne (fun e => h1 (by rw [e])), h1⟩)
end Go.Proofs.YtlpmmmmniojflaaGreatDoor
/- A working out, walked: try. -/
set_option linter.unusedVariables false
set_option linter.unusedSimpArgs false
namespace Go.Proofs.YtlpmmmmniojflaaGreatDoor
open Go.RowKit
theorem wp_scope_at2 {P : Program} {a : Act} {w : World} {Q : Exit → Act → World → Prop} {pre rest : Code} (l0 n0 : Nat) (J : Nat → Nat → Act → World → Prop) (hpre : pre.wp P (fun e a w => e = .normal ∧ J n0 l0 a w) a w) (hf : ∀ l, findLabel pre l = none)
    (pass0 : ∀ n a w, J n l0 a w → rest.wp P (jumpsQ (fun l' a' w' => ∃ n', n' < n ∧ J n' l' a' w') Q) a w)
    (only : ∀ n l a w, J n l a w → l = l0) : (Code.scope (pre.seq ((Code.label l0).seq rest))).wp P Q a w := by
  refine wp_scope_ghost J ?_ ?_
  · apply wp_seq
    refine wp_more hpre fun e a w hq => ?_
    obtain ⟨rfl, hJ⟩ := hq
    show ((Code.label l0).seq rest).wp P _ a w
    apply wp_seq
    apply wp_label
    refine wp_more (pass0 n0 a w hJ) fun e a w hq => ?_
    cases e with
    | goto l => obtain ⟨n', _, h⟩ := hq; exact ⟨n', h⟩
    | _ => exact hq
  · intro n l a w hJ
    have hl := only n l a w hJ
    subst hl
    refine ⟨Code.seq .skip rest, by simp [findLabel, hf], ?_⟩
    apply wp_seq
    apply wp_skip
    exact pass0 n a w hJ
section
variable {E : Env} {c : Nat} {r r' : Rn} {a : Ans} {l : List Ans}
theorem tryK_done (hd : a.rs.length ≤ (r.tk c).held) : tryK E c (a :: l) r = (settle r c a, true) := by
  rw [tryK, List.drop_eq_nil_of_le hd]; rfl
theorem drop_atR {x : Rd} {rs : List Rd} {n : Nat} (hx : rs[n]? = some x) : rs.drop n = x :: rs.drop (n + 1) := by
  have hl := (List.getElem?_eq_some_iff.1 hx).1
  rw [List.drop_eq_getElem_cons hl]
  congr 1
  exact (List.getElem?_eq_some_iff.1 hx).2
theorem tryK_wait {x : Rd} (hx : a.rs[(r.tk c).held]? = some x) (hl : look E r c x.nd.c = (r', none)) : tryK E c (a :: l) r = (r', false) := by
  rw [tryK, drop_atR hx, tryR, hl]
theorem tryK_not {x : Rd} {v : V} (hx : a.rs[(r.tk c).held]? = some x) (hl : look E r c x.nd.c = (r, some v)) (hn : (see x.nd v).eqB x.w = false) : tryK E c (a :: l) r = tryK E c l (r.put c { r.tk c with kn := l, held := 0 }) := by
  rw [tryK, drop_atR hx, tryR, hl]
  simp only [hn]
  rfl
theorem tryK_hold {x : Rd} {v : V} (hx : a.rs[(r.tk c).held]? = some x) (hl : look E r c x.nd.c = (r, some v)) (hn : (see x.nd v).eqB x.w = true) : tryK E c (a :: l) r = tryK E c (a :: l) (r.put c { r.tk c with held := (r.tk c).held + 1 }) := by
  rw [tryK, tryK, drop_atR hx, tryR, hl]
  simp only [hn, if_true, put_same]
theorem look_some {o : Nat} {v : V} (h : (look E r c o).2 = some v) : look E r c o = (r, some v) := by
  unfold look at h ⊢
  split
  · rename_i h3; rw [if_pos h3] at h; cases h; rfl
  · rename_i h3
    rw [if_neg h3] at h
    split
    · rename_i hw; rw [if_pos hw] at h; cases h; rfl
    · rename_i hw; rw [if_neg hw] at h; cases h
end
theorem rdC_len (x : Rd) : (rdC x).length = 5 := rfl
theorem KN.head {w : World} {own : Nat → Nat} {b j col : Nat} {a : Ans} {l : List Ans} (h : KN w own b j col (a :: l)) : ∃ g o cap ao cp, w.cell? ⟨b, j, none⟩ = some (.slice (some ⟨g, o, none⟩) (l.length + 1) cap) ∧ l.length + 1 ≤ cap ∧ g ≠ b ∧
    w.cell? ⟨g, o, none⟩ = some (.string a.f) ∧ w.cell? ⟨g, o + 1, none⟩ = some (.slice ao a.rs.length cp) ∧ w.cell? ⟨g, o + 2, none⟩ = some (.int .i64 a.v.k) ∧ w.cell? ⟨g, o + 3, none⟩ = some (.int .i64 a.v.n) ∧ w.cell? ⟨g, o + 4, none⟩ = some (.string a.v.s) ∧
    RdSl w (.slice ao a.rs.length cp) a.rs ∧ (∀ g', (Value.slice ao a.rs.length cp).ownBlock = some g' → own g' = 0) ∧
    (∀ nv, (nv = .slice (some ⟨g, o + 5, none⟩) l.length (cap - 1) ∨ (cap = 1 ∧ nv = .slice (some ⟨g, o, none⟩) 0 0)) → ∃ xs, SlC w own b col 95 5 nv l.length xs ∧ AL w own l xs) := by
  obtain ⟨v, xs, h1, h2, ⟨rv, q, e1, e2, e3, e4⟩⟩ := h
  obtain ⟨ao, cp, rfl⟩ := Slc.len e2
  have hsl := h2.sl
  rcases hsl.2 with ⟨_, h0⟩ | ⟨g, o, cap, cur, rfl, hg, hn, hcm, hs, ht⟩
  · simp at h0
  · have cc := fun t u hu => hsl.cell t u hu
    rw [List.length_cons] at h1 hn
    refine ⟨g, o, cap, ao, cp, h1, hn, (h2.col g rfl).2, cc 0 _ (by rw [e1]; rfl), cc 1 _ (by rw [e1]; rfl), cc 2 _ (by rw [e1]; rfl), cc 3 _ (by rw [e1]; rfl), cc 4 _ (by rw [e1]; rfl), e2, e3, fun nv hnv => ⟨q, ⟨?_, ?_⟩, e4⟩⟩
    · have hql := AL.len l q e4
      rcases hnv with rfl | ⟨rfl, rfl⟩
      · refine ⟨hql, .inr ⟨g, o + 5, cap - 1, cur, rfl, hg, by omega, by omega, by omega, ?_⟩⟩
        have e : (cur.toList.drop o).take ((l.length + 1) * 5) = aC a (.slice ao a.rs.length cp) ++ q := by rw [← e1]; exact ht
        rw [show cur.toList.drop (o + 5) = (cur.toList.drop o).drop 5 by rw [List.drop_drop], show l.length * 5 = (l.length + 1) * 5 - 5 by omega, ← List.drop_take, e]
        rfl
      · have hl0 : l = [] := List.eq_nil_of_length_eq_zero (by omega)
        subst hl0
        have : q = [] := e4
        subst this
        exact ⟨rfl, .inr ⟨g, o, 0, cur, rfl, hg, by simp, by omega, by omega, by simp⟩⟩
    · intro k hk
      have : k = g := by rcases hnv with rfl | ⟨_, rfl⟩ <;> (cases hk; rfl)
      subst this
      exact h2.col k rfl
theorem RdSl.read {w : World} {ao : Option Addr} {cp : Nat} {rs : List Rd} (h : RdSl w (.slice ao rs.length cp) rs) {n : Nat} {x : Rd} (hx : rs[n]? = some x) : ∃ g o, ao = some ⟨g, o, none⟩ ∧ rs.length ≤ cp ∧ w.cell? ⟨g, o + n * 5, none⟩ = some (.int .i64 x.nd.c) ∧ w.cell? ⟨g, o + n * 5 + 1, none⟩ = some (.bool x.nd.a) ∧ w.cell? ⟨g, o + n * 5 + 2, none⟩ = some (.int .i64 x.w.k) ∧ w.cell? ⟨g, o + n * 5 + 3, none⟩ = some (.int .i64 x.w.n) ∧ w.cell? ⟨g, o + n * 5 + 4, none⟩ = some (.string x.w.s) := by
  have hl := (List.getElem?_eq_some_iff.1 hx).1
  obtain ⟨g, o, cap, e, hc⟩ := Slc.at h (by omega)
  cases e
  have f := fun t u hu => Slc.cell h _ _ (flat3_get rdC_len rs n x t u hx hu)
  refine ⟨g, o, rfl, hc, f 0 _ rfl, ?_, ?_, ?_, ?_⟩
  · rw [Nat.add_assoc]; exact f 1 _ rfl
  · rw [Nat.add_assoc]; exact f 2 _ rfl
  · rw [Nat.add_assoc]; exact f 3 _ rfl
  · rw [Nat.add_assoc]; exact f 4 _ rfl
theorem RR.dropKn {w : World} {own : Nat → Nat} {b x c : Nat} {r : Rn} {l : List Ans} (h : RR w own b x r) (hc : c < 48) (hs : (r.tk c).st = 1) (nv : Value) (xs : List Value) (hS : SlC w own b (cK c) 95 5 nv l.length xs) (hA : AL w own l xs) :
    RS w own b x ((w.setCell ⟨b, T c + 2, none⟩ nv).setCell ⟨b, T c + 3, none⟩ (.int .i64 0)) (r.put c { r.tk c with kn := l, held := 0 }) := by
  obtain ⟨cs, hb, hsz⟩ := h.blk
  have ht := h.tk c hc
  have hb1 := rset (k := T c + 2) (u := nv) hb
  have hsz1 : (cs.setIfInBounds (T c + 2) nv).size = 1059 := by rw [Array.size_setIfInBounds]; exact hsz
  have g : Chg own (cC c) b (T c) (T c + 16) w ((w.setCell ⟨b, T c + 2, none⟩ nv).setCell ⟨b, T c + 3, none⟩ (.int .i64 0)) := ((Chg.refl _ _ _ _ _ _).put (by omega) (by omega) _).put (by omega) (by omega) _
  refine ⟨own, h.task hc g (fun _ _ _ => rfl) ?_⟩
  refine { st := by rw [cset187 hb1 (by omega), cset187 hb (by omega)]; exact ht.st, wt := by rw [cset187 hb1 (by omega), cset187 hb (by omega)]; exact ht.wt, kn := ⟨nv, xs, ?_, ⟨?_, hS.col⟩, (hA.setB hb _ _).setB hb1 _ _⟩, held := csame187 hb1 (by rw [hsz1]; unfold T; omega) _, run := fun e => by have e : (r.tk c).st = 2 := e; omega, ans := fun e => (by have e : (r.tk c).st = 3 := e; omega), mz := fun e => by have e : (r.tk c).st = 3 := e; omega }
  · rw [cset187 hb1 (by omega)]; exact csame187 hb (by unfold T; omega) _
  · exact hS.sl.kept fun k hk => by rw [Below.heap_setCell _ _ _ _ (hS.col k hk).2, Below.heap_setCell _ _ _ _ (hS.col k hk).2]
end Go.Proofs.YtlpmmmmniojflaaGreatDoor
/- A working out, walked: Holds. -/
set_option linter.unusedVariables false
set_option linter.unusedSimpArgs false
namespace Go.Proofs.YtlpmmmmniojflaaGreatDoor
open Go.RowKit
set_option maxRecDepth 100000 in
set_option maxHeartbeats 2000000 in
theorem holds_w (x : Rd) (v : V) (w : World) : Calls Tryz.prog 173 #[.agg #[.int .i64 x.nd.c, .bool x.nd.a, .int .i64 x.w.k, .int .i64 x.w.n, .string x.w.s], vV v] w fun e w' => e = .returned (.bool ((see x.nd v).eqB x.w)) ∧ Below w.heap.size w w' := by
  have HS : Hid (Gives 178 #[.agg #[.int .i64 x.nd.c, .bool x.nd.a], vV v] (vV (see x.nd v))) := see_w x.nd v
  obtain ⟨s, hs⟩ : ∃ s, see x.nd v = s := ⟨_, rfl⟩
  rw [hs] at HS ⊢
  clear hs
  have key := cmps s x.w
  obtain ⟨B, hB⟩ : ∃ B, s.eqB x.w = B := ⟨_, rfl⟩
  rw [hB] at key ⊢
  clear hB
  unfold vV at HS ⊢
  rcases key with ⟨rfl, h1, h2, h3⟩ | ⟨rfl, h1⟩ | ⟨rfl, h1, h2⟩ | ⟨rfl, h1, h2, h3⟩
  all_goals
    go_enter Tryz.func173, Tryz.ntmps173
    go_wp2_with fail
    have hbx := box5 (two0 w (.cells #[.int .i64 x.nd.c, .bool x.nd.a, .int .i64 x.w.k, .int .i64 x.w.n, .string x.w.s] 274) (.cells #[.int .i64 v.k, .int .i64 v.n, .string v.s] 52))
    obtain ⟨q0, q1, q2, q3, q4⟩ := hbx
    have hvx : ((w.alloc (.cells #[.int .i64 x.nd.c, .bool x.nd.a, .int .i64 x.w.k, .int .i64 x.w.n, .string x.w.s] 274)).alloc (.cells #[.int .i64 v.k, .int .i64 v.n, .string v.s] 52)).drew.heap[w.heap.size + 1]? = some (.cells #[.int .i64 v.k, .int .i64 v.n, .string v.s] 52 (0, 0)) := by
      have := rnew (w.alloc (.cells #[.int .i64 x.nd.c, .bool x.nd.a, .int .i64 x.w.k, .int .i64 x.w.n, .string x.w.s] 274)) #[.int .i64 v.k, .int .i64 v.n, .string v.s] 52
      rw [show (w.alloc (.cells #[.int .i64 x.nd.c, .bool x.nd.a, .int .i64 x.w.k, .int .i64 x.w.n, .string x.w.s] 274)).heap.size = w.heap.size + 1 by simp] at this
      exact this
    obtain ⟨y0, y1, y2, _, _, _⟩ := box3 rfl hvx
    go_region_held3 (fun w' => w'.cell? ⟨w.heap.size, 0, none⟩ = some (.int .i64 x.nd.c) ∧ w'.cell? ⟨w.heap.size, 1, none⟩ = some (.bool x.nd.a) ∧ w'.cell? ⟨w.heap.size, 2, none⟩ = some (.int .i64 x.w.k) ∧ w'.cell? ⟨w.heap.size, 3, none⟩ = some (.int .i64 x.w.n) ∧ w'.cell? ⟨w.heap.size, 4, none⟩ = some (.string x.w.s) ∧ w'.cell? ⟨w.heap.size + 1, 0, none⟩ = some (.int .i64 v.k) ∧ w'.cell? ⟨w.heap.size + 1, 1, none⟩ = some (.int .i64 v.n) ∧ w'.cell? ⟨w.heap.size + 1, 2, none⟩ = some (.string v.s)) (go_keep) (first
      | (go_at_call 178; refine (HS.out _).mono ?_; rintro e w1 ⟨rfl, hb1⟩; obtain ⟨p0, p1, p2, p3, p4⟩ := box5 (bb (two0 w _ _) hb1); obtain ⟨p5, p6, p7, _, _, _⟩ := box3 rfl (bb hvx hb1); have HB : Hid (Below w.heap.size w w1) := ((bl2 w _ _).drew).trans (hb1.mono (by simp; omega)); clear hb1))
  all_goals
    go_wp2_with fail
    go_ret
    exact ⟨rfl, HB.out⟩
end Go.Proofs.YtlpmmmmniojflaaGreatDoor
