/- Texts put together. -/
import Derived.Test.YtiocnfambeochaaGreatDoorQ51
import Derived.ProofKit
import Derived.SliceStrings
import Derived.ChangeSlices
import Derived.SizedLaws
import Derived.Carry
import Derived.Test.YtiocnfambeochaaGreatDoorCards
import Derived.Test.YtiocnfambeochaaGreatDoorTie
import Derived.OpenShut
import Derived.ShutString
import Derived.Deep.DeepHandedRow
import Derived.Lib.LaidTab
import Derived.Lay
/- The statement Idle, walked. -/
set_option linter.unusedVariables false
set_option linter.unusedSimpArgs false
namespace Go.Proofs.YtiocnfambeochaaGreatDoor
open Go.RowKit

theorem txt_one : TxtOK ⟨#[49]⟩ (retA (vI 1)) := txt_of (l := [49]) (g := [tNum [49]]) (by kernel_rfl) (by kernel_rfl) (by kernel_rfl) (by kernel_rfl) (by kernel_rfl) (cg_form (cg_n [49] 1 rfl (by omega)))
def idE : List (ByteArray × ByteArray) := [(⟨#[69, 56]⟩, ⟨#[49]⟩), (⟨#[69, 57]⟩, ⟨#[49]⟩)]
theorem id_refused (fs : Nat → ByteArray) : (edR bd0 0 idE fs).e = 4 ∧ (edR bd0 0 idE fs).i = 1 ∧ (edR bd0 0 idE fs).p = 0 := by
  have h1 := ck_txt (cl := ⟨#[69, 56]⟩) (c := 46) (by decide) txt_one.ne txt_one.e
  have h2 : ckP bd0 ⟨#[69, 57]⟩ ⟨#[49]⟩ = ⟨4, 0, 0, eB⟩ := by
    unfold ckP
    rw [show cellN (⟨#[69, 57]⟩ : ByteArray).data.toList = none by decide]
  have e : edR bd0 0 idE fs = edR bd0 1 [(⟨#[69, 57]⟩, ⟨#[49]⟩)] (updF fs (ckP bd0 ⟨#[69, 56]⟩ ⟨#[49]⟩).c (ckP bd0 ⟨#[69, 56]⟩ ⟨#[49]⟩).t) := by
    unfold idE
    rw [edR, if_neg (by rw [h1]; decide)]
  rw [e, edR, if_pos (by rw [h2]; decide), h2]
  exact ⟨rfl, rfl, rfl⟩
theorem slc_four (w : World) (a b c d : Value) : Slc (w.alloc (.cells #[a, b, c, d] 68)) 68 2 (.slice (some ⟨w.heap.size, 0, none⟩) 2 2) 2 [a, b, c, d] :=
  ⟨rfl, .inr ⟨w.heap.size, 0, 2, #[a, b, c, d], rfl, rnew _ _ _, Nat.le_refl _, by unfold maxLen; decide, (show 0 + 2 * 2 ≤ 4 by decide), rfl⟩⟩
theorem id_sizes : ∀ e ∈ idE, e.2.size ≤ maxLen := by
  intro e he
  unfold idE at he
  simp only [List.mem_cons, List.not_mem_nil, or_false] at he
  rcases he with rfl | rfl <;> (unfold maxLen; decide)
theorem has_yes {bg : List Nat} (hb : ∀ c ∈ bg, c < 48) {c : Nat} (hc : c < 48) (h : c ∈ bg) : hasB bg (nm c) = true := by rw [hasB_iff hb hc, decide_eq_true h]
theorem has_no {bg : List Nat} (hb : ∀ c ∈ bg, c < 48) {c : Nat} (hc : c < 48) (h : c ∉ bg) : hasB bg (nm c) = false := by rw [hasB_iff hb hc, decide_eq_false h]
theorem nm41 : nm 41 = ⟨#[70, 55]⟩ := rfl
theorem nm47 : nm 47 = ⟨#[70, 56]⟩ := rfl
theorem nm46 : nm 46 = ⟨#[69, 56]⟩ := rfl
theorem o9 (n : Int) : pk n 9 / 3 < 3 := by have := pk_lt n (n := 9) (by omega); omega
set_option maxRecDepth 100000 in
set_option maxHeartbeats 16000000 in
theorem idle_w (vr : Value) (l : List ByteArray) (store how again : Int) (hs : Hid (I64 store)) (hh : Hid (I64 how)) (hg : Hid (I64 again)) (w : World) (hr : Hid (RawS w vr l)) (hA : Hid (Amb w)) :
    Calls Tryz.prog 11 #[vr, .int .i64 store, .int .i64 how, .int .i64 again] w fun e w' => e = .returned (.bool true) ∧ Below w.heap.size w w' := by
  obtain ⟨E, hE⟩ := env_ex
  have HE : Hid (EnvOK E) := hE
  clear hE
  go_enter Tryz.func11, Tryz.ntmps11
  go_wp2_with fail
  refine (begin_s E store hs.out w w (Below.refl _ _)).mono ?_
  rintro e w1 ⟨x, rfl, g1⟩
  have H1 : Hid (ShS E w w1 x fs0 fs0 (k0 (pk store 65))) := g1.out.1
  clear g1
  go_wp2_with fail
  refine (set_s hA H1 (t := t21) txt_21 (c := 41) (by unfold Hid; decide)).mono ?_
  rintro e w2 ⟨rfl, g2⟩
  have H2 := g2.out.1
  have H2 : Hid _ := H2
  clear g2 H1
  go_wp2_with fail
  refine (set_s hA H2 (t := tX2) txt_x2 (c := 47) (by unfold Hid; decide)).mono ?_
  rintro e w3 ⟨rfl, g3⟩
  have H3 : Hid (ShS E w w3 x fs0 idF (k0 (pk store 65))) := g3.out.1
  clear g3 H2
  go_wp2_with fail
  refine (play_w HE hA H3 hr (vh := .slice none 0 0) (hs := []) (.inl ⟨rfl, rfl⟩)).mono ?_
  rintro e w4 ⟨rfl, g4⟩
  have HID : Hid (IdS (plF (l.take 20) idF)) := (pl_r _ _).ids
  have H4 : Hid (ShS E w w4 x fs0 (plF (l.take 20) idF) (k0 (pk store 65))) := by
    obtain ⟨fl', k', h1, h2, _⟩ := g4.out
    obtain ⟨rfl, rfl⟩ := h2 rfl
    exact h1
  clear g4 H3
  generalize plF (l.take 20) idF = fs at *
  go_wp2_with fail
  refine (worked_s HE hA H4 how hh).mono ?_
  rintro e w5 ⟨v5, k5, bg5, rfl, g5⟩
  have H5 : Hid (ShS E w w5 x fs fs k5) := g5.out.1
  have HSL : Hid (Slc w5 9 1 v5 bg5.length (bg5.map nmV)) := g5.out.2.2.2
  have HB5 : Hid (∀ c ∈ bg5, c < 48) := fun c hc => (g5.out.2.1.bgOK HE.out H4.out.kinv H4.out.ft (o9 how) c hc).1
  have HM5 : Hid (41 ∈ bg5 ∧ 47 ∈ bg5) := id_first HE.out H4.out.ft HID.out H4.out.kinv has_zero (o9 how) g5.out.2.1
  have HST : Hid (∀ a ∈ k5.store.has, ∃ c, a.f = fs c) := fun a ha => by
    rcases g5.out.2.1.stored HE.out H4.out.kinv H4.out.ft (o9 how) a ha with g | ⟨c, _, g⟩
    · rw [has_zero] at g; cases g
    · exact ⟨c, g⟩
  have HH1 : Hid (hasB bg5 ⟨#[70, 55]⟩ = true) := by have h := has_yes HB5.out (c := 41) (by omega) HM5.out.1; rw [nm41] at h; exact h
  have HH2 : Hid (hasB bg5 ⟨#[70, 56]⟩ = true) := by have h := has_yes HB5.out (c := 47) (by omega) HM5.out.2; rw [nm47] at h; exact h
  clear g5 H4 HB5 HM5
  go_wp2_with fail
  refine (has_w _ _ bg5 _ HSL).mono ?_
  rintro e w6 ⟨rfl, hw6⟩
  rw [hw6, HH1.out]
  clear hw6 w6
  go_wp2_with fail
  refine (has_w _ _ bg5 _ HSL).mono ?_
  rintro e w6 ⟨rfl, hw6⟩
  rw [hw6, HH2.out]
  clear hw6 w6 HSL
  go_wp2_with fail
  have HS4 : Hid (Slc (w5.alloc (.cells #[.string ⟨#[69, 56]⟩, .string ⟨#[49]⟩, .string ⟨#[69, 57]⟩, .string ⟨#[49]⟩] 68)) 68 2 (.slice (some ⟨w5.heap.size, 0, none⟩) 2 2) idE.length (idE.flatMap edC)) := slc_four w5 _ _ _ _
  have H6 : Hid (ShS E w (w5.alloc (.cells #[.string ⟨#[69, 56]⟩, .string ⟨#[49]⟩, .string ⟨#[69, 57]⟩, .string ⟨#[49]⟩] 68)) x fs fs k5) := H5.out.below (bl1 _ _)
  refine (edit_any _ x _ idE H6.out.sr (hA.out.below H6.out.bel) HS4 (by decide) id_sizes).mono ?_
  rintro e w7 ⟨rfl, g7⟩
  obtain ⟨q1, q2, q3⟩ := id_refused fs
  have H7 : Hid (ShS E w w7 x fs fs k5) := H6.out.below (g7.out.1 (by rw [q1]; decide))
  rw [q1, q2, q3]
  clear g7 q1 q2 q3 HS4 H6 H5
  go_wp2_with fail
  refine (worked_s HE hA H7 again hg).mono ?_
  rintro e w8 ⟨v8, k8, bg8, rfl, g8⟩
  obtain ⟨hb8, hk8⟩ := id_again H7.out.kinv g8.out.2.1
  subst hb8
  subst hk8
  have H8 : Hid (ShS E w w8 x fs fs k8) := g8.out.1
  obtain ⟨ao, cp, hv8⟩ := g8.out.2.2.2.len
  have hv8 : v8 = .slice ao 0 cp := hv8
  subst hv8
  clear g8 H7
  go_wp2_with fail
  refine (set_s hA H8 (t := tE7) txt_e7 (c := 46) (by unfold Hid; decide)).mono ?_
  rintro e w9 ⟨rfl, g9⟩
  have H9 : Hid (ShS E w w9 x fs (updF fs 46 tE7) k8) := g9.out.1
  have HFT : Hid (FsT fs) := H8.out.ft
  clear g9 H8
  go_wp2_with fail
  refine (worked_s HE hA H9 again hg).mono ?_
  rintro e w10 ⟨v10, k10, bg10, rfl, g10⟩
  have H10 : Hid (ShS E w w10 x (updF fs 46 tE7) (updF fs 46 tE7) k10) := g10.out.1
  have HSM : Hid (Slc w10 9 1 v10 bg10.length (bg10.map nmV)) := g10.out.2.2.2
  have HB10 : Hid (∀ c ∈ bg10, c < 48) := fun c hc => (g10.out.2.1.bgOK HE.out H9.out.kinv H9.out.ft (o9 again) c hc).1
  have HLA : Hid (46 ∈ bg10 ∧ 41 ∉ bg10 ∧ 47 ∉ bg10 ∧ (k10.last 47).v = vI 42 ∧ (k10.last 46).v = vI 0) := id_last HE.out HFT.out HID.out H9.out.kinv HST.out (o9 again) g10.out.2.1
  have HH3 : Hid (hasB bg10 ⟨#[69, 56]⟩ = true) := by have h := has_yes HB10.out (c := 46) (by omega) HLA.out.1; rw [nm46] at h; exact h
  have HH4 : Hid (hasB bg10 ⟨#[70, 55]⟩ = false) := by have h := has_no HB10.out (c := 41) (by omega) HLA.out.2.1; rw [nm41] at h; exact h
  have HH5 : Hid (hasB bg10 ⟨#[70, 56]⟩ = false) := by have h := has_no HB10.out (c := 47) (by omega) HLA.out.2.2.1; rw [nm47] at h; exact h
  clear g10 H9 HB10
  go_wp2_with fail
  refine (is_s H10 (c := 47) (by unfold Hid; decide) 42).mono ?_
  rintro e w11 ⟨rfl, g11⟩
  rw [HLA.out.2.2.2.1, eqB_self]
  have H11 : Hid (ShS E w w11 x (updF fs 46 tE7) (updF fs 46 tE7) k10) := g11.out.1
  have HSN : Hid (Slc w11 9 1 v10 bg10.length (bg10.map nmV)) := HSM.out.bel g11.out.2
  clear g11 H10 HSM
  go_wp2_with fail
  refine (is_s H11 (c := 46) (by unfold Hid; decide) 0).mono ?_
  rintro e w12 ⟨rfl, g12⟩
  rw [HLA.out.2.2.2.2, eqB_self]
  have H12 : Hid (ShS E w w12 x (updF fs 46 tE7) (updF fs 46 tE7) k10) := g12.out.1
  have HSO : Hid (Slc w12 9 1 v10 bg10.length (bg10.map nmV)) := HSN.out.bel g12.out.2
  clear g12 H11 HSN
  go_wp2_with fail
  refine (has_w _ _ bg10 _ HSO).mono ?_
  rintro e w13 ⟨rfl, hw13⟩
  rw [hw13, HH3.out]
  clear hw13 w13
  go_wp2_with fail
  refine (has_w _ _ bg10 _ HSO).mono ?_
  rintro e w13 ⟨rfl, hw13⟩
  rw [hw13, HH4.out]
  clear hw13 w13
  go_wp2_with fail
  refine (has_w _ _ bg10 _ HSO).mono ?_
  rintro e w13 ⟨rfl, hw13⟩
  rw [hw13, HH5.out]
  clear hw13 w13
  go_wp2_with fail
  go_ret
  exact ⟨rfl, H12.out.bel⟩
end Go.Proofs.YtiocnfambeochaaGreatDoor

/- Slices that the caller hands in, opened. -/
set_option linter.unusedVariables false
set_option linter.unusedSimpArgs false
namespace Go.Proofs.YtiocnfambeochaaGreatDoor
open Go.ChangeShapes Go.WideShapes Go.ChangeAt Go.RowKit

theorem cells9o : Tryz.prog.cellsOf 9 = 1 := by kernel_rfl
theorem strs_weight {H : Type} {s : ByteArray} : ∀ {l : List ByteArray}, s ∈ l → s.data.toList.length ∈ DataW.weightsAll Tryz.prog 9 (strs (H := H) l)
  | a :: l, h => by
    show s.data.toList.length ∈ DataW.weights Tryz.prog 9 (.lit (.string a.data.toList)) ++ DataW.weightsAll Tryz.prog 9 (strs l)
    rcases List.mem_cons.1 h with rfl | h
    · exact List.mem_append_left _ (by simp [DataW.weights])
    · exact List.mem_append_right _ (strs_weight h)
theorem raw_open {H : Type} {enc : TypeId × Value → H} {W : World} {v : Value} {d : DataW H} {ps : List MemPlace} (hv : ∃ a len cap, v = .slice a len cap) (h : DataW.Trod enc Tryz.prog W 0 (fun _ => true) true 47 v d ps) (hsz : ∀ n ∈ d.weights Tryz.prog 47, n ≤ reachBytes) : ∃ l, RawS W v l := by
  obtain ⟨a0, len, cap, rfl⟩ := hv
  obtain ⟨fuel, hf⟩ := h
  rcases open_strings Tryz.underlying47 Tryz.underlying9 cells9o hf with ⟨hcs, hx⟩ | ⟨a, len', cap', ss, hcs, _, hl, hm, hz, hx, hcell, hws⟩
  · simp [Value.cells] at hcs
    obtain ⟨rfl, rfl, rfl⟩ := hcs
    exact ⟨[], .inl ⟨rfl, rfl⟩⟩
  · simp [Value.cells] at hcs
    obtain ⟨rfl, rfl, rfl⟩ := hcs
    simp only [Prod.mk.injEq] at hx
    obtain ⟨rfl, rfl⟩ := hx
    simp only [if_true] at hz
    have hlen : (ss.take len).length = len := by rw [List.length_take]; omega
    refine ⟨ss.take len, .inr ⟨a, cap, by rw [hlen], by rw [hlen]; exact hl, by rw [hlen]; omega, fun i s hi => ?_⟩⟩
    have hil : i < len := by have := (List.getElem?_eq_some_iff.1 hi).1; omega
    have hss : ss[i]? = some s := by rw [List.getElem?_take_of_lt hil] at hi; exact hi
    have hc := hcell i (by omega)
    rw [show ss.getD i ByteArray.empty = s by rw [List.getD_eq_getElem?_getD, hss]; rfl] at hc
    refine ⟨hc, ?_⟩
    have hw := hsz s.data.toList.length (by
      simp only [DataW.weights, Tryz.underlying47]
      exact List.mem_cons_of_mem _ (List.mem_append_left _ (strs_weight (List.mem_of_getElem? hi))))
    have h1 : s.data.toList.length = s.size := by rw [Array.length_toList]; rfl
    have h2 := reachBytes_lt
    omega
end Go.Proofs.YtiocnfambeochaaGreatDoor

/- The closed cells of the row of Idle, one by one. -/
namespace Go.Proofs.YtiocnfambeochaaGreatDoor
theorem cf1 : (Rows.idleRow.inPlace == Tryz.prog.inPlace 11) = true := by kernel_rfl
theorem cf2 : (Rows.idleRow.unfollowed == Tryz.prog.unfollowed 11) = true := by kernel_rfl
theorem cf3 : (Rows.idleRow.recurses == Tryz.prog.recurses 11) = true := by kernel_rfl
theorem cf4 : (Rows.idleRow.named == Tryz.prog.varsNamed 11) = true := by kernel_rfl
theorem cf5 : laidOutB Tryz.prog = true := by kernel_rfl
theorem cf6 : mapsRowed Tryz.prog = true := by kernel_rfl
theorem idle_closed : joinedFacts Tryz.prog 11 Tryz.f11 (OpenSpec.ofChange Rows.idleSpec).bare Rows.idleRow = true := by
  unfold joinedFacts
  rw [cf1, cf2, cf3, cf4, cf5, cf6]
  kernel_rfl
end Go.Proofs.YtiocnfambeochaaGreatDoor
