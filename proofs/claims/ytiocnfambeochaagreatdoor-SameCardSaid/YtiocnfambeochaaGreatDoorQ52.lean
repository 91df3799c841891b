/- Texts put together. -/
import Derived.Test.YtiocnfambeochaaGreatDoorQ51
import Derived.ProofKit
import Derived.SliceStrings
import Derived.ChangeSlices
import Derived.SizedLaws
import Derived.Carry
import Derived.Test.YtiocnfambeochaaGreatDoorCards
import Derived.Test.YtiocnfambeochaaGreatDoorTie
import Derived.OpenShut
import Derived.ShutString
import Derived.Deep.DeepHandedRow
import Derived.Lib.LaidTab
import Derived.Lay
/- The statement Same, walked. -/
set_option linter.unusedVariables false
set_option linter.unusedSimpArgs false
namespace Go.Proofs.YtiocnfambeochaaGreatDoor
open Go.RowKit

section
variable {E : Env} {w0 w w' : World} {x y : Nat} {fl fs flx fsx : Nat → ByteArray} {k k' kx : Kp}
theorem ShS.beside (hx : ShS E w0 w x flx fsx kx) (hy : ShS E w0 w y fl fs k) (ho : Only x w w') (hne : y ≠ x) : ShS E w0 w' y fl fs k := hy.other ho hx.xB hne hx.sr.notRead
theorem ed_empty {cl : ByteArray} {c : Nat} (hc : cellN cl.data.toList = some c) (fs : Nat → ByteArray) : edR bd0 0 [(cl, eB)] fs = ⟨0, 0, 0, updF fs c eB⟩ := by
  have hck : ckP bd0 cl eB = ⟨0, 0, c, eB⟩ := by
    unfold ckP
    rw [hc]
    simp only
    rw [if_pos trivial]
  unfold edR
  simp only [hck]
  rfl
theorem FsT.upd2 (h : FsT fs) {t : ByteArray} (ht : t = eB ∨ ∃ d, TxtOK t d) {c : Nat} (hc : c < 48) : FsT (updF fs c t) := by
  rcases ht with rfl | ⟨d, ht⟩
  · refine ⟨fun i hi => ?_, fun i hi => ?_⟩
    · unfold updF at hi ⊢
      by_cases e : i = c
      · rw [if_pos e] at hi; exact absurd rfl hi
      · rw [if_neg e] at hi ⊢; exact h.t i hi
    · unfold updF
      rw [if_neg (by omega)]; exact h.out i hi
  · exact h.upd ht hc
theorem set_s2 (hA : Hid (Amb w0)) (h : Hid (ShS E w0 w x fl fs k)) {t : ByteArray} (ht : Hid (t = eB ∨ ∃ d, TxtOK t d)) {cl : ByteArray} {c : Nat} (hc : Hid (cellN cl.data.toList = some c)) :
    Calls Tryz.prog 20 #[.pointer (some ⟨x, 0, none⟩), .string cl, .string t] w fun e w' => e = .returned (.bool true) ∧ Hid (ShS E w0 w' x fl (updF fs c t) k ∧ Only x w w') := by
  have hed : edR bd0 0 [(cl, t)] fs = ⟨0, 0, 0, updF fs c t⟩ := by
    rcases ht.out with rfl | ⟨d, ht⟩
    · exact ed_empty hc.out fs
    · exact ht.ed hc.out fs
  have hsz : t.size ≤ maxLen := by
    rcases ht.out with rfl | ⟨d, ht⟩
    · exact Nat.zero_le _
    · have := ht.small; unfold maxLen; omega
  refine (set_any (fs := fs) (bd := bd0) (k := k) w x cl t h.out.sr (hA.out.below h.out.bel) hsz).mono ?_
  rintro e w' ⟨rfl, h1⟩
  rw [hed] at h1 ⊢
  obtain ⟨g1, g2⟩ := h1.out.2 rfl
  exact ⟨rfl, ⟨h.out.bel' g1, h.out.xB, g2, h.out.kinv, h.out.ft.upd2 ht.out (cellN_lt hc.out)⟩, g1⟩
theorem fit_of (hE : EnvOK E) (h : FsT fs) : Fit E.D fs := fun c hc => ⟨_, (h.ok hE).1.fit c hc⟩
theorem ShS.vals (hE : EnvOK E) (h : ShS E w0 w x fs fs k) : ∀ c, c < 48 → I64 (k.last c).v.n ∧ (k.last c).v.s.size ≤ 1000 := fun c _ => by
  by_cases hc : (k.last c).v = cyc
  · rw [hc]; exact ⟨by unfold I64 cyc vE; simp, by show eB.size ≤ 1000; decide⟩
  · have := (h.kinv.v c).ok (fit_of hE h.ft) hc
    exact ⟨this.1, this.2.2.2⟩
theorem KInv.same (h : KInv E fs k) (h' : KInv E fs k') : (fun c => (k'.last c).v) = (fun c => (k.last c).v) := funext fun c => (h'.v c).same (h.v c)
end
def t67 : ByteArray := ⟨#[54, 32, 42, 32, 55]⟩
theorem txt_67 : TxtOK t67 (binA 7 (retA (vI 6)) (retA (vI 7))) := txt_of (l := [54, 32, 42, 32, 55]) (g := [tNum [54]] ++ tOp 2 :: [tNum [55]]) (by kernel_rfl) (by kernel_rfl) (by kernel_rfl) (by kernel_rfl) (by kernel_rfl) (cg_lift (by omega) (cg_lift (by omega) (cg_two (lv := 2) (o := tOp 2) (by omega) (by decide) (cg_n [54] 6 rfl (by omega)) (cg_n [55] 7 rfl (by omega)))))
theorem v_67 {E : Env} {fs : Nat → ByteArray} {val : Nat → V} (hE : EnvOK E) (h : fs 47 = t67) (hv : ∀ c, Val E.D fs c (val c)) : val 47 = vI 42 := by
  refine (val_of hv (c := 47) (by rw [h]; exact txt_67.ne) (rs := []) trivial (Hold.nil _) ?_).1
  rw [h, txt_67.D hE]; kernel_rfl
def cpF (fs : Nat → ByteArray) (i : Nat) : Nat → ByteArray := fun c => if c < i then fs c else eB
theorem cp_start (fs : Nat → ByteArray) : fs0 = cpF fs 0 := by
  funext c
  unfold cpF
  rw [if_neg (by omega)]; rfl
theorem cp_next (fs : Nat → ByteArray) (i : Nat) : updF (cpF fs i) i (fs i) = cpF fs (i + 1) := by
  funext c
  unfold updF cpF
  by_cases h : c = i
  · rw [if_pos h, if_pos (by omega), h]
  · rw [if_neg h]
    by_cases h2 : c < i
    · rw [if_pos h2, if_pos (by omega)]
    · rw [if_neg h2, if_neg (by omega)]
theorem cp_end {fs : Nat → ByteArray} (h : FsT fs) : cpF fs 48 = fs := by
  funext c
  unfold cpF
  by_cases h2 : c < 48
  · rw [if_pos h2]
  · rw [if_neg h2, h.out c (by omega)]
theorem FsT.at {fs : Nat → ByteArray} (h : FsT fs) (c : Nat) : fs c = eB ∨ ∃ d, TxtOK (fs c) d := by
  by_cases e : fs c = eB
  · exact .inl e
  · exact .inr (h.t c e)
theorem i64d {n : Int} (h : I64 n) : I64 (n.tdiv 9) := by
  unfold I64 at h ⊢
  rcases Int.le_total 0 n with h0 | h0
  · rw [Int.tdiv_eq_ediv_of_nonneg h0]; omega
  · have e : n.tdiv 9 = -((-n).tdiv 9) := by rw [Int.neg_tdiv, Int.neg_neg]
    rw [e, Int.tdiv_eq_ediv_of_nonneg (by omega)]; omega
theorem div9 {n : Int} (h : I64 n) : ∃ q, IntKind.i64.wrap (n.tdiv 9) = q ∧ wrap64 (n.tdiv 9) = q ∧ I64 q := by
  have := i64d h
  refine ⟨n.tdiv 9, ?_, ?_, this⟩
  · unfold I64 at this
    generalize n.tdiv 9 = q at *
    rw [IntKind.wrap_i64]; omega
  · unfold I64 at this
    generalize n.tdiv 9 = q at *
    unfold wrap64; omega
theorem ne_new {W : World} {x y : Nat} (h : x < W.heap.size) (hy : W.heap.size ≤ y) : x ≠ y := by omega
structure Sh3 (E : Env) (w0 w : World) (x y z : Nat) (fs : Nat → ByteArray) (kx ky kz : Kp) (i : Nat) : Prop where
  hx : ShS E w0 w x fs fs kx
  hy : ShS E w0 w y fs fs ky
  hz : ShS E w0 w z fs0 (cpF fs i) kz
set_option maxRecDepth 100000 in
set_option maxHeartbeats 16000000 in
theorem same_w (vr : Value) (l : List ByteArray) (a : Int) (vh : Value) (hs : List Int) (b : Int) (vo : Value) (os : List Int) (last : Int) (ha : Hid (I64 a)) (hb : Hid (I64 b)) (hl : Hid (I64 last)) (w : World) (hr : Hid (RawS w vr l)) (hh : Hid (HowS w vh hs)) (ho : Hid (HowS w vo os)) (hA : Hid (Amb w)) :
    Calls Tryz.prog 8 #[vr, .int .i64 a, vh, .int .i64 b, vo, .int .i64 last] w fun e w' => e = .returned (.bool true) ∧ Below w.heap.size w w' := by
  obtain ⟨E, hE⟩ := env_ex
  have HE : Hid (EnvOK E) := hE
  obtain ⟨q, d1, d2, d3⟩ := div9 hl.out
  have HQ9 : Hid (I64 q) := d3
  clear hE d3
  go_enter Tryz.func8, Tryz.ntmps8
  go_wp2_with fail
  refine (begin_s E a ha.out w w (Below.refl _ _)).mono ?_
  rintro e w1 ⟨x, rfl, g1⟩
  have X1 : Hid (ShS E w w1 x fs0 fs0 (k0 (pk a 65))) := g1.out.1
  clear g1
  go_wp2_with fail
  refine (begin_s E b hb.out w w1 X1.out.bel).mono ?_
  rintro e w2 ⟨y, rfl, g2⟩
  have Y2 : Hid (ShS E w w2 y fs0 fs0 (k0 (pk b 65))) := g2.out.1
  have X2 : Hid (ShS E w w2 x fs0 fs0 (k0 (pk a 65))) := X1.out.below g2.out.2.1
  have HXY : Hid (x ≠ y) := ne_new X1.out.sr.lt g2.out.2.2
  clear g2 X1
  go_wp2_with fail
  refine (begin_s E 0 (by unfold I64; decide) w w2 X2.out.bel).mono ?_
  rintro e w3 ⟨z, rfl, g3⟩
  have Z3 : Hid (ShS E w w3 z fs0 fs0 (k0 (pk 0 65))) := g3.out.1
  have X3 : Hid (ShS E w w3 x fs0 fs0 (k0 (pk a 65))) := X2.out.below g3.out.2.1
  have Y3 : Hid (ShS E w w3 y fs0 fs0 (k0 (pk b 65))) := Y2.out.below g3.out.2.1
  have HXZ : Hid (x ≠ z) := ne_new X2.out.sr.lt g3.out.2.2
  have HYZ : Hid (y ≠ z) := ne_new Y2.out.sr.lt g3.out.2.2
  clear g3 X2 Y2
  generalize k0 (pk a 65) = ka at *
  generalize k0 (pk b 65) = kb at *
  generalize k0 (pk 0 65) = kz at *
  go_wp2_with fail
  refine (set_s hA X3 (t := t67) txt_67 (c := 47) (by unfold Hid; decide)).mono ?_
  rintro e w4 ⟨rfl, g4⟩
  have X4 : Hid (ShS E w w4 x fs0 (updF fs0 47 t67) ka) := g4.out.1
  have Y4 : Hid (ShS E w w4 y fs0 fs0 kb) := X3.out.beside Y3.out g4.out.2 HXY.out.symm
  have Z4 : Hid (ShS E w w4 z fs0 fs0 kz) := X3.out.beside Z3.out g4.out.2 HXZ.out.symm
  clear g4 X3 Y3 Z3
  go_wp2_with fail
  refine (set_s hA Y4 (t := t67) txt_67 (c := 47) (by unfold Hid; decide)).mono ?_
  rintro e w5 ⟨rfl, g5⟩
  have Y5 : Hid (ShS E w w5 y fs0 (updF fs0 47 t67) kb) := g5.out.1
  have X5 : Hid (ShS E w w5 x fs0 (updF fs0 47 t67) ka) := Y4.out.beside X4.out g5.out.2 HXY.out
  have Z5 : Hid (ShS E w w5 z fs0 fs0 kz) := Y4.out.beside Z4.out g5.out.2 HYZ.out.symm
  clear g5 X4 Y4 Z4
  go_wp2_with fail
  refine (play_w HE hA X5 hr hh).mono ?_
  rintro e w6 ⟨rfl, g6⟩
  obtain ⟨fx, k6, g61, g62, g63⟩ := g6.out
  have X6 : Hid (ShS E w w6 x fx (plF (l.take 20) (updF fs0 47 t67)) k6) := g61
  have Y6 : Hid (ShS E w w6 y fs0 (updF fs0 47 t67) kb) := X5.out.beside Y5.out g63 HXY.out.symm
  have Z6 : Hid (ShS E w w6 z fs0 fs0 kz) := X5.out.beside Z5.out g63 HXZ.out.symm
  clear g6 g61 g62 g63 X5 Y5 Z5
  go_wp2_with fail
  refine (play_w HE hA Y6 hr ho).mono ?_
  rintro e w7 ⟨rfl, g7⟩
  obtain ⟨fy, k7, g71, g72, g73⟩ := g7.out
  have Y7 : Hid (ShS E w w7 y fy (plF (l.take 20) (updF fs0 47 t67)) k7) := g71
  have X7 : Hid (ShS E w w7 x fx (plF (l.take 20) (updF fs0 47 t67)) k6) := Y6.out.beside X6.out g73 HXY.out
  have Z7 : Hid (ShS E w w7 z fs0 fs0 kz) := Y6.out.beside Z6.out g73 HYZ.out.symm
  have HF47 : Hid (plF (l.take 20) (updF fs0 47 t67) 47 = t67) := by unfold Hid; rw [(pl_r _ _).far 47 (by omega)]; rfl
  clear g7 g71 g72 g73 X6 Y6 Z6
  generalize plF (l.take 20) (updF fs0 47 t67) = fs at *
  go_wp2_with fail
  refine (worked_s HE hA X7 last hl).mono ?_
  rintro e w8 ⟨v8, k8, bg8, rfl, g8⟩
  have X8 : Hid (ShS E w w8 x fs fs k8) := g8.out.1
  have Y8 : Hid (ShS E w w8 y fy fs k7) := X7.out.beside Y7.out g8.out.2.2.1 HXY.out.symm
  have Z8 : Hid (ShS E w w8 z fs0 fs0 kz) := X7.out.beside Z7.out g8.out.2.2.1 HXZ.out.symm
  clear g8 X7 Y7 Z7
  go_wp2_with fail
  refine (worked_s HE hA Y8 q HQ9).mono ?_
  rintro e w9 ⟨v9, k9, bg9, rfl, g9⟩
  have Y9 : Hid (ShS E w w9 y fs fs k9) := g9.out.1
  have X9 : Hid (ShS E w w9 x fs fs k8) := Y8.out.beside X8.out g9.out.2.2.1 HXY.out
  have Z9 : Hid (ShS E w w9 z fs0 (cpF fs 0) kz) := by rw [← cp_start]; exact Y8.out.beside Z8.out g9.out.2.2.1 HYZ.out.symm
  clear g9 X8 Y8 Z8 d1 d2
  go_wp2_with fail
  go_loopw [26] (fun s wr => ∃ i : Nat, s = .int .i64 i ∧ Hid (i ≤ 48) ∧ Hid (Sh3 E w wr x y z fs k8 k9 kz i)) (fun s _ => (100 - intOf s).toNat)
  case atStart => exact ⟨0, rfl, Nat.zero_le _, X9.out, Y9.out, Z9.out⟩
  case round =>
    obtain ⟨i, rfl, HI, H3⟩ := hrel
    clear X9 Y9 Z9
    by_cases hi : i < 48
    · obtain ⟨n1, n2, n3⟩ := alNums hi
      have HII : Hid (i < 48) := hi
      clear hi HI
      go_wp2_with fail
      refine (name_any i HII.out _).mono ?_
      rintro e u1 ⟨rfl, b1⟩
      have H31 : Hid (Sh3 E w u1 x y z fs k8 k9 kz i) := ⟨H3.out.hx.below b1, H3.out.hy.below b1, H3.out.hz.below b1⟩
      clear b1 H3
      go_wp2_with fail
      refine (formula_some u1 x H31.out.hx.sr _ i (cell_nm HII.out)).mono ?_
      rintro e u2 ⟨rfl, b2⟩
      have H32 : Hid (Sh3 E w u2 x y z fs k8 k9 kz i) := ⟨H31.out.hx.below b2, H31.out.hy.below b2, H31.out.hz.below b2⟩
      clear b2 H31
      go_wp2_with fail
      refine (name_any i HII.out _).mono ?_
      rintro e u3 ⟨rfl, b3⟩
      have H33 : Hid (Sh3 E w u3 x y z fs k8 k9 kz i) := ⟨H32.out.hx.below b3, H32.out.hy.below b3, H32.out.hz.below b3⟩
      clear b3 H32
      go_wp2_with fail
      refine (set_s2 hA (x := z) (fl := fs0) (fs := cpF fs i) (k := kz) H33.out.hz (t := fs i) (H33.out.hx.ft.at i) (c := i) (cell_nm HII.out)).mono ?_
      rintro e u4 ⟨rfl, g4⟩
      have H34 : Hid (Sh3 E w u4 x y z fs k8 k9 kz (i + 1)) := ⟨H33.out.hz.beside H33.out.hx g4.out.2 HXZ.out, H33.out.hz.beside H33.out.hy g4.out.2 HYZ.out, by have h := g4.out.1; rw [cp_next] at h; exact h⟩
      clear g4 H33
      go_wp2_with fail
      exact ⟨⟨i + 1, rfl, HII.out, H34⟩, al_meas HII.out⟩
    · have hge : ¬ (i : Int) < 48 := ge_c (n := 48) hi
      have X10 : Hid (ShS E w wr x fs fs k8) := H3.out.hx
      have Y10 : Hid (ShS E w wr y fs fs k9) := H3.out.hy
      have Z10 : Hid (ShS E w wr z fs0 fs kz) := by
        have h := H3.out.hz
        rw [Nat.le_antisymm HI.out (Nat.le_of_not_lt hi), cp_end H3.out.hx.ft] at h
        exact h
      clear hi HI H3
      go_wp2_with fail
      refine (worked_s HE hA Z10 0 (by unfold Hid I64; decide)).mono ?_
      rintro e u5 ⟨v5, k5, bg5, rfl, g5⟩
      have Z11 : Hid (ShS E w u5 z fs fs k5) := g5.out.1
      have X11 : Hid (ShS E w u5 x fs fs k8) := Z10.out.beside X10.out g5.out.2.2.1 HXZ.out
      have Y11 : Hid (ShS E w u5 y fs fs k9) := Z10.out.beside Y10.out g5.out.2.2.1 HYZ.out
      clear g5 X10 Y10 Z10
      go_wp2_with fail
      refine (alike_w X11.out.sr Y11.out.sr (fun c _ => congrFun (X11.out.kinv.same Y11.out.kinv) c)).mono ?_
      rintro e u6 ⟨rfl, b6⟩
      have X12 : Hid (ShS E w u6 x fs fs k8) := X11.out.below b6
      have Y12 : Hid (ShS E w u6 y fs fs k9) := Y11.out.below b6
      have Z12 : Hid (ShS E w u6 z fs fs k5) := Z11.out.below b6
      clear b6 X11 Y11 Z11
      go_wp2_with fail
      refine (alike_w X12.out.sr Z12.out.sr (fun c _ => congrFun (X12.out.kinv.same Z12.out.kinv) c)).mono ?_
      rintro e u7 ⟨rfl, b7⟩
      have X13 : Hid (ShS E w u7 x fs fs k8) := X12.out.below b7
      have Y13 : Hid (ShS E w u7 y fs fs k9) := Y12.out.below b7
      clear b7 X12 Y12 Z12
      go_wp2_with fail
      refine (is_s X13 (c := 47) (by unfold Hid; decide) 42).mono ?_
      rintro e u8 ⟨rfl, g8⟩
      rw [show (k8.last 47).v = vI 42 from v_67 HE.out HF47.out X13.out.kinv.v, eqB_self]
      have X14 : Hid (ShS E w u8 x fs fs k8) := g8.out.1
      have Y14 : Hid (ShS E w u8 y fs fs k9) := Y13.out.below g8.out.2
      clear g8 X13 Y13
      go_wp2_with fail
      refine (show_w X14.out.sr (hA.out.below X14.out.bel) (X14.out.vals HE.out)).mono ?_
      rintro e u9 ⟨rfl, b9⟩
      have X15 : Hid (ShS E w u9 x fs fs k8) := X14.out.below b9
      have Y15 : Hid (ShS E w u9 y fs fs k9) := Y14.out.below b9
      clear b9 X14 Y14
      go_wp2_with fail
      refine (show_w Y15.out.sr (hA.out.below Y15.out.bel) (Y15.out.vals HE.out)).mono ?_
      rintro e u10 ⟨rfl, b10⟩
      rw [X15.out.kinv.same Y15.out.kinv]
      have Y16 : Hid (ShS E w u10 y fs fs k9) := Y15.out.below b10
      clear b10 X15 Y15
      generalize shT (fun c => (k8.last c).v) 48 = T at *
      go_wp2_with fail
      go_ret
      exact ⟨rfl, Y16.out.bel⟩
end Go.Proofs.YtiocnfambeochaaGreatDoor

/- Slices that the caller hands in, opened. -/
set_option linter.unusedVariables false
set_option linter.unusedSimpArgs false
namespace Go.Proofs.YtiocnfambeochaaGreatDoor
open Go.ChangeShapes Go.WideShapes Go.ChangeAt Go.RowKit

theorem cells9o : Tryz.prog.cellsOf 9 = 1 := by kernel_rfl
theorem cells3o : Tryz.prog.cellsOf 3 = 1 := by kernel_rfl
theorem strs_weight {H : Type} {s : ByteArray} : ∀ {l : List ByteArray}, s ∈ l → s.data.toList.length ∈ DataW.weightsAll Tryz.prog 9 (strs (H := H) l)
  | a :: l, h => by
    show s.data.toList.length ∈ DataW.weights Tryz.prog 9 (.lit (.string a.data.toList)) ++ DataW.weightsAll Tryz.prog 9 (strs l)
    rcases List.mem_cons.1 h with rfl | h
    · exact List.mem_append_left _ (by simp [DataW.weights])
    · exact List.mem_append_right _ (strs_weight h)
theorem raw_open {H : Type} {enc : TypeId × Value → H} {W : World} {v : Value} {d : DataW H} {ps : List MemPlace} (hv : ∃ a len cap, v = .slice a len cap) (h : DataW.Trod enc Tryz.prog W 0 (fun _ => true) true 47 v d ps) (hsz : ∀ n ∈ d.weights Tryz.prog 47, n ≤ reachBytes) : ∃ l, RawS W v l := by
  obtain ⟨a0, len, cap, rfl⟩ := hv
  obtain ⟨fuel, hf⟩ := h
  rcases open_strings Tryz.underlying47 Tryz.underlying9 cells9o hf with ⟨hcs, hx⟩ | ⟨a, len', cap', ss, hcs, _, hl, hm, hz, hx, hcell, hws⟩
  · simp [Value.cells] at hcs
    obtain ⟨rfl, rfl, rfl⟩ := hcs
    exact ⟨[], .inl ⟨rfl, rfl⟩⟩
  · simp [Value.cells] at hcs
    obtain ⟨rfl, rfl, rfl⟩ := hcs
    simp only [Prod.mk.injEq] at hx
    obtain ⟨rfl, rfl⟩ := hx
    simp only [if_true] at hz
    have hlen : (ss.take len).length = len := by rw [List.length_take]; omega
    refine ⟨ss.take len, .inr ⟨a, cap, by rw [hlen], by rw [hlen]; exact hl, by rw [hlen]; omega, fun i s hi => ?_⟩⟩
    have hil : i < len := by have := (List.getElem?_eq_some_iff.1 hi).1; omega
    have hss : ss[i]? = some s := by rw [List.getElem?_take_of_lt hil] at hi; exact hi
    have hc := hcell i (by omega)
    rw [show ss.getD i ByteArray.empty = s by rw [List.getD_eq_getElem?_getD, hss]; rfl] at hc
    refine ⟨hc, ?_⟩
    have hw := hsz s.data.toList.length (by
      simp only [DataW.weights, Tryz.underlying47]
      exact List.mem_cons_of_mem _ (List.mem_append_left _ (strs_weight (List.mem_of_getElem? hi))))
    have h1 : s.data.toList.length = s.size := by rw [Array.length_toList]; rfl
    have h2 := reachBytes_lt
    omega
theorem int_i64 {n : Int} (h : (Lit.int .i64 n).wf = true) : I64 n := by
  simp [Lit.wf] at h
  have e : IntKind.i64.min = -9223372036854775808 := by decide
  rw [e] at h
  exact h
theorem how_open {H : Type} {enc : TypeId × Value → H} {W : World} {v : Value} {d : DataW H} {ps : List MemPlace} (hv : ∃ a len cap, v = .slice a len cap) (h : DataW.Trod enc Tryz.prog W 0 (fun _ => true) true 56 v d ps) : ∃ l, HowS W v l := by
  obtain ⟨a0, len, cap, rfl⟩ := hv
  obtain ⟨fuel, hf⟩ := h
  rcases open_ints Tryz.underlying56 Tryz.underlying3 cells3o hf with ⟨hcs, hx⟩ | ⟨a, len', cap', zs, hcs, _, hl, hm, hz, hx, hcell, hwz⟩
  · simp [Value.cells] at hcs
    obtain ⟨rfl, rfl, rfl⟩ := hcs
    exact ⟨[], .inl ⟨rfl, rfl⟩⟩
  · simp [Value.cells] at hcs
    obtain ⟨rfl, rfl, rfl⟩ := hcs
    simp only [if_true] at hz
    have hlen : (zs.take len).length = len := by rw [List.length_take]; omega
    refine ⟨zs.take len, .inr ⟨a, cap, by rw [hlen], by rw [hlen]; exact hl, by rw [hlen]; omega, fun i s hi => ?_⟩⟩
    have hil : i < len := by have := (List.getElem?_eq_some_iff.1 hi).1; omega
    have hss : zs[i]? = some s := by rw [List.getElem?_take_of_lt hil] at hi; exact hi
    have hc := hcell i (by omega)
    rw [show zs.getD i 0 = s by rw [List.getD_eq_getElem?_getD, hss]; rfl] at hc
    exact ⟨hc, int_i64 (hwz s (List.mem_of_getElem? hss))⟩
end Go.Proofs.YtiocnfambeochaaGreatDoor

/- The closed cells of the row of Same, one by one. -/
namespace Go.Proofs.YtiocnfambeochaaGreatDoor
theorem cf1 : (Rows.sameRow.inPlace == Tryz.prog.inPlace 8) = true := by kernel_rfl
theorem cf2 : (Rows.sameRow.unfollowed == Tryz.prog.unfollowed 8) = true := by kernel_rfl
theorem cf3 : (Rows.sameRow.recurses == Tryz.prog.recurses 8) = true := by kernel_rfl
theorem cf4 : (Rows.sameRow.named == Tryz.prog.varsNamed 8) = true := by kernel_rfl
theorem cf5 : laidOutB Tryz.prog = true := by kernel_rfl
theorem cf6 : mapsRowed Tryz.prog = true := by kernel_rfl
theorem same_closed : joinedFacts Tryz.prog 8 Tryz.f8 (OpenSpec.ofChange Rows.sameSpec).bare Rows.sameRow = true := by
  unfold joinedFacts
  rw [cf1, cf2, cf3, cf4, cf5, cf6]
  kernel_rfl
end Go.Proofs.YtiocnfambeochaaGreatDoor
