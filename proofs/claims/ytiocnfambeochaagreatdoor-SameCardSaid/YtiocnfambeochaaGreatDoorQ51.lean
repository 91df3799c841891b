/- Texts put together. -/
import Derived.Test.YtiocnfambeochaaGreatDoorQ50
import Derived.Test.YtiocnfambeochaaGreatDoorQ13
import Derived.Test.YtiocnfambeochaaGreatDoorQ33
/- The statement's own 'play', walked. -/
set_option linter.unusedVariables false
set_option linter.unusedSimpArgs false
namespace Go.Proofs.YtiocnfambeochaaGreatDoor
open Go.RowKit

def RawS (w : World) (v : Value) (l : List ByteArray) : Prop :=
  (v = .slice none 0 0 ∧ l = []) ∨ ∃ a cap, v = .slice (some a) l.length cap ∧ l.length ≤ cap ∧ l.length ≤ maxLen ∧ ∀ i s, l[i]? = some s → w.cell? (a.add i) = some (.string s) ∧ s.size ≤ 9223372036854775806
def HowS (w : World) (v : Value) (l : List Int) : Prop :=
  (v = .slice none 0 0 ∧ l = []) ∨ ∃ a cap, v = .slice (some a) l.length cap ∧ l.length ≤ cap ∧ l.length ≤ maxLen ∧ ∀ i s, l[i]? = some s → w.cell? (a.add i) = some (.int .i64 s) ∧ I64 s
def plF : List ByteArray → (Nat → ByteArray) → Nat → ByteArray
  | [], fs => fs
  | s :: l, fs => plF l (if (edR bd0 0 (bB s.data.toList) fs).e = 0 then (edR bd0 0 (bB s.data.toList) fs).fs else fs)
theorem pl_one (s : ByteArray) (fs : Nat → ByteArray) : PlayR fs (if (edR bd0 0 (bB s.data.toList) fs).e = 0 then (edR bd0 0 (bB s.data.toList) fs).fs else fs) := by
  rcases ed_batch (bB s.data.toList) 0 fs (bL_ok _ _) with ⟨g1, g2⟩ | g
  · rw [if_pos g1]; exact g2
  · rw [if_neg (by rw [g]; decide)]; exact PlayR.refl fs
theorem pl_r : ∀ (l : List ByteArray) (fs : Nat → ByteArray), PlayR fs (plF l fs)
  | [], fs => PlayR.refl fs
  | s :: l, fs => (pl_one s fs).trans (pl_r l _)
theorem pl_app : ∀ (l : List ByteArray) (s : ByteArray) (fs : Nat → ByteArray), plF (l ++ [s]) fs = (if (edR bd0 0 (bB s.data.toList) (plF l fs)).e = 0 then (edR bd0 0 (bB s.data.toList) (plF l fs)).fs else plF l fs)
  | [], s, fs => rfl
  | a :: l, s, fs => pl_app l s _
theorem bB_sizes (fd : List UInt8) : ∀ e ∈ bB fd, e.2.size ≤ maxLen := fun e he => by
  obtain ⟨c, _, _, h⟩ := bL_ok _ _ e he
  rcases h with h | ⟨d, f, hd, h⟩
  · rw [h]; exact Nat.zero_le _
  · rw [h]; have := gT_size d f hd; unfold maxLen; omega
theorem plNums {i : Nat} (h : i < 20) : IntKind.i64.wrap ((i : Int) + 1) = (i : Int) + 1 ∧ wrap64 ((i : Int) + 1) = (i : Int) + 1 ∧ (i : Int) < 20 ∧ 0 ≤ (i : Int) := ⟨by rw [IntKind.wrap_i64]; omega, by unfold wrap64; omega, by omega, by omega⟩
theorem pl_meas {i : Nat} (h : i < 20) : (100 - ((i + 1 : Nat) : Int)).toNat < (100 - (i : Int)).toNat := by omega
theorem fd_new {w0 w : World} (hb : Below w0.heap.size w0 w) {s : ByteArray} (hs : s.size ≤ 9223372036854775806) : FD (w.alloc (.cells #[.string s, .int .i64 0] 30)) w0.heap.size w.heap.size s.data.toList :=
  ⟨⟨s, 0, rnew _ _ _, Nat.zero_le _, hs, by rw [List.drop_zero]⟩, hb.size⟩
section
variable {E : Env} {w0 w w' : World} {x : Nat} {fl fs : Nat → ByteArray} {k k' : Kp}
theorem ShS.batch (h : ShS E w0 w x fl fs k) {s : ByteArray} (h1 : (edR bd0 0 (bB s.data.toList) fs).e ≠ 0 → Below w.heap.size w w') (h2 : (edR bd0 0 (bB s.data.toList) fs).e = 0 → Only x w w' ∧ SR w' x (edR bd0 0 (bB s.data.toList) fs).fs bd0 k) :
    ShS E w0 w' x fl (if (edR bd0 0 (bB s.data.toList) fs).e = 0 then (edR bd0 0 (bB s.data.toList) fs).fs else fs) k := by
  have hp := pl_one s fs
  by_cases he : (edR bd0 0 (bB s.data.toList) fs).e = 0
  · rw [if_pos he] at hp ⊢
    obtain ⟨g1, g2⟩ := h2 he
    exact ⟨h.bel' g1, h.xB, g2, h.kinv, hp.ft h.ft⟩
  · rw [if_neg he]
    exact h.below (h1 he)
end
theorem takes_next {l : List ByteArray} {i : Nat} {s : ByteArray} (h : l[i]? = some s) : l.take (i + 1) = l.take i ++ [s] := by rw [List.take_add_one, h]; rfl
structure PlS (E : Env) (w0 wa w : World) (x : Nat) (l : List ByteArray) (hs : List Int) (fl0 fs0 : Nat → ByteArray) (k0 : Kp) (i : Nat) : Prop where
  ex : ∃ fl k, ShS E w0 w x fl (plF (l.take i) fs0) k ∧ (hs = [] → fl = fl0 ∧ k = k0) ∧ Only x wa w
theorem ed_only {x : Nat} {w w' : World} {R : Er} {P : Prop} (h1 : R.e ≠ 0 → Below w.heap.size w w') (h2 : R.e = 0 → Only x w w' ∧ P) : Only x w w' := by
  by_cases he : R.e = 0
  · exact (h2 he).1
  · exact Below.only (h1 he) x
set_option maxRecDepth 100000 in
set_option maxHeartbeats 4000000 in
theorem play_w {E : Env} (HE : Hid (EnvOK E)) {w0 w : World} (hA : Hid (Amb w0)) {x : Nat} {fl fs : Nat → ByteArray} {k : Kp} (h : Hid (ShS E w0 w x fl fs k)) {vr vh : Value} {l : List ByteArray} {hs : List Int} (hr : Hid (RawS w0 vr l)) (hh : Hid (HowS w0 vh hs)) :
    Calls Tryz.prog 30 #[.pointer (some ⟨x, 0, none⟩), vr, vh] w fun e w' => e = .returned (.bool true) ∧ Hid (∃ fl' k', ShS E w0 w' x fl' (plF (l.take 20) fs) k' ∧ (hs = [] → fl' = fl ∧ k' = k) ∧ Only x w w') := by
  obtain ⟨ar, cr, hvr⟩ : ∃ a c, vr = .slice a l.length c := by
    rcases hr.out with ⟨rfl, rfl⟩ | ⟨a, c, rfl, _⟩
    · exact ⟨none, 0, rfl⟩
    · exact ⟨some a, c, rfl⟩
  obtain ⟨ah, ch, hvh⟩ : ∃ a c, vh = .slice a hs.length c := by
    rcases hh.out with ⟨rfl, rfl⟩ | ⟨a, c, rfl, _⟩
    · exact ⟨none, 0, rfl⟩
    · exact ⟨some a, c, rfl⟩
  subst hvr
  subst hvh
  have H0 : Hid (PlS E w0 w w x l hs fl fs k 0) := ⟨fl, k, h.out, fun _ => ⟨rfl, rfl⟩, Only.refl _ _⟩
  go_enter Tryz.func30, Tryz.ntmps30
  go_wp2_with fail
  go_loopw [7] (fun s wr => ∃ i : Nat, s = .int .i64 i ∧ Hid (i ≤ 20 ∧ i ≤ l.length) ∧ Hid (PlS E w0 w wr x l hs fl fs k i)) (fun s _ => (100 - intOf s).toNat)
  case atStart => exact ⟨0, rfl, ⟨Nat.zero_le _, Nat.zero_le _⟩, H0⟩
  case round =>
    obtain ⟨i, rfl, HI, HP⟩ := hrel
    clear H0 h
    by_cases hi : i < l.length
    · by_cases hi2 : i < 20
      · obtain ⟨n1, n2, n3, n4⟩ := plNums hi2
        have hii := lt_c hi
        obtain ⟨s, hsg⟩ : ∃ s, l[i]? = some s := ⟨_, List.getElem?_eq_getElem hi⟩
        obtain ⟨a, hra, hcap, hlm, hcl⟩ : ∃ a, ar = some a ∧ l.length ≤ cr ∧ l.length ≤ maxLen ∧ ∀ i s, l[i]? = some s → w0.cell? (a.add i) = some (.string s) ∧ s.size ≤ 9223372036854775806 := by
          rcases hr.out with ⟨_, e⟩ | ⟨a, c, e, h1, h2, h4⟩
          · rw [e] at hi; exact absurd hi (Nat.not_lt_zero _)
          · cases e; exact ⟨a, rfl, h1, h2, h4⟩
        subst hra
        obtain ⟨fl1, k1, hsh, hnil, honl⟩ := HP.out.ex
        have HON : Hid (Only x w wr) := honl
        have HSH : Hid (ShS E w0 wr x fl1 (plF (l.take i) fs) k1) := hsh
        have HNL : Hid (hs = [] → fl1 = fl ∧ k1 = k) := hnil
        have HSS : Hid (s.size ≤ 9223372036854775806) := (hcl i s hsg).2
        have hcell : wr.cell? (a.add i) = some (.string s) := by rw [hsh.bel.cell (p := a.add i) (World.block_lt_of_cell? _ _ (hcl i s hsg).1)]; exact (hcl i s hsg).1
        have HTK : Hid (l.take (i + 1) = l.take i ++ [s]) := takes_next hsg
        have HI2 : Hid (i < 20 ∧ i < l.length) := ⟨hi2, hi⟩
        clear hi hi2 HI hsg hsh hnil hcl HP honl
        go_wp2_with fail
        have HFD : Hid (FD (wr.alloc (.cells #[.string s, .int .i64 0] 30)) w0.heap.size wr.heap.size s.data.toList) := fd_new HSH.out.bel HSS.out
        have HB1 : Hid (Below wr.heap.size wr (wr.alloc (.cells #[.string s, .int .i64 0] 30))) := bl1 _ _
        generalize wr.alloc (.cells #[.string s, .int .i64 0] 30) = w1 at *
        refine (batch_w w0 w1 wr.heap.size s.data.toList hA (HSH.out.bel.trans (HB1.out.mono HSH.out.bel.size)) HFD).mono ?_
        rintro e w2 ⟨v, rfl, g2⟩
        have HB2 : Hid (Below wr.heap.size wr w2) := below_gb HB1.out g2.out.2.2 HB1.out.size (Nat.le_refl _)
        have HS2 : Hid (ShS E w0 w2 x fl1 (plF (l.take i) fs) k1) := HSH.out.below HB2.out
        have HO2 : Hid (Only x w w2) := HON.out.trans (Below.only HB2.out x)
        have HSL : Hid (Slc w2 68 2 v (bB s.data.toList).length ((bB s.data.toList).flatMap edC)) := g2.out.1
        clear g2 HFD HB1 HB2 HSH hcell
        go_wp2_with fail
        refine (edit_any w2 x v (bB s.data.toList) HS2.out.sr (hA.out.below HS2.out.bel) HSL (Nat.le_trans (bB_len _) (by decide)) (bB_sizes _)).mono ?_
        rintro e w3 ⟨rfl, g3⟩
        have HS3 : Hid (ShS E w0 w3 x fl1 (plF (l.take (i + 1)) fs) k1) := by
          have h := HS2.out.batch (w' := w3) (s := s) g3.out.1 g3.out.2
          unfold Hid
          rw [HTK.out, pl_app]; exact h
        have hec : (edR bd0 0 (bB s.data.toList) (plF (l.take i) fs)).e = 0 ∨ (edR bd0 0 (bB s.data.toList) (plF (l.take i) fs)).e = 1 := by
          rcases ed_batch (bB s.data.toList) 0 (plF (l.take i) fs) (bL_ok _ _) with ⟨g, _⟩ | g
          · exact .inl g
          · exact .inr g
        have HO3 : Hid (Only x w w3) := HO2.out.trans (ed_only g3.out.1 g3.out.2)
        clear g3 HS2 HSL HO2 HON
        generalize edR bd0 0 (bB s.data.toList) (plF (l.take i) fs) = R at *
        obtain ⟨e, ei, ep, efs⟩ := R
        dsimp only at hec
        by_cases hih : i < hs.length
        · have hihi := lt_c hih
          obtain ⟨ih, hig⟩ : ∃ z, hs[i]? = some z := ⟨_, List.getElem?_eq_getElem hih⟩
          obtain ⟨b, hrb, hcap2, hlm2, hcl2⟩ : ∃ a, ah = some a ∧ hs.length ≤ ch ∧ hs.length ≤ maxLen ∧ ∀ i s, hs[i]? = some s → w0.cell? (a.add i) = some (.int .i64 s) ∧ I64 s := by
            rcases hh.out with ⟨_, e⟩ | ⟨a, c, e, h1, h2, h4⟩
            · rw [e] at hih; exact absurd hih (Nat.not_lt_zero _)
            · cases e; exact ⟨a, rfl, h1, h2, h4⟩
          subst hrb
          have hcell2 : w3.cell? (b.add i) = some (.int .i64 ih) := by rw [HS3.out.bel.cell (p := b.add i) (World.block_lt_of_cell? _ _ (hcl2 i ih hig).1)]; exact (hcl2 i ih hig).1
          have HI64 : Hid (I64 ih) := (hcl2 i ih hig).2
          have HNE : Hid (hs ≠ []) := fun e => by rw [e] at hih; exact absurd hih (Nat.not_lt_zero _)
          clear hih hig hcl2
          by_cases hz : ih = 0
          · subst hz
            rcases hec with rfl | rfl
            all_goals
              go_wp2_with fail
              exact ⟨⟨i + 1, rfl, ⟨HI2.out.1, HI2.out.2⟩, fl1, k1, HS3.out, (fun e => absurd e HNE.out), HO3.out⟩, pl_meas HI2.out.1⟩
          · have hz2 : (ih == 0) = false := by simpa using hz
            rcases hec with rfl | rfl
            all_goals
              go_wp2_with fail
              refine (worked_s HE hA HS3 ih HI64).mono ?_
              rintro e w4 ⟨v4, k4, bg4, rfl, g4⟩
              have HS4 : Hid (ShS E w0 w4 x (plF (l.take (i + 1)) fs) (plF (l.take (i + 1)) fs) k4) := g4.out.1
              have HO4 : Hid (Only x w w4) := HO3.out.trans g4.out.2.2.1
              clear g4
              go_wp2_with fail
              exact ⟨⟨i + 1, rfl, ⟨HI2.out.1, HI2.out.2⟩, _, k4, HS4.out, (fun e => absurd e HNE.out), HO4.out⟩, pl_meas HI2.out.1⟩
        · have hihi := ge_c hih
          clear hih
          rcases hec with rfl | rfl
          all_goals
            go_wp2_with fail
            exact ⟨⟨i + 1, rfl, ⟨HI2.out.1, HI2.out.2⟩, fl1, k1, HS3.out, HNL.out, HO3.out⟩, pl_meas HI2.out.1⟩
      · have hii := lt_c hi
        have hge : ¬ (i : Int) < 20 := ge_c (n := 20) hi2
        have HF : Hid (∃ fl' k', ShS E w0 wr x fl' (plF (l.take 20) fs) k' ∧ (hs = [] → fl' = fl ∧ k' = k) ∧ Only x w wr) := by
          have h := HP.out.ex
          rw [Nat.le_antisymm HI.out.1 (Nat.le_of_not_lt hi2)] at h
          exact h
        clear hi hi2 HI HP
        go_wp2_with fail
        go_ret
        exact ⟨rfl, HF⟩
    · have hge := ge_c hi
      have HF : Hid (∃ fl' k', ShS E w0 wr x fl' (plF (l.take 20) fs) k' ∧ (hs = [] → fl' = fl ∧ k' = k) ∧ Only x w wr) := by
        have h := HP.out.ex
        have e : l.take i = l.take 20 := by
          rw [List.take_of_length_le (Nat.le_of_not_lt hi), List.take_of_length_le (Nat.le_trans (Nat.le_of_not_lt hi) HI.out.1)]
        rw [e] at h
        exact h
      clear hi HI HP
      go_wp2_with fail
      go_ret
      exact ⟨rfl, HF⟩
end Go.Proofs.YtiocnfambeochaaGreatDoor

/- Several sheets beside one another; alike. -/
set_option linter.unusedVariables false
set_option linter.unusedSimpArgs false
namespace Go.Proofs.YtiocnfambeochaaGreatDoor
open Go.RowKit

section
variable {E : Env} {w0 w w' : World} {x y : Nat} {fl fs : Nat → ByteArray} {k k' : Kp}
theorem ShS.other (h : ShS E w0 w y fl fs k) (ho : Only x w w') (hx : w0.heap.size ≤ x) (hne : y ≠ x) (hr : ∀ cur, w.heap[x]? ≠ some (.cells cur 274 (0, 0))) : ShS E w0 w' y fl fs k :=
  ⟨h.bel.trans (ho.below hx h.bel.size), h.xB, h.sr.only ho hne hr, h.kinv, h.ft⟩
end
theorem alNums {i : Nat} (h : i < 48) : IntKind.i64.wrap ((i : Int) + 1) = (i : Int) + 1 ∧ wrap64 ((i : Int) + 1) = (i : Int) + 1 ∧ (i : Int) < 48 := ⟨by rw [IntKind.wrap_i64]; omega, by unfold wrap64; omega, by omega⟩
theorem al_meas {i : Nat} (h : i < 48) : (100 - ((i + 1 : Nat) : Int)).toNat < (100 - (i : Int)).toNat := by omega
theorem cell_nm {c : Nat} (h : c < 48) : cellN (⟨(nmT c).toArray⟩ : ByteArray).data.toList = some c := cellN_name h
set_option maxRecDepth 100000 in
set_option maxHeartbeats 4000000 in
theorem alike_w {W : World} {x y : Nat} {fs : Nat → ByteArray} {bd bd' : Nat → Int × Int} {k k' : Kp} (hx : Hid (SR W x fs bd k)) (hy : Hid (SR W y fs bd' k')) (hv : Hid (∀ c, c < 48 → (k'.last c).v = (k.last c).v)) :
    Calls Tryz.prog 31 #[.pointer (some ⟨x, 0, none⟩), .pointer (some ⟨y, 0, none⟩)] W fun e w' => e = .returned (.bool true) ∧ Below W.heap.size W w' := by
  go_enter Tryz.func31, Tryz.ntmps31
  go_wp2_with fail
  go_loopw [5] (fun s wr => ∃ i : Nat, s = .int .i64 i ∧ Hid (i ≤ 48) ∧ Hid (Below W.heap.size W wr)) (fun s _ => (100 - intOf s).toNat)
  case atStart => exact ⟨0, rfl, Nat.zero_le _, Below.refl _ _⟩
  case round =>
    obtain ⟨i, rfl, HI, HB⟩ := hrel
    by_cases hi : i < 48
    · obtain ⟨n1, n2, n3⟩ := alNums hi
      have HII : Hid (i < 48) := hi
      have HV : Hid ((k'.last i).v = (k.last i).v) := hv.out i hi
      clear hi HI
      go_wp2_with fail
      refine (name_any i HII.out _).mono ?_
      rintro e u1 ⟨rfl, b1⟩
      have HB1 : Hid (Below W.heap.size W u1) := HB.out.trans (b1.mono HB.out.size)
      clear b1 HB
      go_wp2_with fail
      refine (formula_some u1 x (hx.out.below HB1.out) _ i (cell_nm HII.out)).mono ?_
      rintro e u2 ⟨rfl, b2⟩
      have HB2 : Hid (Below W.heap.size W u2) := HB1.out.trans (b2.mono HB1.out.size)
      clear b2 HB1
      go_wp2_with fail
      refine (name_any i HII.out _).mono ?_
      rintro e u3 ⟨rfl, b3⟩
      have HB3 : Hid (Below W.heap.size W u3) := HB2.out.trans (b3.mono HB2.out.size)
      clear b3 HB2
      go_wp2_with fail
      refine (formula_some u3 y (hy.out.below HB3.out) _ i (cell_nm HII.out)).mono ?_
      rintro e u4 ⟨rfl, b4⟩
      have HB4 : Hid (Below W.heap.size W u4) := HB3.out.trans (b4.mono HB3.out.size)
      clear b4 HB3
      go_wp2_with fail
      refine (name_any i HII.out _).mono ?_
      rintro e u5 ⟨rfl, b5⟩
      have HB5 : Hid (Below W.heap.size W u5) := HB4.out.trans (b5.mono HB4.out.size)
      clear b5 HB4
      go_wp2_with fail
      refine (value_some u5 x (hx.out.below HB5.out) _ i (cell_nm HII.out)).mono ?_
      rintro e u6 ⟨rfl, b6⟩
      have HB6 : Hid (Below W.heap.size W u6) := HB5.out.trans (b6.mono HB5.out.size)
      clear b6 HB5
      obtain ⟨q, hq⟩ : ∃ q, (k.last i).v = q := ⟨_, rfl⟩
      rw [hq] at HV
      rw [hq]
      clear hq
      go_wp2_with fail
      have HQ7 : Hid ((u6.alloc (.cells #[.int .i64 q.k, .int .i64 q.n, .string q.s] 52)).heap[u6.heap.size]? = some (.cells #[.int .i64 q.k, .int .i64 q.n, .string q.s] 52 (0, 0))) := rnew _ _ _
      have HB7 : Hid (Below W.heap.size W (u6.alloc (.cells #[.int .i64 q.k, .int .i64 q.n, .string q.s] 52))) := HB6.out.alloc HB6.out.size _
      clear HB6
      generalize u6.alloc (.cells #[.int .i64 q.k, .int .i64 q.n, .string q.s] 52) = u7 at *
      generalize u6.heap.size = p7 at *
      refine (name_any i HII.out _).mono ?_
      rintro e u8 ⟨rfl, b8⟩
      have HB8 : Hid (Below W.heap.size W u8) := HB7.out.trans (b8.mono HB7.out.size)
      have HQ8 : Hid (u8.heap[p7]? = some (.cells #[.int .i64 q.k, .int .i64 q.n, .string q.s] 52 (0, 0))) := by unfold Hid; rw [b8.block _ (Array.getElem?_eq_some_iff.1 HQ7.out).1]; exact HQ7.out
      clear b8 HB7 HQ7
      go_wp2_with fail
      refine (value_some u8 y (hy.out.below HB8.out) _ i (cell_nm HII.out)).mono ?_
      rintro e u9 ⟨rfl, b9⟩
      have HB9 : Hid (Below W.heap.size W u9) := HB8.out.trans (b9.mono HB8.out.size)
      have HQ9 : Hid (u9.heap[p7]? = some (.cells #[.int .i64 q.k, .int .i64 q.n, .string q.s] 52 (0, 0))) := by unfold Hid; rw [b9.block _ (Array.getElem?_eq_some_iff.1 HQ8.out).1]; exact HQ8.out
      rw [HV.out]
      clear b9 HB8 HQ8
      have HLT : Hid (p7 < u9.heap.size) := (Array.getElem?_eq_some_iff.1 HQ9.out).1
      obtain ⟨z0, z1, z2, z3, z4, z5⟩ := box3 rfl (show (u9.alloc (.cells #[.int .i64 q.k, .int .i64 q.n, .string q.s] 52)).heap[p7]? = some (.cells #[.int .i64 q.k, .int .i64 q.n, .string q.s] 52 (0, 0)) by rw [Below.heap_alloc _ _ _ HLT.out]; exact HQ9.out)
      go_wp2_with fail
      exact ⟨⟨i + 1, rfl, HII.out, HB9.out.alloc HB9.out.size _⟩, al_meas HII.out⟩
    · have hge : ¬ (i : Int) < 48 := ge_c (n := 48) hi
      clear hi HI
      go_wp2_with fail
      go_ret
      exact ⟨rfl, HB.out⟩
end Go.Proofs.YtiocnfambeochaaGreatDoor

/- Show, walked. -/
set_option linter.unusedVariables false
set_option linter.unusedSimpArgs false
namespace Go.Proofs.YtiocnfambeochaaGreatDoor
open Go.RowKit

def showE (n : Int) : List UInt8 := if n = 1 then [35, 79, 86, 69, 82] else if n = 2 then [35, 68, 73, 86] else if n = 3 then [35, 82, 69, 70] else if n = 4 then [35, 84, 89, 80, 69] else if n = 5 then [35, 67, 89, 67, 76, 69] else []
def showB (b : Bool) : List UInt8 := if b = true then [116, 114, 117, 101] else [102, 97, 108, 115, 101]
def showV (v : V) : List UInt8 := if v.k = 1 then Lib.itoa v.n else if v.k = 2 then showB (v.n == 1) else if v.k = 3 then [34] ++ v.s.data.toList ++ [34] else if v.k = 4 then showE v.n else []
theorem itoa_len {n : Int} (h : I64 n) : (Lib.itoa n).length ≤ 20 := by
  unfold I64 at h
  unfold Lib.itoa
  split
  · have := dec_len 18 n.natAbs (by omega); simp only [List.length_cons]; omega
  · have := dec_len 18 n.toNat (by omega); omega
theorem showV_len {v : V} (h : I64 v.n) (hs : v.s.size ≤ 1000) : (showV v).length ≤ 1100 := by
  have h1 := itoa_len h
  have h2 : v.s.data.toList.length = v.s.size := by rw [Array.length_toList]; rfl
  unfold showV showB showE
  split
  · omega
  · split
    · split <;> decide
    · split
      · simp only [List.length_append, List.length_cons, List.length_nil]; omega
      · split
        · repeat' split
          all_goals decide
        · decide
theorem fmtS_w (a : Int) (h : I64 a) (w : World) (hA : Amb w) : Calls Tryz.prog 57 #[.int .i64 a, .int .i64 10] w fun e w' => e = .returned (.string ⟨(Lib.itoa a).toArray⟩) ∧ Below w.heap.size w w' := by
  have hA2 : Hid _ := hA
  have H : Hid _ := h
  go_enter Tryz.func57, Tryz.ntmps57
  go_wp2_with fail
  refine (Any.internal_strconv_FormatInt_10 (P := Tryz.prog) (ρ := Tryz.laysM171_ren) { Tryz.laysM171 with } a H.out.1 H.out.2 _ hA2.out.2.1).mono ?_
  rintro e w1 ⟨rfl, k, os, rfl⟩
  go_wp2_with fail
  go_ret
  exact ⟨rfl, below_grow _ w (Nat.le_refl _) k os⟩
theorem fb107 (b : Bool) (w : World) : Calls Tryz.prog 107 #[.bool b] w fun e w' => e = .returned (.string ⟨(showB b).toArray⟩) ∧ w' = w := by
  cases b
  all_goals
    go_enter Tryz.func107, Tryz.ntmps107
    go_wp2_with fail
    go_ret
    exact ⟨rfl, rfl⟩
theorem fb77 (b : Bool) (w : World) : Calls Tryz.prog 77 #[.bool b] w fun e w' => e = .returned (.string ⟨(showB b).toArray⟩) ∧ w' = w := by
  go_enter Tryz.func77, Tryz.ntmps77
  go_wp2_with fail
  refine (fb107 b _).mono ?_
  rintro e w1 ⟨rfl, rfl⟩
  go_wp2_with fail
  go_ret
  exact ⟨rfl, rfl⟩
theorem se78 (n : Int) (w : World) : Calls Tryz.prog 78 #[.int .i64 n] w fun e w' => e = .returned (.string ⟨(showE n).toArray⟩) ∧ w' = w := by
  by_cases h1 : n = 1
  · subst h1
    go_enter Tryz.func78, Tryz.ntmps78
    go_wp2_with fail
    go_ret
    exact ⟨rfl, rfl⟩
  by_cases h2 : n = 2
  · subst h2
    go_enter Tryz.func78, Tryz.ntmps78
    go_wp2_with fail
    go_ret
    exact ⟨rfl, rfl⟩
  by_cases h3 : n = 3
  · subst h3
    go_enter Tryz.func78, Tryz.ntmps78
    go_wp2_with fail
    go_ret
    exact ⟨rfl, rfl⟩
  by_cases h4 : n = 4
  · subst h4
    go_enter Tryz.func78, Tryz.ntmps78
    go_wp2_with fail
    go_ret
    exact ⟨rfl, rfl⟩
  by_cases h5 : n = 5
  · subst h5
    go_enter Tryz.func78, Tryz.ntmps78
    go_wp2_with fail
    go_ret
    exact ⟨rfl, rfl⟩
  have e1 : (n == 1) = false := by simpa using h1
  have e2 : (n == 2) = false := by simpa using h2
  have e3 : (n == 3) = false := by simpa using h3
  have e4 : (n == 4) = false := by simpa using h4
  have e5 : (n == 5) = false := by simpa using h5
  have HE : Hid (showE n = []) := by unfold Hid showE; rw [if_neg h1, if_neg h2, if_neg h3, if_neg h4, if_neg h5]
  go_enter Tryz.func78, Tryz.ntmps78
  go_wp2_with fail
  go_ret
  rw [HE.out]
  exact ⟨rfl, rfl⟩
theorem adds {P : Program} (x y : List UInt8) (hx : x.length ≤ 20000) (hy : y.length ≤ 20000) : ∀ w : World, (Op.stringOp .add ⟨x.toArray⟩ ⟨y.toArray⟩).run P w = .ok (.string ⟨(x ++ y).toArray⟩) w := fun w =>
  run_string_add_lists w x y (by omega) (by omega)
set_option maxHeartbeats 2000000 in
theorem show54 (v : V) (hn : Hid (I64 v.n)) (hs : Hid (v.s.size ≤ 1000)) (w : World) (hA : Hid (Amb w)) : Calls Tryz.prog 54 #[.agg #[.int .i64 v.k, .int .i64 v.n, .string v.s]] w fun e w' => e = .returned (.string ⟨(showV v).toArray⟩) ∧ Below w.heap.size w w' := by
  obtain ⟨vk, vn, vs⟩ := v
  dsimp only at hn hs ⊢
  have HB : ∀ o, Hid (Below w.heap.size w (w.alloc o)) := fun o => bl1 _ _
  by_cases h1 : vk = 1
  · subst h1
    go_enter Tryz.func54, Tryz.ntmps54
    go_wp2_with fail
    refine (fmtS_w vn hn.out _ (hA.out.below (bl1 _ _))).mono ?_
    rintro e w1 ⟨rfl, b1⟩
    go_wp2_with fail
    go_ret
    exact ⟨rfl, (bl1 _ _).trans (b1.mono (by simp))⟩
  by_cases h2 : vk = 2
  · subst h2
    obtain ⟨B, hB⟩ : ∃ B, (vn == 1) = B := ⟨_, rfl⟩
    have HBB : Hid ((vn == 1) = B) := hB
    go_enter Tryz.func54, Tryz.ntmps54
    go_wp2_with fail
    refine (fb77 B _).mono ?_
    rintro e w1 ⟨rfl, hw1⟩
    rw [hw1]
    clear hw1 w1
    go_wp2_with fail
    go_ret
    refine ⟨?_, bl1 _ _⟩
    show _ = Ending.returned (.string ⟨(showB (vn == 1)).toArray⟩)
    rw [HBB.out]
    rfl
  by_cases h3 : vk = 3
  · subst h3
    obtain ⟨S, hS⟩ : ∃ S : List UInt8, vs = ⟨S.toArray⟩ := ⟨vs.data.toList, rfl⟩
    subst hS
    have hl : S.length ≤ 1000 := by have := hs.out; simpa [ByteArray.size] using this
    have k1 := adds (P := Tryz.prog) [34] S (by decide) (by omega)
    have k2 := adds (P := Tryz.prog) (34 :: S) [34] (by simp; omega) (by decide)
    clear hl
    go_enter Tryz.func54, Tryz.ntmps54
    go_wp2_with fail
    go_ret
    exact ⟨rfl, bl1 _ _⟩
  by_cases h4 : vk = 4
  · subst h4
    go_enter Tryz.func54, Tryz.ntmps54
    go_wp2_with fail
    refine (se78 vn _).mono ?_
    rintro e w1 ⟨rfl, hw1⟩
    rw [hw1]
    clear hw1 w1
    go_wp2_with fail
    go_ret
    exact ⟨rfl, bl1 _ _⟩
  have e1 : (vk == 1) = false := by simpa using h1
  have e2 : (vk == 2) = false := by simpa using h2
  have e3 : (vk == 3) = false := by simpa using h3
  have e4 : (vk == 4) = false := by simpa using h4
  have HE : Hid (showV ⟨vk, vn, vs⟩ = []) := by unfold Hid showV; rw [if_neg h1, if_neg h2, if_neg h3, if_neg h4]
  go_enter Tryz.func54, Tryz.ntmps54
  go_wp2_with fail
  go_ret
  rw [HE.out]
  exact ⟨rfl, bl1 _ _⟩
def shL (v : Nat → V) (c : Nat) : List UInt8 := if (v c).k = 0 then [] else (nm c).data.toList ++ [61] ++ showV (v c) ++ [10]
def shT (v : Nat → V) (n : Nat) : List UInt8 := (List.range n).flatMap (shL v)
theorem shT_next (v : Nat → V) (n : Nat) : shT v (n + 1) = shT v n ++ shL v n := by
  unfold shT
  rw [List.range_succ, List.flatMap_append, List.flatMap_cons, List.flatMap_nil, List.append_nil]
theorem shL_len {v : Nat → V} {c : Nat} (h : I64 (v c).n) (hs : (v c).s.size ≤ 1000) : (shL v c).length ≤ 1200 := by
  unfold shL
  have := showV_len h hs
  have h2 : (nm c).data.toList.length = 2 := rfl
  split
  · simp
  · simp only [List.length_append, List.length_cons, List.length_nil, h2]; omega
theorem shT_len {v : Nat → V} : ∀ (n : Nat), (∀ c, c < n → I64 (v c).n ∧ (v c).s.size ≤ 1000) → (shT v n).length ≤ n * 1200
  | 0, _ => Nat.zero_le _
  | n + 1, h => by
    rw [shT_next, List.length_append]
    have h1 := shT_len n (fun c hc => h c (by omega))
    have h2 := shL_len (h n (by omega)).1 (h n (by omega)).2
    omega
theorem shSum {a b i : Nat} (h1 : a ≤ i * 1200) (h2 : b ≤ 1200) (hi : i < 48) : a + b ≤ 140737488355328 := by omega
theorem ne_c {k : Int} (h : ¬ k = 0) : (k == 0) = false := by simpa using h
set_option maxRecDepth 100000 in
set_option maxHeartbeats 4000000 in
theorem show_w {W : World} {x : Nat} {fs : Nat → ByteArray} {bd : Nat → Int × Int} {k : Kp} (hx : Hid (SR W x fs bd k)) (hA : Hid (Amb W)) (hv : Hid (∀ c, c < 48 → I64 (k.last c).v.n ∧ (k.last c).v.s.size ≤ 1000)) :
    Calls Tryz.prog 32 #[.pointer (some ⟨x, 0, none⟩)] W fun e w' => e = .returned (.string ⟨(shT (fun c => (k.last c).v) 48).toArray⟩) ∧ Below W.heap.size W w' := by
  go_enter Tryz.func32, Tryz.ntmps32
  go_wp2_with fail
  go_loopw [6] (fun s wr => ∃ i : Nat, s = .int .i64 i ∧ Hid (i ≤ 48) ∧ Hid (Lib.IsBuilder 123 5 W.heap.size W.heap.size (Lib.byteCells (shT (fun c => (k.last c).v) i)) wr) ∧ Hid (Below W.heap.size W wr)) (fun s _ => (100 - intOf s).toNat)
  case atStart =>
    refine ⟨0, rfl, Nat.zero_le _, ?_, (Below.refl _ _).alloc (Nat.le_refl _) _⟩
    exact Or.inl ⟨Nat.le_refl _, .slice none 0 0, heap_alloc_new W _, World.ownsRow_nil _ _ _ _, by simp [Value.ownBlock]⟩
  case round =>
    obtain ⟨i, rfl, HI, HBD, HB⟩ := hrel
    by_cases hi : i < 48
    · obtain ⟨n1, n2, n3⟩ := alNums hi
      have HII : Hid (i < 48) := hi
      have HV := hv.out i hi
      have HTL : Hid ((shT (fun c => (k.last c).v) i).length ≤ i * 1200) := shT_len i (fun c hc => hv.out c (Nat.lt_trans hc hi))
      have HLL : Hid ((shL (fun c => (k.last c).v) i).length ≤ 1200) := shL_len (v := fun c => (k.last c).v) HV.1 HV.2
      clear hi HI
      go_wp2_with fail
      refine (value50 wr x i HII.out (hx.out.below HB.out)).mono ?_
      rintro e u1 ⟨rfl, b1⟩
      have HB1 : Hid (Below W.heap.size W u1) := HB.out.trans (b1.mono HB.out.size)
      have HD1 : Hid (Lib.IsBuilder 123 5 W.heap.size W.heap.size (Lib.byteCells (shT (fun c => (k.last c).v) i)) u1) := isb_below HBD.out b1
      clear b1 HB HBD
      obtain ⟨q, hq⟩ : ∃ q, (k.last i).v = q := ⟨_, rfl⟩
      have HQ : Hid ((k.last i).v = q) := hq
      rw [hq] at HV
      rw [hq]
      have HVN : Hid (I64 q.n) := HV.1
      have HVS : Hid (q.s.size ≤ 1000) := HV.2
      clear hq HV
      have HQ2 : Hid ((u1.alloc (.cells #[.int .i64 q.k, .int .i64 q.n, .string q.s] 52)).heap[u1.heap.size]? = some (.cells #[.int .i64 q.k, .int .i64 q.n, .string q.s] 52 (0, 0))) := rnew _ _ _
      have HB2 : Hid (Below W.heap.size W (u1.alloc (.cells #[.int .i64 q.k, .int .i64 q.n, .string q.s] 52))) := HB1.out.alloc HB1.out.size _
      have HD2 : Hid (Lib.IsBuilder 123 5 W.heap.size W.heap.size (Lib.byteCells (shT (fun c => (k.last c).v) i)) (u1.alloc (.cells #[.int .i64 q.k, .int .i64 q.n, .string q.s] 52))) := isb_below HD1.out (bl1 _ _)
      by_cases hk : q.k = 0
      · have HLN : Hid (shL (fun c => (k.last c).v) i = []) := by unfold Hid; show (if (k.last i).v.k = 0 then [] else (nm i).data.toList ++ [61] ++ showV (k.last i).v ++ [10]) = _; rw [HQ.out, if_pos hk]
        have hk2 : (q.k == 0) = true := by simpa using hk
        clear HD1 HB1 hk
        go_wp2_with fail
        refine ⟨⟨i + 1, rfl, HII.out, ?_, HB2⟩, al_meas HII.out⟩
        unfold Hid
        rw [shT_next, HLN.out, List.append_nil]
        exact HD2
      · have hk2 := ne_c hk
        have HLN : Hid (shL (fun c => (k.last c).v) i = (nm i).data.toList ++ [61] ++ showV q ++ [10]) := by unfold Hid; show (if (k.last i).v.k = 0 then [] else (nm i).data.toList ++ [61] ++ showV (k.last i).v ++ [10]) = _; rw [HQ.out, if_neg hk]
        have HSL : Hid ((showV q).length ≤ 1100) := showV_len HVN.out HVS.out
        clear HD1 HB1
        go_wp2_with fail
        clear hk hk2
        generalize u1.alloc (.cells #[.int .i64 q.k, .int .i64 q.n, .string q.s] 52) = u2 at *
        generalize u1.heap.size = b2 at *
        obtain ⟨N, hN, hNl⟩ : ∃ N : List UInt8, nmV i = .string ⟨N.toArray⟩ ∧ N = (nm i).data.toList := ⟨_, rfl, rfl⟩
        have HN : Hid (N = (nm i).data.toList) := hNl
        have HNV : Hid (nmV i = .string ⟨N.toArray⟩) := hN
        have hl2 : N.length = 2 := by rw [hNl]; rfl
        have hls := HSL.out
        have k1 := adds (P := Tryz.prog) N [61] (by omega) (by decide)
        have k2 := adds (P := Tryz.prog) (N ++ [61]) (showV q) (by simp; omega) (by omega)
        have k3 := adds (P := Tryz.prog) (N ++ 61 :: showV q) [10] (by simp; omega) (by decide)
        clear hN hNl hl2 hls
        obtain ⟨z0, z1, z2, z3, z4, z5⟩ := box3 rfl HQ2.out
        have HLT : Hid (b2 < u2.heap.size) := (Array.getElem?_eq_some_iff.1 HQ2.out).1
        refine wp_region_held (S := fun _ : World => True) (by kernel_rfl) ?_
        refine wpAnyH_take (i := 0) (v := .int .i64 i) rfl (by kernel_rfl) (by kernel_rfl) (by kernel_rfl) (fun _ _ _ h => h) (Or.inl ⟨by rfl, fun w hSw => by go_simp⟩) trivial ?_
        (try simp only [Act.put, List.setIfInBounds_toArray, List.set_cons_zero, List.set_cons_succ, List.getElem_toArray, List.getElem_cons_zero, List.getElem_cons_succ])
        refine wpAnyH_ready (rs := [1, 3]) (by kernel_rfl) (by simp) ?_
        refine AllReadyH.cons rfl (fun K hK => ?_) (AllReadyH.cons rfl (fun K hK => ?_) AllReadyH.nil)
        · clear z0 z1 z2 z3 z4 z5
          go_simp
          refine (nameC_w i HII.out _).mono ?_
          rintro e u3 ⟨rfl, b3⟩
          rw [HNV.out]
          have dd : Below u2.heap.size u2 u3 := ((Below.refl _ _).drew).trans b3
          have HB3 : Hid (Below W.heap.size W u3) := HB2.out.trans (dd.mono HB2.out.size)
          have HD3 : Hid (Lib.IsBuilder 123 5 W.heap.size W.heap.size (Lib.byteCells (shT (fun c => (k.last c).v) i)) u3) := isb_below HD2.out dd
          have HQ3 : Hid (u3.heap[b2]? = some (.cells #[.int .i64 q.k, .int .i64 q.n, .string q.s] 52 (0, 0))) := by unfold Hid; rw [dd.block _ HLT.out]; exact HQ2.out
          clear dd b3 HB2 HD2
          refine hK.out _ _ trivial (fun _ => ?_)
          clear hK K
          (try simp only [Act.put, List.setIfInBounds_toArray, List.set_cons_zero, List.set_cons_succ, List.getElem_toArray, List.getElem_cons_zero, List.getElem_cons_succ])
          refine wpAnyH_take (i := 2) (v := .string ⟨(N ++ [61]).toArray⟩) rfl (by kernel_rfl) (by kernel_rfl) (by kernel_rfl) (fun _ _ _ h => h) (Or.inl ⟨by rfl, fun w hSw => by go_simp⟩) trivial ?_
          (try simp only [Act.put, List.setIfInBounds_toArray, List.set_cons_zero, List.set_cons_succ, List.getElem_toArray, List.getElem_cons_zero, List.getElem_cons_succ])
          obtain ⟨y0, y1, y2, y3, y4, y5⟩ := box3 rfl HQ3.out
          refine wpAnyH_ready (rs := [3]) (by kernel_rfl) (by simp) ?_
          refine AllReadyH.cons rfl (fun K hK => ?_) AllReadyH.nil
          go_simp
          clear y0 y1 y2 y3 y4 y5
          refine hK.out _ _ trivial (fun _ => ?_)
          clear hK K
          (try simp only [Act.put, List.setIfInBounds_toArray, List.set_cons_zero, List.set_cons_succ, List.getElem_toArray, List.getElem_cons_zero, List.getElem_cons_succ])
          refine wpAnyH_ready (rs := [4]) (by kernel_rfl) (by simp) ?_
          refine AllReadyH.cons rfl (fun K hK => ?_) AllReadyH.nil
          go_simp
          refine (show54 q HVN HVS _ (hA.out.below HB3.out)).mono ?_
          rintro e u4 ⟨rfl, b4⟩
          have HB4 : Hid (Below W.heap.size W u4) := HB3.out.trans (b4.mono HB3.out.size)
          have HD4 : Hid (Lib.IsBuilder 123 5 W.heap.size W.heap.size (Lib.byteCells (shT (fun c => (k.last c).v) i)) u4) := isb_below HD3.out b4
          clear b4 HB3 HD3
          refine hK.out _ _ trivial (fun _ => ?_)
          clear hK K
          (try simp only [Act.put, List.setIfInBounds_toArray, List.set_cons_zero, List.set_cons_succ, List.getElem_toArray, List.getElem_cons_zero, List.getElem_cons_succ])
          refine wpAnyH_take (i := 5) (v := .string ⟨(N ++ 61 :: showV q).toArray⟩) rfl (by kernel_rfl) (by kernel_rfl) (by kernel_rfl) (fun _ _ _ h => h) (Or.inl ⟨by rfl, fun w hSw => by go_simp⟩) trivial ?_
          (try simp only [Act.put, List.setIfInBounds_toArray, List.set_cons_zero, List.set_cons_succ, List.getElem_toArray, List.getElem_cons_zero, List.getElem_cons_succ])
          refine wpAnyH_take (i := 6) (v := .string ⟨(N ++ 61 :: (showV q ++ [10])).toArray⟩) rfl (by kernel_rfl) (by kernel_rfl) (by kernel_rfl) (fun _ _ _ h => h) (Or.inl ⟨by rfl, fun w hSw => by go_simp⟩) trivial ?_
          (try simp only [Act.put, List.setIfInBounds_toArray, List.set_cons_zero, List.set_cons_succ, List.getElem_toArray, List.getElem_cons_zero, List.getElem_cons_succ])
          have HLS : Hid (N ++ 61 :: (showV q ++ [10]) = shL (fun c => (k.last c).v) i) := by unfold Hid; rw [HLN.out, HN.out]; simp
          rw [HLS.out]
          refine wpAnyH_ready (rs := [7]) (by kernel_rfl) (by simp) ?_
          refine AllReadyH.cons rfl (fun K hK => ?_) AllReadyH.nil
          go_simp
          refine (write_any W.heap.size W.heap.size _ _ _ HD4.out (by rw [Lib.byteCells_length, size_list]; exact shSum HTL.out HLL.out HII.out) HB4.out.size).mono ?_
          rintro e u5 ⟨rfl, d5, b5⟩
          have HD5 : Hid (Lib.IsBuilder 123 5 W.heap.size W.heap.size (Lib.byteCells (shT (fun c => (k.last c).v) (i + 1))) u5) := by
            refine Or.inr ?_
            rw [shT_next, Lib.byteCells_append]
            exact d5
          have HB5 : Hid (Below W.heap.size W u5) := HB4.out.trans b5
          clear d5 b5 HB4 HD4
          refine hK.out _ _ trivial (fun _ => ?_)
          clear hK K
          (try simp only [Act.put, List.setIfInBounds_toArray, List.set_cons_zero, List.set_cons_succ, List.getElem_toArray, List.getElem_cons_zero, List.getElem_cons_succ])
          refine wpAnyH_done (by kernel_rfl) ?_ _
          go_wp2_with fail
          exact ⟨⟨i + 1, rfl, HII.out, HD5, HB5⟩, al_meas HII.out⟩
        · go_simp
          clear z0 z1 z2 z3 z4 z5
          refine hK.out _ _ trivial (fun _ => ?_)
          clear hK K
          (try simp only [Act.put, List.setIfInBounds_toArray, List.set_cons_zero, List.set_cons_succ, List.getElem_toArray, List.getElem_cons_zero, List.getElem_cons_succ])
          refine wpAnyH_ready (rs := [1]) (by kernel_rfl) (by simp) ?_
          refine AllReadyH.cons rfl (fun K hK => ?_) AllReadyH.nil
          go_simp
          refine (nameC_w i HII.out _).mono ?_
          rintro e u3 ⟨rfl, b3⟩
          rw [HNV.out]
          have dd : Below u2.heap.size u2 u3 := ((Below.refl _ _).drew).trans b3
          have HB3 : Hid (Below W.heap.size W u3) := HB2.out.trans (dd.mono HB2.out.size)
          have HD3 : Hid (Lib.IsBuilder 123 5 W.heap.size W.heap.size (Lib.byteCells (shT (fun c => (k.last c).v) i)) u3) := isb_below HD2.out dd
          have HQ3 : Hid (u3.heap[b2]? = some (.cells #[.int .i64 q.k, .int .i64 q.n, .string q.s] 52 (0, 0))) := by unfold Hid; rw [dd.block _ HLT.out]; exact HQ2.out
          clear dd b3 HB2 HD2
          refine hK.out _ _ trivial (fun _ => ?_)
          clear hK K
          (try simp only [Act.put, List.setIfInBounds_toArray, List.set_cons_zero, List.set_cons_succ, List.getElem_toArray, List.getElem_cons_zero, List.getElem_cons_succ])
          refine wpAnyH_take (i := 2) (v := .string ⟨(N ++ [61]).toArray⟩) rfl (by kernel_rfl) (by kernel_rfl) (by kernel_rfl) (fun _ _ _ h => h) (Or.inl ⟨by rfl, fun w hSw => by go_simp⟩) trivial ?_
          (try simp only [Act.put, List.setIfInBounds_toArray, List.set_cons_zero, List.set_cons_succ, List.getElem_toArray, List.getElem_cons_zero, List.getElem_cons_succ])
          refine wpAnyH_ready (rs := [4]) (by kernel_rfl) (by simp) ?_
          refine AllReadyH.cons rfl (fun K hK => ?_) AllReadyH.nil
          go_simp
          refine (show54 q HVN HVS _ (hA.out.below HB3.out)).mono ?_
          rintro e u4 ⟨rfl, b4⟩
          have HB4 : Hid (Below W.heap.size W u4) := HB3.out.trans (b4.mono HB3.out.size)
          have HD4 : Hid (Lib.IsBuilder 123 5 W.heap.size W.heap.size (Lib.byteCells (shT (fun c => (k.last c).v) i)) u4) := isb_below HD3.out b4
          clear b4 HB3 HD3
          refine hK.out _ _ trivial (fun _ => ?_)
          clear hK K
          (try simp only [Act.put, List.setIfInBounds_toArray, List.set_cons_zero, List.set_cons_succ, List.getElem_toArray, List.getElem_cons_zero, List.getElem_cons_succ])
          refine wpAnyH_take (i := 5) (v := .string ⟨(N ++ 61 :: showV q).toArray⟩) rfl (by kernel_rfl) (by kernel_rfl) (by kernel_rfl) (fun _ _ _ h => h) (Or.inl ⟨by rfl, fun w hSw => by go_simp⟩) trivial ?_
          (try simp only [Act.put, List.setIfInBounds_toArray, List.set_cons_zero, List.set_cons_succ, List.getElem_toArray, List.getElem_cons_zero, List.getElem_cons_succ])
          refine wpAnyH_take (i := 6) (v := .string ⟨(N ++ 61 :: (showV q ++ [10])).toArray⟩) rfl (by kernel_rfl) (by kernel_rfl) (by kernel_rfl) (fun _ _ _ h => h) (Or.inl ⟨by rfl, fun w hSw => by go_simp⟩) trivial ?_
          (try simp only [Act.put, List.setIfInBounds_toArray, List.set_cons_zero, List.set_cons_succ, List.getElem_toArray, List.getElem_cons_zero, List.getElem_cons_succ])
          have HLS : Hid (N ++ 61 :: (showV q ++ [10]) = shL (fun c => (k.last c).v) i) := by unfold Hid; rw [HLN.out, HN.out]; simp
          rw [HLS.out]
          refine wpAnyH_ready (rs := [7]) (by kernel_rfl) (by simp) ?_
          refine AllReadyH.cons rfl (fun K hK => ?_) AllReadyH.nil
          go_simp
          refine (write_any W.heap.size W.heap.size _ _ _ HD4.out (by rw [Lib.byteCells_length, size_list]; exact shSum HTL.out HLL.out HII.out) HB4.out.size).mono ?_
          rintro e u5 ⟨rfl, d5, b5⟩
          have HD5 : Hid (Lib.IsBuilder 123 5 W.heap.size W.heap.size (Lib.byteCells (shT (fun c => (k.last c).v) (i + 1))) u5) := by
            refine Or.inr ?_
            rw [shT_next, Lib.byteCells_append]
            exact d5
          have HB5 : Hid (Below W.heap.size W u5) := HB4.out.trans b5
          clear d5 b5 HB4 HD4
          refine hK.out _ _ trivial (fun _ => ?_)
          clear hK K
          (try simp only [Act.put, List.setIfInBounds_toArray, List.set_cons_zero, List.set_cons_succ, List.getElem_toArray, List.getElem_cons_zero, List.getElem_cons_succ])
          refine wpAnyH_done (by kernel_rfl) ?_ _
          go_wp2_with fail
          exact ⟨⟨i + 1, rfl, HII.out, HD5, HB5⟩, al_meas HII.out⟩
    · have hge : ¬ (i : Int) < 48 := ge_c (n := 48) hi
      have HBE : Hid (Lib.IsBuilder 123 5 W.heap.size W.heap.size (Lib.byteCells (shT (fun c => (k.last c).v) 48)) wr) := by
        have h := HBD.out
        rw [Nat.le_antisymm HI.out (Nat.le_of_not_lt hi)] at h
        exact h
      clear hi HI HBD
      go_wp2_with fail
      refine (Tryz.Builder_String_any W.heap.size W.heap.size _ _ HBE.out HB.out.size).mono ?_
      rintro e w2 ⟨rfl, hb2⟩
      go_wp2_with fail
      go_ret
      exact ⟨rfl, HB.out.trans hb2⟩
end Go.Proofs.YtiocnfambeochaaGreatDoor
