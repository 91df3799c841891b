/- The statement's own 'play', with a list of numbers made on the way. -/
import Derived.Test.YtlpmmmmniojflaaGreatDoorQ47
set_option linter.unusedVariables false
set_option linter.unusedSimpArgs false
namespace Go.Proofs.YtlpmmmmniojflaaGreatDoor
open Go.RowKit
theorem addB (a : Addr) (n : Nat) : (a.add n).block = a.block := by unfold Addr.add; split <;> rfl
theorem Only.cell {x : Nat} {w w' : World} (h : Only x w w') {p : Addr} (hp : p.block < w.heap.size) (hx : p.block ≠ x) : w'.cell? p = w.cell? p := World.cell?_of_block (w := w) (h.block p.block hp hx)
def HowX (w : World) (x : Nat) (v : Value) (l : List Int) : Prop :=
  (v = .slice none 0 0 ∧ l = []) ∨ ∃ (a : Addr) (cap : Nat), v = .slice (some a) l.length cap ∧ l.length ≤ cap ∧ l.length ≤ maxLen ∧ a.block ≠ x ∧ ∀ i s, l[i]? = some s → w.cell? (a.add i) = some (.int .i64 s) ∧ I64 s
theorem HowX.one {w : World} {x b : Nat} {n : Int} {t : TypeId} {c : Nat × Nat} (h : w.heap[b]? = some (.cells #[.int .i64 n] t c)) (hb : b ≠ x) (hn : I64 n) : HowX w x (.slice (some ⟨b, 0, none⟩) 1 1) [n] := by
  refine .inr ⟨⟨b, 0, none⟩, 1, rfl, Nat.le_refl _, (show 1 ≤ maxLen by decide), hb, fun i s hi => ?_⟩
  have hi2 : i = 0 := by
    have := (List.getElem?_eq_some_iff.1 hi).1
    simp only [List.length_cons, List.length_nil] at this
    omega
  subst hi2
  cases hi
  exact ⟨by simp [World.cell?, Addr.add, h], hn⟩
def flN (l : List ByteArray) (hs : List Int) (fl fs : Nat → ByteArray) : Nat → Nat → ByteArray
  | 0 => fl
  | i + 1 => if hs[i]? = none ∨ hs[i]? = some 0 then flN l hs fl fs i else plF (l.take (i + 1)) fs
theorem flN_0 {l : List ByteArray} {hs : List Int} {fl fs : Nat → ByteArray} {i : Nat} (h : hs[i]? = none ∨ hs[i]? = some 0) : flN l hs fl fs (i + 1) = flN l hs fl fs i := if_pos h
theorem flN_1 {l : List ByteArray} {hs : List Int} {fl fs : Nat → ByteArray} {i : Nat} {z : Int} (h : hs[i]? = some z) (hz : ¬ z = 0) : flN l hs fl fs (i + 1) = plF (l.take (i + 1)) fs := if_neg (by rw [h]; rintro (e | e); cases e; exact hz (Option.some.inj e))
theorem flN_nil {l : List ByteArray} {fl fs : Nat → ByteArray} : ∀ i, flN l [] fl fs i = fl
  | 0 => rfl
  | i + 1 => (flN_0 (.inl rfl)).trans (flN_nil i)
structure PlX (E : Env) (w0 wa w : World) (x : Nat) (l : List ByteArray) (hs : List Int) (fl0 fs0 : Nat → ByteArray) (k0 : Kp) (i : Nat) : Prop where
  ex : ∃ k, ShS E w0 w x (flN l hs fl0 fs0 i) (plF (l.take i) fs0) k ∧ (hs = [] → k = k0) ∧ Only x wa w
set_option maxRecDepth 100000 in
set_option maxHeartbeats 4000000 in
theorem play_x {E : Env} (HE : Hid (EnvOK E)) {w0 w : World} (hA : Hid (Amb w0)) {x : Nat} {fl fs : Nat → ByteArray} {k : Kp} (h : Hid (ShS E w0 w x fl fs k)) {vr vh : Value} {l : List ByteArray} {hs : List Int} (hr : Hid (RawS w0 vr l)) (hh : Hid (HowX w x vh hs)) :
    Calls Tryz.prog 30 #[.pointer (some ⟨x, 0, none⟩), vr, vh] w fun e w' => e = .returned (.bool true) ∧ Hid (∃ k', ShS E w0 w' x (flN l hs fl fs (min 20 l.length)) (plF (l.take 20) fs) k' ∧ (hs = [] → k' = k) ∧ Only x w w') := by
  obtain ⟨ar, cr, hvr⟩ : ∃ a c, vr = .slice a l.length c := by
    rcases hr.out with ⟨rfl, rfl⟩ | ⟨a, c, rfl, _⟩
    · exact ⟨none, 0, rfl⟩
    · exact ⟨some a, c, rfl⟩
  obtain ⟨ah, ch, hvh⟩ : ∃ a c, vh = .slice a hs.length c := by
    rcases hh.out with ⟨rfl, rfl⟩ | ⟨a, c, rfl, _⟩
    · exact ⟨none, 0, rfl⟩
    · exact ⟨some a, c, rfl⟩
  subst hvr
  subst hvh
  have H0 : Hid (PlX E w0 w w x l hs fl fs k 0) := ⟨k, h.out, fun _ => rfl, Only.refl _ _⟩
  go_enter Tryz.func30, Tryz.ntmps30
  go_wp2_with fail
  go_loopw [7] (fun s wr => ∃ i : Nat, s = .int .i64 i ∧ Hid (i ≤ 20 ∧ i ≤ l.length) ∧ Hid (PlX E w0 w wr x l hs fl fs k i)) (fun s _ => (100 - intOf s).toNat)
  case atStart => exact ⟨0, rfl, ⟨Nat.zero_le _, Nat.zero_le _⟩, H0⟩
  case round =>
    obtain ⟨i, rfl, HI, HP⟩ := hrel
    clear H0 h
    by_cases hi : i < l.length
    · by_cases hi2 : i < 20
      · obtain ⟨n1, n2, n3, n4⟩ := plNums hi2
        have hii := lt_c hi
        obtain ⟨s, hsg⟩ : ∃ s, l[i]? = some s := ⟨_, List.getElem?_eq_getElem hi⟩
        obtain ⟨a, hra, hcap, hlm, hcl⟩ : ∃ a, ar = some a ∧ l.length ≤ cr ∧ l.length ≤ maxLen ∧ ∀ i s, l[i]? = some s → w0.cell? (a.add i) = some (.string s) ∧ s.size ≤ 9223372036854775806 := by
          rcases hr.out with ⟨_, e⟩ | ⟨a, c, e, h1, h2, h4⟩
          · rw [e] at hi; exact absurd hi (Nat.not_lt_zero _)
          · cases e; exact ⟨a, rfl, h1, h2, h4⟩
        subst hra
        obtain ⟨k1, hsh, hnil, honl⟩ := HP.out.ex
        obtain ⟨fl1, hfl1⟩ : ∃ f, flN l hs fl fs i = f := ⟨_, rfl⟩
        rw [hfl1] at hsh
        have HFL : Hid (flN l hs fl fs i = fl1) := hfl1
        have HON : Hid (Only x w wr) := honl
        have HSH : Hid (ShS E w0 wr x fl1 (plF (l.take i) fs) k1) := hsh
        have HNL : Hid (hs = [] → k1 = k) := hnil
        clear hfl1
        have HSS : Hid (s.size ≤ 9223372036854775806) := (hcl i s hsg).2
        have hcell : wr.cell? (a.add i) = some (.string s) := by rw [hsh.bel.cell (p := a.add i) (World.block_lt_of_cell? _ _ (hcl i s hsg).1)]; exact (hcl i s hsg).1
        have HTK : Hid (l.take (i + 1) = l.take i ++ [s]) := takes_next hsg
        have HI2 : Hid (i < 20 ∧ i < l.length) := ⟨hi2, hi⟩
        clear hi hi2 HI hsg hsh hnil hcl HP honl
        go_wp2_with fail
        have HFD : Hid (FD (wr.alloc (.cells #[.string s, .int .i64 0] 30)) w0.heap.size wr.heap.size s.data.toList) := fd_new HSH.out.bel HSS.out
        have HB1 : Hid (Below wr.heap.size wr (wr.alloc (.cells #[.string s, .int .i64 0] 30))) := bl1 _ _
        generalize wr.alloc (.cells #[.string s, .int .i64 0] 30) = w1 at *
        refine (batch_w w0 w1 wr.heap.size s.data.toList hA (HSH.out.bel.trans (HB1.out.mono HSH.out.bel.size)) HFD).mono ?_
        rintro e w2 ⟨v, rfl, g2⟩
        have HB2 : Hid (Below wr.heap.size wr w2) := below_gb HB1.out g2.out.2.2 HB1.out.size (Nat.le_refl _)
        have HS2 : Hid (ShS E w0 w2 x fl1 (plF (l.take i) fs) k1) := HSH.out.below HB2.out
        have HO2 : Hid (Only x w w2) := HON.out.trans (Below.only HB2.out x)
        have HSL : Hid (Slc w2 68 2 v (bB s.data.toList).length ((bB s.data.toList).flatMap edC)) := g2.out.1
        clear g2 HFD HB1 HB2 HSH hcell
        go_wp2_with fail
        refine (edit_any w2 x v (bB s.data.toList) HS2.out.sr (hA.out.below HS2.out.bel) HSL (Nat.le_trans (bB_len _) (by decide)) (bB_sizes _)).mono ?_
        rintro e w3 ⟨rfl, g3⟩
        have HS3 : Hid (ShS E w0 w3 x fl1 (plF (l.take (i + 1)) fs) k1) := by
          have h := HS2.out.batch (w' := w3) (s := s) g3.out.1 g3.out.2
          unfold Hid
          rw [HTK.out, pl_app]; exact h
        have hec : (edR bd0 0 (bB s.data.toList) (plF (l.take i) fs)).e = 0 ∨ (edR bd0 0 (bB s.data.toList) (plF (l.take i) fs)).e = 1 := by
          rcases ed_batch (bB s.data.toList) 0 (plF (l.take i) fs) (bL_ok _ _) with ⟨g, _⟩ | g
          · exact .inl g
          · exact .inr g
        have HO3 : Hid (Only x w w3) := HO2.out.trans (ed_only g3.out.1 g3.out.2)
        clear g3 HS2 HSL HO2 HON
        generalize edR bd0 0 (bB s.data.toList) (plF (l.take i) fs) = R at *
        obtain ⟨e, ei, ep, efs⟩ := R
        dsimp only at hec
        by_cases hih : i < hs.length
        · have hihi := lt_c hih
          obtain ⟨ih, hig⟩ : ∃ z, hs[i]? = some z := ⟨_, List.getElem?_eq_getElem hih⟩
          obtain ⟨b, hrb, hcap2, hlm2, hbx, hcl2⟩ : ∃ a : Addr, ah = some a ∧ hs.length ≤ ch ∧ hs.length ≤ maxLen ∧ a.block ≠ x ∧ ∀ i s, hs[i]? = some s → w.cell? (a.add i) = some (.int .i64 s) ∧ I64 s := by
            rcases hh.out with ⟨_, e⟩ | ⟨a, c, e, h1, h2, h3, h4⟩
            · rw [e] at hih; exact absurd hih (Nat.not_lt_zero _)
            · cases e; exact ⟨a, rfl, h1, h2, h3, h4⟩
          subst hrb
          have hcell2 : w3.cell? (b.add i) = some (.int .i64 ih) := by rw [HO3.out.cell (p := b.add i) (World.block_lt_of_cell? _ _ (hcl2 i ih hig).1) (by rw [addB]; exact hbx)]; exact (hcl2 i ih hig).1
          have HI64 : Hid (I64 ih) := (hcl2 i ih hig).2
          have HNE : Hid (hs ≠ []) := fun e => by rw [e] at hih; exact absurd hih (Nat.not_lt_zero _)
          have HIG : Hid (hs[i]? = some ih) := hig
          clear hih hig hcl2 hbx
          by_cases hz : ih = 0
          · subst hz
            have HFN : Hid (fl1 = flN l hs fl fs (i + 1)) := by unfold Hid; rw [flN_0 (.inr HIG.out), HFL.out]
            rw [HFN.out] at HS3
            rcases hec with rfl | rfl
            all_goals
              go_wp2_with fail
              exact ⟨⟨i + 1, rfl, ⟨HI2.out.1, HI2.out.2⟩, k1, HS3.out, (fun e => absurd e HNE.out), HO3.out⟩, pl_meas HI2.out.1⟩
          · have hz2 : (ih == 0) = false := by simpa using hz
            have HFN : Hid (flN l hs fl fs (i + 1) = plF (l.take (i + 1)) fs) := flN_1 HIG.out hz
            rcases hec with rfl | rfl
            all_goals
              go_wp2_with fail
              refine (worked_s HE hA HS3 ih HI64).mono ?_
              rintro e w4 ⟨v4, k4, bg4, rfl, g4⟩
              have HS4 : Hid (ShS E w0 w4 x (plF (l.take (i + 1)) fs) (plF (l.take (i + 1)) fs) k4) := g4.out.1
              have HO4 : Hid (Only x w w4) := HO3.out.trans g4.out.2.2.1
              clear g4
              go_wp2_with fail
              exact ⟨⟨i + 1, rfl, ⟨HI2.out.1, HI2.out.2⟩, k4, (by rw [HFN.out]; exact HS4.out), (fun e => absurd e HNE.out), HO4.out⟩, pl_meas HI2.out.1⟩
        · have hihi := ge_c hih
          have HFN : Hid (fl1 = flN l hs fl fs (i + 1)) := by unfold Hid; rw [flN_0 (.inl (List.getElem?_eq_none (Nat.le_of_not_lt hih))), HFL.out]
          rw [HFN.out] at HS3
          clear hih
          rcases hec with rfl | rfl
          all_goals
            go_wp2_with fail
            exact ⟨⟨i + 1, rfl, ⟨HI2.out.1, HI2.out.2⟩, k1, HS3.out, HNL.out, HO3.out⟩, pl_meas HI2.out.1⟩
      · have hii := lt_c hi
        have hge : ¬ (i : Int) < 20 := ge_c (n := 20) hi2
        have HF : Hid (∃ k', ShS E w0 wr x (flN l hs fl fs (min 20 l.length)) (plF (l.take 20) fs) k' ∧ (hs = [] → k' = k) ∧ Only x w wr) := by
          have h := HP.out.ex
          rw [Nat.le_antisymm HI.out.1 (Nat.le_of_not_lt hi2)] at h
          unfold Hid
          rw [Nat.min_eq_left (by have := HI.out; omega)]
          exact h
        clear hi hi2 HI HP
        go_wp2_with fail
        go_ret
        exact ⟨rfl, HF⟩
    · have hge := ge_c hi
      have HF : Hid (∃ k', ShS E w0 wr x (flN l hs fl fs (min 20 l.length)) (plF (l.take 20) fs) k' ∧ (hs = [] → k' = k) ∧ Only x w wr) := by
        have h := HP.out.ex
        have e : l.take i = l.take 20 := by
          rw [List.take_of_length_le (Nat.le_of_not_lt hi), List.take_of_length_le (Nat.le_trans (Nat.le_of_not_lt hi) HI.out.1)]
        rw [e] at h
        unfold Hid
        rw [Nat.min_eq_right (by have := HI.out; omega), show l.length = i by have := HI.out; omega]
        exact h
      clear hi HI HP
      go_wp2_with fail
      go_ret
      exact ⟨rfl, HF⟩
end Go.Proofs.YtlpmmmmniojflaaGreatDoor
