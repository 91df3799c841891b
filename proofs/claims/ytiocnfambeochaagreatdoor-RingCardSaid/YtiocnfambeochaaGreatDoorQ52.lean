/- Texts put together. -/
import Derived.Test.YtiocnfambeochaaGreatDoorQ51
import Derived.Test.YtiocnfambeochaaGreatDoorCards
import Derived.Test.YtiocnfambeochaaGreatDoorTie
import Derived.ProofKit
import Derived.OpenShut
import Derived.ShutString
import Derived.Deep.DeepHandedRow
import Derived.Lib.LaidTab
import Derived.Lay
/- The statement Ring, walked. -/
set_option linter.unusedVariables false
set_option linter.unusedSimpArgs false
namespace Go.Proofs.YtiocnfambeochaaGreatDoor
open Go.RowKit

theorem nx_txt {j : Nat} (h : j < 8) : nA j ++ (⟨#[32, 43, 32, 49]⟩ : ByteArray) = tNx j := by
  rcases eight h with rfl | rfl | rfl | rfl | rfl | rfl | rfl | rfl <;> kernel_rfl
def tB0 (j : Nat) : ByteArray := ⟨#[98, 97, 100, 40, 65, UInt8.ofNat (49 + j)]⟩
theorem bd_txt {j : Nat} (h : j < 8) : (⟨#[98, 97, 100, 40]⟩ : ByteArray) ++ nA j = tB0 j ∧ tB0 j ++ (⟨#[41]⟩ : ByteArray) = tBd j := by
  rcases eight h with rfl | rfl | rfl | rfl | rfl | rfl | rfl | rfl <;> exact ⟨by kernel_rfl, by kernel_rfl⟩
theorem ten_txt : nT 10 = ⟨#[49, 48]⟩ := by
  show (⟨(Lib.decDigits 10).toArray⟩ : ByteArray) = _
  rw [dec_dg3 (by omega)]; rfl
theorem rem_nat (a b : Nat) : ((a : Int) + 1).tmod (b : Int) = (((a + 1) % b : Nat) : Int) := rfl
/-- Numbers of a place in the ring. -/
structure NumR (n p j z : Nat) : Prop where
  a1 : IntKind.i64.wrap ((p : Int) - j) = (p : Int) - j
  a2 : wrap64 ((p : Int) - j) = (p : Int) - j
  b1 : IntKind.i64.wrap ((p : Int) - j + n) = (p : Int) - j + n
  b2 : wrap64 ((p : Int) - j + n) = (p : Int) - j + n
  c1 : ((p : Int) - j + n).tmod (n : Int) = (z : Int)
  e1 : IntKind.i64.wrap (10 + (z : Int)) = 10 + (z : Int)
  e2 : wrap64 (10 + (z : Int)) = 10 + (z : Int)
  f1 : IntKind.i64.wrap (z : Int) = (z : Int)
  f2 : wrap64 (z : Int) = (z : Int)
theorem numR {n p j z : Nat} (hn : n ≤ 7) (hp : p < n) (hj : j < n) (hz : (p + n - j) % n = z) : NumR n p j z := by
  have hz7 : z < n := by rw [← hz]; exact Nat.mod_lt _ (by omega)
  have e : (p : Int) - j + n = ((p + n - j : Nat) : Int) := by omega
  refine ⟨by rw [IntKind.wrap_i64]; omega, by unfold wrap64; omega, by rw [IntKind.wrap_i64]; omega, by unfold wrap64; omega, ?_, by rw [IntKind.wrap_i64]; omega, by unfold wrap64; omega, by rw [IntKind.wrap_i64]; omega, by unfold wrap64; omega⟩
  rw [e, ← hz]; rfl
theorem rg_dist2 {n at' : Nat} {E : Env} {val : Nat → V} (hE : EnvOK E) (hn7 : n ≤ 7) (ha : at' < n) (hv : ∀ c, Val E.D (rgF n at' true) c (val c)) (d i : Nat) (hi : i < n) (hd : (at' + n - i) % n = d) : val (6 * i) = vI (10 + (d : Int)) := by
  rw [rg_dist hE hn7 ha hv d i hi hd]; rfl
/-- The sheet ahead of a turn. -/
def RgT (n p : Nat) (t : Int) (fs : Nat → ByteArray) : Prop := (t = 0 ∧ fs = rgF n p false) ∨ (t = 1 ∧ fs = rgF n p false) ∨ (t = 2 ∧ fs = rgF n p true) ∨ (t = 3 ∧ fs = rgF n p false)
set_option maxRecDepth 100000 in
set_option maxHeartbeats 16000000 in
theorem ring_w (n0 p0 f1 f2 f3 store : Int) (hn : Hid (I64 n0)) (hp : Hid (I64 p0)) (h1 : Hid (I64 f1)) (h2 : Hid (I64 f2)) (h3 : Hid (I64 f3)) (hs : I64 store) (w : World) (hA : Hid (Amb w)) :
    Calls Tryz.prog 9 #[.int .i64 n0, .int .i64 p0, .int .i64 f1, .int .i64 f2, .int .i64 f3, .int .i64 store] w fun e w' => e = .returned (.bool true) ∧ Below w.heap.size w w' := by
  obtain ⟨E, hE⟩ := env_ex
  have HE : Hid (EnvOK E) := hE
  have HS : Hid (I64 store) := hs
  obtain ⟨n, hn'⟩ : ∃ n, 1 + pk n0 7 = n := ⟨_, rfl⟩
  obtain ⟨p, hp'⟩ : ∃ p, pk p0 n = p := ⟨_, rfl⟩
  have HN1 : Hid (0 < n ∧ n ≤ 7) := by have := pk_lt n0 (n := 7) (by omega); exact ⟨by omega, by omega⟩
  have HP : Hid (pk p0 n = p) := hp'
  have HN0 : Hid (¬ n = 0 ∧ ¬ (n : Int) = 0) := by have := HN1.out; exact ⟨by omega, by omega⟩
  have HP1 : Hid (p < n) := by unfold Hid; rw [← hp']; exact pk_lt p0 HN1.out.1
  have hw1 : IntKind.i64.wrap (1 + ((pk n0 7 : Nat) : Int)) = (n : Int) := by rw [IntKind.wrap_i64]; have := HN1.out; omega
  have hw2 : wrap64 (1 + ((pk n0 7 : Nat) : Int)) = (n : Int) := by unfold wrap64; have := HN1.out; omega
  have HP7 : Hid (p < 8) := by have := HN1.out; have := HP1.out; unfold Hid; omega
  obtain ⟨q1, q2, q3, q4, q5, q6⟩ := num7 HP7.out
  obtain ⟨hb1, hb2⟩ := bd_txt HP7.out
  have hb3 : (tB0 p).size = 6 := rfl
  have hb4 : (nA p).size = 2 := rfl
  clear hE hs hn' hp'
  go_enter Tryz.func9, Tryz.ntmps9
  go_wp2_with fail
  refine (begin_s E store HS.out w w (Below.refl _ _)).mono ?_
  rintro e w1 ⟨x, rfl, g1⟩
  have H1 : Hid (ShS E w w1 x fs0 fs0 (k0 (pk store 65))) := g1.out.1
  clear g1
  generalize k0 (pk store 65) = k at *
  go_wp2_with fail
  refine (pick_any n0 7 hn.out (by omega) (by omega) _).mono ?_
  rintro e w2 ⟨rfl, rfl⟩
  go_wp2_with fail
  refine (pick_any p0 n hp.out HN1.out.1 (by have := HN1.out; omega) _).mono ?_
  rintro e w2 ⟨rfl, rfl⟩
  rw [HP.out]
  go_wp2_with fail
  refine (name_w HP7.out _).mono ?_
  rintro e w2 ⟨rfl, g2⟩
  have H2 : Hid (ShS E w w2 x fs0 fs0 k) := H1.out.below g2
  clear g2 H1
  go_wp2_with fail
  refine (set_s hA H2 (t := tBd p) (txt_bd (by have := HN1.out; have := HP1.out; omega)) (c := 5) (by unfold Hid; decide)).mono ?_
  rintro e w3 ⟨rfl, g3⟩
  have H3 := g3.out.1
  have H3 : Hid _ := H3
  clear g3 H2
  go_wp2_with fail
  refine (set_s hA H3 (t := tF2) txt_f2 (c := 11) (by unfold Hid; decide)).mono ?_
  rintro e w4 ⟨rfl, g4⟩
  have H4 := g4.out.1
  have H4 : Hid _ := H4
  clear g4 H3
  go_wp2_with fail
  refine (set_s hA H4 (t := tF3) txt_f3 (c := 17) (by unfold Hid; decide)).mono ?_
  rintro e w5 ⟨rfl, g5⟩
  have H5 := g5.out.1
  have H5 : Hid _ := H5
  clear g5 H4
  go_wp2_with fail
  refine (set_s hA H5 (t := tF4) txt_f4 (c := 23) (by unfold Hid; decide)).mono ?_
  rintro e w6 ⟨rfl, g6⟩
  have H6 : Hid (ShS E w w6 x fs0 (rgP n p 0) k) := by have h := g6.out.1; rw [rgP_start (n := n)] at h; exact h
  clear g6 H5 hw1 hw2 hb1 hb2 hb3
  go_wp2_with fail
  go_loopw [15, 16] (fun u s wr => u = .bool true ∧ ∃ i : Nat, s = .int .i64 i ∧ Hid (i ≤ n) ∧ Hid (ShS E w wr x fs0 (rgP n p i) k)) (fun _ s _ => (100 - intOf s).toNat)
  case atStart => exact ⟨rfl, 0, rfl, Nat.zero_le _, H6⟩
  case round =>
    obtain ⟨rfl, i, rfl, HI, HH⟩ := hrel
    by_cases hi : i < n
    · have HII : Hid (i < n) := hi
      have HI7 : Hid (i < 8) := by have := HN1.out; unfold Hid; omega
      obtain ⟨m, hm⟩ : ∃ m, (i + 1) % n = m := ⟨_, rfl⟩
      have HM : Hid ((i + 1) % n = m) := hm
      have HM6 : Hid (m < 7) := by have := HN1.out; have := Nat.mod_lt (i + 1) HN1.out.1; unfold Hid; omega
      have HM7 : Hid (m < 8) := Nat.lt_succ_of_lt HM6.out
      have hr : ((i : Int) + 1).tmod (n : Int) = (m : Int) := by rw [← hm]; exact rem_nat i n
      obtain ⟨hn1, hn0⟩ := HN0.out
      have hii : (i : Int) < (n : Int) := by omega
      obtain ⟨i1, i2, i3, i4, i5, i6⟩ := num7 HI7.out
      obtain ⟨m1, m2, m3, m4, m5, m6⟩ := num7 HM7.out
      have hsz : (nA m).size = 2 := rfl
      have hcat := nx_txt HM7.out
      clear hi hm HI
      go_wp2_with fail
      refine wp_region_held (S := fun _ : World => True) (by kernel_rfl) ?_
      refine wpAnyH_take (i := 0) (v := .bool true) rfl (by kernel_rfl) (by kernel_rfl) (by kernel_rfl) (fun _ _ _ h => h) (Or.inl ⟨by rfl, fun w hSw => by go_simp⟩) trivial ?_
      (try simp only [Act.put, List.setIfInBounds_toArray, List.set_cons_zero, List.set_cons_succ, List.getElem_toArray, List.getElem_cons_zero, List.getElem_cons_succ])
      refine wpAnyH_take (i := 1) (v := .bool true) rfl (by kernel_rfl) (by kernel_rfl) (by kernel_rfl) (fun _ _ _ h => h) (Or.inl ⟨by rfl, fun w hSw => by go_simp⟩) trivial ?_
      (try simp only [Act.put, List.setIfInBounds_toArray, List.set_cons_zero, List.set_cons_succ, List.getElem_toArray, List.getElem_cons_zero, List.getElem_cons_succ])
      refine wpAnyH_take (i := 2) (v := .pointer (some ⟨x, 0, none⟩)) rfl (by kernel_rfl) (by kernel_rfl) (by kernel_rfl) (fun _ _ _ h => h) (Or.inl ⟨by rfl, fun w hSw => by go_simp⟩) trivial ?_
      (try simp only [Act.put, List.setIfInBounds_toArray, List.set_cons_zero, List.set_cons_succ, List.getElem_toArray, List.getElem_cons_zero, List.getElem_cons_succ])
      refine wpAnyH_take (i := 3) (v := .int .i64 i) rfl (by kernel_rfl) (by kernel_rfl) (by kernel_rfl) (fun _ _ _ h => h) (Or.inl ⟨by rfl, fun w hSw => by go_simp⟩) trivial ?_
      (try simp only [Act.put, List.setIfInBounds_toArray, List.set_cons_zero, List.set_cons_succ, List.getElem_toArray, List.getElem_cons_zero, List.getElem_cons_succ])
      refine wpAnyH_take (i := 4) (v := .int .i64 (6 * (i : Int))) rfl (by kernel_rfl) (by kernel_rfl) (by kernel_rfl) (fun _ _ _ h => h) (Or.inl ⟨by rfl, fun w hSw => by go_simp⟩) trivial ?_
      (try simp only [Act.put, List.setIfInBounds_toArray, List.set_cons_zero, List.set_cons_succ, List.getElem_toArray, List.getElem_cons_zero, List.getElem_cons_succ])
      refine wpAnyH_take (i := 6) (v := .int .i64 i) rfl (by kernel_rfl) (by kernel_rfl) (by kernel_rfl) (fun _ _ _ h => h) (Or.inl ⟨by rfl, fun w hSw => by go_simp⟩) trivial ?_
      (try simp only [Act.put, List.setIfInBounds_toArray, List.set_cons_zero, List.set_cons_succ, List.getElem_toArray, List.getElem_cons_zero, List.getElem_cons_succ])
      refine wpAnyH_take (i := 7) (v := .int .i64 ((i : Int) + 1)) rfl (by kernel_rfl) (by kernel_rfl) (by kernel_rfl) (fun _ _ _ h => h) (Or.inl ⟨by rfl, fun w hSw => by go_simp⟩) trivial ?_
      (try simp only [Act.put, List.setIfInBounds_toArray, List.set_cons_zero, List.set_cons_succ, List.getElem_toArray, List.getElem_cons_zero, List.getElem_cons_succ])
      refine wpAnyH_take (i := 8) (v := .int .i64 n) rfl (by kernel_rfl) (by kernel_rfl) (by kernel_rfl) (fun _ _ _ h => h) (Or.inl ⟨by rfl, fun w hSw => by go_simp⟩) trivial ?_
      (try simp only [Act.put, List.setIfInBounds_toArray, List.set_cons_zero, List.set_cons_succ, List.getElem_toArray, List.getElem_cons_zero, List.getElem_cons_succ])
      refine wpAnyH_take (i := 9) (v := .int .i64 m) rfl (by kernel_rfl) (by kernel_rfl) (by kernel_rfl) (fun _ _ _ h => h) (Or.inl ⟨by rfl, fun w hSw => by go_simp⟩) trivial ?_
      (try simp only [Act.put, List.setIfInBounds_toArray, List.set_cons_zero, List.set_cons_succ, List.getElem_toArray, List.getElem_cons_zero, List.getElem_cons_succ])
      refine wpAnyH_take (i := 10) (v := .int .i64 (6 * (m : Int))) rfl (by kernel_rfl) (by kernel_rfl) (by kernel_rfl) (fun _ _ _ h => h) (Or.inl ⟨by rfl, fun w hSw => by go_simp⟩) trivial ?_
      (try simp only [Act.put, List.setIfInBounds_toArray, List.set_cons_zero, List.set_cons_succ, List.getElem_toArray, List.getElem_cons_zero, List.getElem_cons_succ])
      refine wpAnyH_ready (rs := [5]) (by kernel_rfl) (by simp) ?_
      refine AllReadyH.cons rfl (fun K hK => ?_) AllReadyH.nil
      go_simp
      refine (name_w HI7.out _).mono ?_
      rintro e u1 ⟨rfl, b1⟩
      have HHa : Hid (ShS E w u1 x fs0 (rgP n p i) k) := (HH.out.below ((Below.refl _ _).drew)).below b1
      clear b1 HH
      refine hK.out _ _ trivial (fun _ => ?_)
      clear hK K
      (try simp only [Act.put, List.setIfInBounds_toArray, List.set_cons_zero, List.set_cons_succ, List.getElem_toArray, List.getElem_cons_zero, List.getElem_cons_succ])
      refine wpAnyH_ready (rs := [11]) (by kernel_rfl) (by simp) ?_
      refine AllReadyH.cons rfl (fun K hK => ?_) AllReadyH.nil
      go_simp
      refine (name_w HM7.out _).mono ?_
      rintro e u2 ⟨rfl, b2⟩
      have HHb : Hid (ShS E w u2 x fs0 (rgP n p i) k) := HHa.out.below b2
      clear b2 HHa
      refine hK.out _ _ trivial (fun _ => ?_)
      clear hK K
      (try simp only [Act.put, List.setIfInBounds_toArray, List.set_cons_zero, List.set_cons_succ, List.getElem_toArray, List.getElem_cons_zero, List.getElem_cons_succ])
      refine wpAnyH_take (i := 12) (v := .string (tNx m)) rfl (by kernel_rfl) (by kernel_rfl) (by kernel_rfl) (fun _ _ _ h => h) (Or.inl ⟨by rfl, fun w hSw => by go_simp⟩) trivial ?_
      (try simp only [Act.put, List.setIfInBounds_toArray, List.set_cons_zero, List.set_cons_succ, List.getElem_toArray, List.getElem_cons_zero, List.getElem_cons_succ])
      refine wpAnyH_ready (rs := [13]) (by kernel_rfl) (by simp) ?_
      refine AllReadyH.cons rfl (fun K hK => ?_) AllReadyH.nil
      go_simp
      refine (set_s hA HHb (t := tNx m) (txt_nx HM6.out) (c := 6 * i) (nA_cell HI7.out)).mono ?_
      rintro e u3 ⟨rfl, b3⟩
      have HHc : Hid (ShS E w u3 x fs0 (rgP n p (i + 1)) k) := by have h := b3.out.1; rw [← HM.out, rgP_next] at h; exact h
      clear b3 HHb
      refine hK.out _ _ trivial (fun _ => ?_)
      clear hK K
      (try simp only [Act.put, List.setIfInBounds_toArray, List.set_cons_zero, List.set_cons_succ, List.getElem_toArray, List.getElem_cons_zero, List.getElem_cons_succ])
      refine wpAnyH_take (i := 14) (v := .bool true) rfl (by kernel_rfl) (by kernel_rfl) (by kernel_rfl) (fun _ _ _ h => h) (Or.inl ⟨by rfl, fun w hSw => by go_simp⟩) trivial ?_
      (try simp only [Act.put, List.setIfInBounds_toArray, List.set_cons_zero, List.set_cons_succ, List.getElem_toArray, List.getElem_cons_zero, List.getElem_cons_succ])
      refine wpAnyH_take (i := 15) (v := .bool true) rfl (by kernel_rfl) (by kernel_rfl) (by kernel_rfl) (fun _ _ _ h => h) (Or.inl ⟨by rfl, fun w hSw => by go_simp⟩) trivial ?_
      (try simp only [Act.put, List.setIfInBounds_toArray, List.set_cons_zero, List.set_cons_succ, List.getElem_toArray, List.getElem_cons_zero, List.getElem_cons_succ])
      refine wpAnyH_done (by kernel_rfl) ?_ _
      go_wp2_with fail
      exact ⟨⟨rfl, i + 1, rfl, HII.out, HHc⟩, meas (Int.lt_succ _) (Int.le_trans (Int.add_le_add_right (Int.ofNat_le.2 (Nat.le_of_lt HI7.out)) 1) (by decide))⟩
    · have hge : ¬ (i : Int) < (n : Int) := by omega
      have HF : Hid (ShS E w wr x fs0 (rgF n p false) k) := by
        have h := HH.out
        rw [show i = n by have := HI.out; omega, rgP_end] at h
        exact h
      clear hi HI HH H6
      go_wp2_with fail
      go_loopw [15, 17] (fun u s wr => u = .bool true ∧ ∃ tn : Int, s = .int .i64 tn ∧ ∃ fl fs k, Hid (RgT n p tn fs) ∧ Hid (ShS E w wr x fl fs k)) (fun _ s _ => (100 - intOf s).toNat)
      case atStart => exact ⟨rfl, 0, rfl, _, _, _, .inl ⟨rfl, rfl⟩, HF⟩
      case round =>
        obtain ⟨rfl, tn, rfl, fl, fs, k2, HT, HH⟩ := hrel
        clear HF
        rcases HT.out with ⟨rfl, rfl⟩ | ⟨rfl, rfl⟩ | ⟨rfl, rfl⟩ | ⟨rfl, rfl⟩
        · clear HT
          go_wp2_with fail
          have H4 : Hid (ShS E w _ x fl (rgF n p false) k2) := HH
          refine (worked_s HE hA H4 f1 h1).mono ?_
          rintro e w5 ⟨v5, k5, bg5, rfl, g5⟩
          have H5 : Hid (ShS E w w5 x (rgF n p false) (rgF n p false) k5) := g5.out.1
          clear g5 H4
          go_wp2_with fail
          refine (is_v H5 (c := 11) (by unfold Hid; decide) 7 (rg_v11 HE.out H5.out.kinv.v)).mono ?_
          rintro e w6 ⟨rfl, H6⟩
          clear H5
          go_wp2_with fail
          refine (is_v H6 (c := 17) (by unfold Hid; decide) 8 (rg_v17 HE.out H6.out.kinv.v)).mono ?_
          rintro e w7 ⟨rfl, H7⟩
          clear H6
          go_wp2_with fail
          go_loopw [21] (fun u wr => ∃ j : Nat, u = .int .i64 j ∧ Hid (j ≤ n) ∧ Hid (ShS E w wr x (rgF n p false) (rgF n p false) k5)) (fun u _ => (100 - intOf u).toNat)
          case atStart => exact ⟨0, rfl, Nat.zero_le _, H7⟩
          case round =>
            obtain ⟨j, rfl, HJ, HQ⟩ := hrel
            clear H7
            by_cases hj : j < n
            · have HJJ : Hid (j < n) := hj
              have HJ7 : Hid (j < 8) := by have := HN1.out; unfold Hid; omega
              have hjj : (j : Int) < (n : Int) := by omega
              obtain ⟨j1, j2, j3, j4, j5, j6⟩ := num7 HJ7.out
              clear hj HJ
              go_wp2_with fail
              refine (name_w HJ7.out _).mono ?_
              rintro e w8 ⟨rfl, g8⟩
              have H8 : Hid (ShS E w w8 x (rgF n p false) (rgF n p false) k5) := HQ.out.below g8
              clear g8 HQ
              go_wp2_with fail
              refine (fails_v H8 (c := 6 * j) (nA_cell HJ7.out) 5 (rg_ring HE.out HN1.out.1 HN1.out.2 H8.out.kinv.v HJJ.out)).mono ?_
              rintro e w9 ⟨rfl, H9⟩
              clear H8
              go_wp2_with fail
              exact ⟨⟨j + 1, rfl, HJJ.out, H9⟩, meas (Int.lt_succ _) (Int.le_trans (Int.add_le_add_right (Int.ofNat_le.2 (Nat.le_of_lt HJ7.out)) 1) (by decide))⟩
            · have hge : ¬ (j : Int) < (n : Int) := by omega
              clear hj HJ
              go_wp2_with fail
              refine (val_v HQ (c := 5) (by unfold Hid; decide) 4 5 (rg_v5 HE.out HN1.out.1 HN1.out.2 HP1.out HQ.out.kinv.v)).mono ?_
              rintro e w14 ⟨rfl, g14⟩
              have H14 : Hid (ShS E w w14 x (rgF n p false) (rgF n p false) k5) := g14.out.1
              clear g14 HQ
              go_wp2_with fail
              obtain ⟨O, hO⟩ : ∃ O, Obj.cells #[.int .i64 4, .int .i64 5, .string ⟨#[]⟩] 52 = O := ⟨_, rfl⟩
              rw [hO]
              have H15 : Hid (ShS E w (w14.alloc O) x (rgF n p false) (rgF n p false) k5) := H14.out.below (bel_alloc w14 O)
              have HC : Hid ((w14.alloc O).cell? ⟨w14.heap.size, 0, none⟩ = some (.int .i64 4) ∧ (w14.alloc O).cell? ⟨w14.heap.size, 1, none⟩ = some (.int .i64 5)) := by rw [← hO]; exact ⟨by simp, by simp⟩
              clear hO
              refine (val_v H15 (c := 23) (by unfold Hid; decide) 4 5 (rg_v23 HE.out HN1.out.1 HN1.out.2 HP1.out H15.out.kinv.v)).mono ?_
              rintro e w15 ⟨rfl, g15⟩
              have HZZ : Hid (ShS E w w15 x (rgF n p false) (rgF n p false) k5) := g15.out.1
              have hc0 : ∀ o, (w15.alloc o).cell? ⟨w14.heap.size, 0, none⟩ = some (.int .i64 4) := old_cell g15.out.2 HC.out.1
              have hc1 : ∀ o, (w15.alloc o).cell? ⟨w14.heap.size, 1, none⟩ = some (.int .i64 5) := old_cell g15.out.2 HC.out.2
              clear g15 HC
              go_wp2_with fail
              exact ⟨⟨rfl, 1, rfl, _, _, _, .inr (.inl ⟨rfl, rfl⟩), HZZ.out.below (bel_alloc w15 _)⟩, by decide⟩
        · clear HT
          go_wp2_with fail
          refine (name_w HP7.out _).mono ?_
          rintro e w2 ⟨rfl, g2⟩
          have H2 : Hid (ShS E w w2 x fl (rgF n p false) k2) := HH.out.below g2
          clear g2 HH
          go_wp2_with fail
          rw [← ten_txt]
          refine (set_s hA H2 (t := nT 10) (txt_num (by omega)) (c := 6 * p) (nA_cell HP7.out)).mono ?_
          rintro e w3 ⟨rfl, g3⟩
          have H4 : Hid (ShS E w w3 x fl (rgF n p true) k2) := by have h := g3.out.1; rw [rg_break HP1.out] at h; exact h
          clear g3 H2
          go_wp2_with fail
          refine (worked_s HE hA H4 f2 h2).mono ?_
          rintro e w5 ⟨v5, k5, bg5, rfl, g5⟩
          have H5 : Hid (ShS E w w5 x (rgF n p true) (rgF n p true) k5) := g5.out.1
          clear g5 H4
          go_wp2_with fail
          refine (is_v H5 (c := 11) (by unfold Hid; decide) 7 (rg_v11 HE.out H5.out.kinv.v)).mono ?_
          rintro e w6 ⟨rfl, H6⟩
          clear H5
          go_wp2_with fail
          refine (is_v H6 (c := 17) (by unfold Hid; decide) 8 (rg_v17 HE.out H6.out.kinv.v)).mono ?_
          rintro e w7 ⟨rfl, H7⟩
          clear H6
          go_wp2_with fail
          go_loopw [21] (fun u wr => ∃ j : Nat, u = .int .i64 j ∧ Hid (j ≤ n) ∧ Hid (ShS E w wr x (rgF n p true) (rgF n p true) k5)) (fun u _ => (100 - intOf u).toNat)
          case atStart => exact ⟨0, rfl, Nat.zero_le _, H7⟩
          case round =>
            obtain ⟨j, rfl, HJ, HQ⟩ := hrel
            clear H7
            by_cases hj : j < n
            · have HJJ : Hid (j < n) := hj
              have HJ7 : Hid (j < 8) := by have := HN1.out; unfold Hid; omega
              have hjj : (j : Int) < (n : Int) := by omega
              obtain ⟨j1, j2, j3, j4, j5, j6⟩ := num7 HJ7.out
              obtain ⟨z, hz⟩ : ∃ z, (p + n - j) % n = z := ⟨_, rfl⟩
              have HZ : Hid ((p + n - j) % n = z) := hz
              obtain ⟨z1, z2, z3, z4, z5, z6, z7, z8, z9⟩ := numR HN1.out.2 HP1.out hj hz
              obtain ⟨hn1, hn0⟩ := HN0.out
              clear hz
              clear hj HJ
              go_wp2_with fail
              refine (name_w HJ7.out _).mono ?_
              rintro e w8 ⟨rfl, g8⟩
              have H8 : Hid (ShS E w w8 x (rgF n p true) (rgF n p true) k5) := HQ.out.below g8
              clear g8 HQ
              go_wp2_with fail
              refine (fails_b H8 (c := 6 * j) (nA_cell HJ7.out) 5 (10 + z : Nat) (rg_dist HE.out HN1.out.2 HP1.out H8.out.kinv.v z j HJJ.out HZ.out)).mono ?_
              rintro e w9 ⟨rfl, H9⟩
              clear H8
              go_wp2_with fail
              refine wp_region_held (S := fun _ : World => True) (by kernel_rfl) ?_
              refine wpAnyH_take (i := 0) (v := .pointer (some ⟨x, 0, none⟩)) rfl (by kernel_rfl) (by kernel_rfl) (by kernel_rfl) (fun _ _ _ h => h) (Or.inl ⟨by rfl, fun w hSw => by go_simp⟩) trivial ?_
              (try simp only [Act.put, List.setIfInBounds_toArray, List.set_cons_zero, List.set_cons_succ, List.getElem_toArray, List.getElem_cons_zero, List.getElem_cons_succ])
              refine wpAnyH_take (i := 1) (v := .int .i64 j) rfl (by kernel_rfl) (by kernel_rfl) (by kernel_rfl) (fun _ _ _ h => h) (Or.inl ⟨by rfl, fun w hSw => by go_simp⟩) trivial ?_
              (try simp only [Act.put, List.setIfInBounds_toArray, List.set_cons_zero, List.set_cons_succ, List.getElem_toArray, List.getElem_cons_zero, List.getElem_cons_succ])
              refine wpAnyH_take (i := 2) (v := .int .i64 (6 * (j : Int))) rfl (by kernel_rfl) (by kernel_rfl) (by kernel_rfl) (fun _ _ _ h => h) (Or.inl ⟨by rfl, fun w hSw => by go_simp⟩) trivial ?_
              (try simp only [Act.put, List.setIfInBounds_toArray, List.set_cons_zero, List.set_cons_succ, List.getElem_toArray, List.getElem_cons_zero, List.getElem_cons_succ])
              refine wpAnyH_take (i := 4) (v := .int .i64 p) rfl (by kernel_rfl) (by kernel_rfl) (by kernel_rfl) (fun _ _ _ h => h) (Or.inl ⟨by rfl, fun w hSw => by go_simp⟩) trivial ?_
              (try simp only [Act.put, List.setIfInBounds_toArray, List.set_cons_zero, List.set_cons_succ, List.getElem_toArray, List.getElem_cons_zero, List.getElem_cons_succ])
              refine wpAnyH_take (i := 5) (v := .int .i64 j) rfl (by kernel_rfl) (by kernel_rfl) (by kernel_rfl) (fun _ _ _ h => h) (Or.inl ⟨by rfl, fun w hSw => by go_simp⟩) trivial ?_
              (try simp only [Act.put, List.setIfInBounds_toArray, List.set_cons_zero, List.set_cons_succ, List.getElem_toArray, List.getElem_cons_zero, List.getElem_cons_succ])
              refine wpAnyH_take (i := 6) (v := .int .i64 ((p : Int) - j)) rfl (by kernel_rfl) (by kernel_rfl) (by kernel_rfl) (fun _ _ _ h => h) (Or.inl ⟨by rfl, fun w hSw => by go_simp⟩) trivial ?_
              (try simp only [Act.put, List.setIfInBounds_toArray, List.set_cons_zero, List.set_cons_succ, List.getElem_toArray, List.getElem_cons_zero, List.getElem_cons_succ])
              refine wpAnyH_take (i := 7) (v := .int .i64 n) rfl (by kernel_rfl) (by kernel_rfl) (by kernel_rfl) (fun _ _ _ h => h) (Or.inl ⟨by rfl, fun w hSw => by go_simp⟩) trivial ?_
              (try simp only [Act.put, List.setIfInBounds_toArray, List.set_cons_zero, List.set_cons_succ, List.getElem_toArray, List.getElem_cons_zero, List.getElem_cons_succ])
              refine wpAnyH_take (i := 8) (v := .int .i64 ((p : Int) - j + n)) rfl (by kernel_rfl) (by kernel_rfl) (by kernel_rfl) (fun _ _ _ h => h) (Or.inl ⟨by rfl, fun w hSw => by go_simp⟩) trivial ?_
              (try simp only [Act.put, List.setIfInBounds_toArray, List.set_cons_zero, List.set_cons_succ, List.getElem_toArray, List.getElem_cons_zero, List.getElem_cons_succ])
              refine wpAnyH_take (i := 9) (v := .int .i64 n) rfl (by kernel_rfl) (by kernel_rfl) (by kernel_rfl) (fun _ _ _ h => h) (Or.inl ⟨by rfl, fun w hSw => by go_simp⟩) trivial ?_
              (try simp only [Act.put, List.setIfInBounds_toArray, List.set_cons_zero, List.set_cons_succ, List.getElem_toArray, List.getElem_cons_zero, List.getElem_cons_succ])
              refine wpAnyH_take (i := 10) (v := .int .i64 z) rfl (by kernel_rfl) (by kernel_rfl) (by kernel_rfl) (fun _ _ _ h => h) (Or.inl ⟨by rfl, fun w hSw => by go_simp⟩) trivial ?_
              (try simp only [Act.put, List.setIfInBounds_toArray, List.set_cons_zero, List.set_cons_succ, List.getElem_toArray, List.getElem_cons_zero, List.getElem_cons_succ])
              refine wpAnyH_take (i := 11) (v := .int .i64 (10 + (z : Int))) rfl (by kernel_rfl) (by kernel_rfl) (by kernel_rfl) (fun _ _ _ h => h) (Or.inl ⟨by rfl, fun w hSw => by go_simp⟩) trivial ?_
              (try simp only [Act.put, List.setIfInBounds_toArray, List.set_cons_zero, List.set_cons_succ, List.getElem_toArray, List.getElem_cons_zero, List.getElem_cons_succ])
              refine wpAnyH_ready (rs := [3]) (by kernel_rfl) (by simp) ?_
              refine AllReadyH.cons rfl (fun K hK => ?_) AllReadyH.nil
              go_simp
              refine (name_w HJ7.out _).mono ?_
              rintro e u1 ⟨rfl, b1⟩
              have HHa : Hid (ShS E w u1 x (rgF n p true) (rgF n p true) k5) := (H9.out.below ((Below.refl _ _).drew)).below b1
              clear b1 H9
              refine hK.out _ _ trivial (fun _ => ?_)
              clear hK K
              (try simp only [Act.put, List.setIfInBounds_toArray, List.set_cons_zero, List.set_cons_succ, List.getElem_toArray, List.getElem_cons_zero, List.getElem_cons_succ])
              refine wpAnyH_ready (rs := [12]) (by kernel_rfl) (by simp) ?_
              refine AllReadyH.cons rfl (fun K hK => ?_) AllReadyH.nil
              go_simp
              refine (is_v HHa (c := 6 * j) (nA_cell HJ7.out) (10 + (z : Int)) (rg_dist2 HE.out HN1.out.2 HP1.out HHa.out.kinv.v z j HJJ.out HZ.out)).mono ?_
              rintro e u2 ⟨rfl, HHb⟩
              clear HHa
              refine hK.out _ _ trivial (fun _ => ?_)
              clear hK K
              (try simp only [Act.put, List.setIfInBounds_toArray, List.set_cons_zero, List.set_cons_succ, List.getElem_toArray, List.getElem_cons_zero, List.getElem_cons_succ])
              refine wpAnyH_take (i := 13) (v := .bool true) rfl (by kernel_rfl) (by kernel_rfl) (by kernel_rfl) (fun _ _ _ h => h) (Or.inl ⟨by rfl, fun w hSw => by go_simp⟩) trivial ?_
              (try simp only [Act.put, List.setIfInBounds_toArray, List.set_cons_zero, List.set_cons_succ, List.getElem_toArray, List.getElem_cons_zero, List.getElem_cons_succ])
              refine wpAnyH_done (by kernel_rfl) ?_ _
              go_wp2_with fail
              exact ⟨⟨j + 1, rfl, HJJ.out, HHb⟩, meas (Int.lt_succ _) (Int.le_trans (Int.add_le_add_right (Int.ofNat_le.2 (Nat.le_of_lt HJ7.out)) 1) (by decide))⟩
            · have hge : ¬ (j : Int) < (n : Int) := by omega
              clear hj HJ
              go_wp2_with fail
              refine (val_v HQ (c := 5) (by unfold Hid; decide) 2 0 (rg_b5 HE.out HN1.out.2 HP1.out HQ.out.kinv.v)).mono ?_
              rintro e w14 ⟨rfl, g14⟩
              have H14 : Hid (ShS E w w14 x (rgF n p true) (rgF n p true) k5) := g14.out.1
              clear g14 HQ
              go_wp2_with fail
              obtain ⟨O, hO⟩ : ∃ O, Obj.cells #[.int .i64 2, .int .i64 0, .string ⟨#[]⟩] 52 = O := ⟨_, rfl⟩
              rw [hO]
              have H15 : Hid (ShS E w (w14.alloc O) x (rgF n p true) (rgF n p true) k5) := H14.out.below (bel_alloc w14 O)
              have HC : Hid ((w14.alloc O).cell? ⟨w14.heap.size, 0, none⟩ = some (.int .i64 2) ∧ (w14.alloc O).cell? ⟨w14.heap.size, 1, none⟩ = some (.int .i64 0)) := by rw [← hO]; exact ⟨by simp, by simp⟩
              clear hO
              refine (val_v H15 (c := 23) (by unfold Hid; decide) 4 4 (rg_b23 HE.out HN1.out.2 HP1.out H15.out.kinv.v)).mono ?_
              rintro e w15 ⟨rfl, g15⟩
              have HZZ : Hid (ShS E w w15 x (rgF n p true) (rgF n p true) k5) := g15.out.1
              have hc0 : ∀ o, (w15.alloc o).cell? ⟨w14.heap.size, 0, none⟩ = some (.int .i64 2) := old_cell g15.out.2 HC.out.1
              have hc1 : ∀ o, (w15.alloc o).cell? ⟨w14.heap.size, 1, none⟩ = some (.int .i64 0) := old_cell g15.out.2 HC.out.2
              clear g15 HC
              go_wp2_with fail
              exact ⟨⟨rfl, 2, rfl, _, _, _, .inr (.inr (.inl ⟨rfl, rfl⟩)), HZZ.out.below (bel_alloc w15 _)⟩, by decide⟩
        · clear HT
          obtain ⟨m, hm⟩ : ∃ m, (p + 1) % n = m := ⟨_, rfl⟩
          have HM : Hid ((p + 1) % n = m) := hm
          have HM6 : Hid (m < 7) := by have := HN1.out; have := Nat.mod_lt (p + 1) HN1.out.1; unfold Hid; omega
          have HM7 : Hid (m < 8) := Nat.lt_succ_of_lt HM6.out
          have hr : ((p : Int) + 1).tmod (n : Int) = (m : Int) := by rw [← hm]; exact rem_nat p n
          obtain ⟨hn1, hn0⟩ := HN0.out
          obtain ⟨m1, m2, m3, m4, m5, m6⟩ := num7 HM7.out
          have hsz : (nA m).size = 2 := rfl
          have hcat := nx_txt HM7.out
          clear hm
          go_wp2_with fail
          refine wp_region_held (S := fun _ : World => True) (by kernel_rfl) ?_
          refine wpAnyH_take (i := 0) (v := .pointer (some ⟨x, 0, none⟩)) rfl (by kernel_rfl) (by kernel_rfl) (by kernel_rfl) (fun _ _ _ h => h) (Or.inl ⟨by rfl, fun w hSw => by go_simp⟩) trivial ?_
          (try simp only [Act.put, List.setIfInBounds_toArray, List.set_cons_zero, List.set_cons_succ, List.getElem_toArray, List.getElem_cons_zero, List.getElem_cons_succ])
          refine wpAnyH_take (i := 1) (v := .int .i64 p) rfl (by kernel_rfl) (by kernel_rfl) (by kernel_rfl) (fun _ _ _ h => h) (Or.inl ⟨by rfl, fun w hSw => by go_simp⟩) trivial ?_
          (try simp only [Act.put, List.setIfInBounds_toArray, List.set_cons_zero, List.set_cons_succ, List.getElem_toArray, List.getElem_cons_zero, List.getElem_cons_succ])
          refine wpAnyH_take (i := 2) (v := .int .i64 (6 * (p : Int))) rfl (by kernel_rfl) (by kernel_rfl) (by kernel_rfl) (fun _ _ _ h => h) (Or.inl ⟨by rfl, fun w hSw => by go_simp⟩) trivial ?_
          (try simp only [Act.put, List.setIfInBounds_toArray, List.set_cons_zero, List.set_cons_succ, List.getElem_toArray, List.getElem_cons_zero, List.getElem_cons_succ])
          refine wpAnyH_take (i := 4) (v := .int .i64 p) rfl (by kernel_rfl) (by kernel_rfl) (by kernel_rfl) (fun _ _ _ h => h) (Or.inl ⟨by rfl, fun w hSw => by go_simp⟩) trivial ?_
          (try simp only [Act.put, List.setIfInBounds_toArray, List.set_cons_zero, List.set_cons_succ, List.getElem_toArray, List.getElem_cons_zero, List.getElem_cons_succ])
          refine wpAnyH_take (i := 5) (v := .int .i64 ((p : Int) + 1)) rfl (by kernel_rfl) (by kernel_rfl) (by kernel_rfl) (fun _ _ _ h => h) (Or.inl ⟨by rfl, fun w hSw => by go_simp⟩) trivial ?_
          (try simp only [Act.put, List.setIfInBounds_toArray, List.set_cons_zero, List.set_cons_succ, List.getElem_toArray, List.getElem_cons_zero, List.getElem_cons_succ])
          refine wpAnyH_take (i := 6) (v := .int .i64 n) rfl (by kernel_rfl) (by kernel_rfl) (by kernel_rfl) (fun _ _ _ h => h) (Or.inl ⟨by rfl, fun w hSw => by go_simp⟩) trivial ?_
          (try simp only [Act.put, List.setIfInBounds_toArray, List.set_cons_zero, List.set_cons_succ, List.getElem_toArray, List.getElem_cons_zero, List.getElem_cons_succ])
          refine wpAnyH_take (i := 7) (v := .int .i64 m) rfl (by kernel_rfl) (by kernel_rfl) (by kernel_rfl) (fun _ _ _ h => h) (Or.inl ⟨by rfl, fun w hSw => by go_simp⟩) trivial ?_
          (try simp only [Act.put, List.setIfInBounds_toArray, List.set_cons_zero, List.set_cons_succ, List.getElem_toArray, List.getElem_cons_zero, List.getElem_cons_succ])
          refine wpAnyH_take (i := 8) (v := .int .i64 (6 * (m : Int))) rfl (by kernel_rfl) (by kernel_rfl) (by kernel_rfl) (fun _ _ _ h => h) (Or.inl ⟨by rfl, fun w hSw => by go_simp⟩) trivial ?_
          (try simp only [Act.put, List.setIfInBounds_toArray, List.set_cons_zero, List.set_cons_succ, List.getElem_toArray, List.getElem_cons_zero, List.getElem_cons_succ])
          refine wpAnyH_ready (rs := [3]) (by kernel_rfl) (by simp) ?_
          refine AllReadyH.cons rfl (fun K hK => ?_) AllReadyH.nil
          go_simp
          refine (name_w HP7.out _).mono ?_
          rintro e u1 ⟨rfl, b1⟩
          have HHa : Hid (ShS E w u1 x fl (rgF n p true) k2) := (HH.out.below ((Below.refl _ _).drew)).below b1
          clear b1 HH
          refine hK.out _ _ trivial (fun _ => ?_)
          clear hK K
          (try simp only [Act.put, List.setIfInBounds_toArray, List.set_cons_zero, List.set_cons_succ, List.getElem_toArray, List.getElem_cons_zero, List.getElem_cons_succ])
          refine wpAnyH_ready (rs := [9]) (by kernel_rfl) (by simp) ?_
          refine AllReadyH.cons rfl (fun K hK => ?_) AllReadyH.nil
          go_simp
          refine (name_w HM7.out _).mono ?_
          rintro e u2 ⟨rfl, b2⟩
          have HHb : Hid (ShS E w u2 x fl (rgF n p true) k2) := HHa.out.below b2
          clear b2 HHa
          refine hK.out _ _ trivial (fun _ => ?_)
          clear hK K
          (try simp only [Act.put, List.setIfInBounds_toArray, List.set_cons_zero, List.set_cons_succ, List.getElem_toArray, List.getElem_cons_zero, List.getElem_cons_succ])
          refine wpAnyH_take (i := 10) (v := .string (tNx m)) rfl (by kernel_rfl) (by kernel_rfl) (by kernel_rfl) (fun _ _ _ h => h) (Or.inl ⟨by rfl, fun w hSw => by go_simp⟩) trivial ?_
          (try simp only [Act.put, List.setIfInBounds_toArray, List.set_cons_zero, List.set_cons_succ, List.getElem_toArray, List.getElem_cons_zero, List.getElem_cons_succ])
          refine wpAnyH_ready (rs := [11]) (by kernel_rfl) (by simp) ?_
          refine AllReadyH.cons rfl (fun K hK => ?_) AllReadyH.nil
          go_simp
          refine (set_s hA HHb (t := tNx m) (txt_nx HM6.out) (c := 6 * p) (nA_cell HP7.out)).mono ?_
          rintro e u3 ⟨rfl, b3⟩
          have H4 : Hid (ShS E w u3 x fl (rgF n p false) k2) := by have h := b3.out.1; rw [← HM.out, rg_close HP1.out] at h; exact h
          clear b3 HHb
          refine hK.out _ _ trivial (fun _ => ?_)
          clear hK K
          (try simp only [Act.put, List.setIfInBounds_toArray, List.set_cons_zero, List.set_cons_succ, List.getElem_toArray, List.getElem_cons_zero, List.getElem_cons_succ])
          refine wpAnyH_take (i := 12) (v := .bool true) rfl (by kernel_rfl) (by kernel_rfl) (by kernel_rfl) (fun _ _ _ h => h) (Or.inl ⟨by rfl, fun w hSw => by go_simp⟩) trivial ?_
          (try simp only [Act.put, List.setIfInBounds_toArray, List.set_cons_zero, List.set_cons_succ, List.getElem_toArray, List.getElem_cons_zero, List.getElem_cons_succ])
          refine wpAnyH_done (by kernel_rfl) ?_ _
          clear hr hn1 hn0 m1 m2 m3 m4 m5 m6 hsz hcat
          go_wp2_with fail
          refine (worked_s HE hA H4 f3 h3).mono ?_
          rintro e w5 ⟨v5, k5, bg5, rfl, g5⟩
          have H5 : Hid (ShS E w w5 x (rgF n p false) (rgF n p false) k5) := g5.out.1
          clear g5 H4
          go_wp2_with fail
          refine (is_v H5 (c := 11) (by unfold Hid; decide) 7 (rg_v11 HE.out H5.out.kinv.v)).mono ?_
          rintro e w6 ⟨rfl, H6⟩
          clear H5
          go_wp2_with fail
          refine (is_v H6 (c := 17) (by unfold Hid; decide) 8 (rg_v17 HE.out H6.out.kinv.v)).mono ?_
          rintro e w7 ⟨rfl, H7⟩
          clear H6
          go_wp2_with fail
          go_loopw [21] (fun u wr => ∃ j : Nat, u = .int .i64 j ∧ Hid (j ≤ n) ∧ Hid (ShS E w wr x (rgF n p false) (rgF n p false) k5)) (fun u _ => (100 - intOf u).toNat)
          case atStart => exact ⟨0, rfl, Nat.zero_le _, H7⟩
          case round =>
            obtain ⟨j, rfl, HJ, HQ⟩ := hrel
            clear H7
            by_cases hj : j < n
            · have HJJ : Hid (j < n) := hj
              have HJ7 : Hid (j < 8) := by have := HN1.out; unfold Hid; omega
              have hjj : (j : Int) < (n : Int) := by omega
              obtain ⟨j1, j2, j3, j4, j5, j6⟩ := num7 HJ7.out
              clear hj HJ
              go_wp2_with fail
              refine (name_w HJ7.out _).mono ?_
              rintro e w8 ⟨rfl, g8⟩
              have H8 : Hid (ShS E w w8 x (rgF n p false) (rgF n p false) k5) := HQ.out.below g8
              clear g8 HQ
              go_wp2_with fail
              refine (fails_v H8 (c := 6 * j) (nA_cell HJ7.out) 5 (rg_ring HE.out HN1.out.1 HN1.out.2 H8.out.kinv.v HJJ.out)).mono ?_
              rintro e w9 ⟨rfl, H9⟩
              clear H8
              go_wp2_with fail
              exact ⟨⟨j + 1, rfl, HJJ.out, H9⟩, meas (Int.lt_succ _) (Int.le_trans (Int.add_le_add_right (Int.ofNat_le.2 (Nat.le_of_lt HJ7.out)) 1) (by decide))⟩
            · have hge : ¬ (j : Int) < (n : Int) := by omega
              clear hj HJ
              go_wp2_with fail
              refine (val_v HQ (c := 5) (by unfold Hid; decide) 4 5 (rg_v5 HE.out HN1.out.1 HN1.out.2 HP1.out HQ.out.kinv.v)).mono ?_
              rintro e w14 ⟨rfl, g14⟩
              have H14 : Hid (ShS E w w14 x (rgF n p false) (rgF n p false) k5) := g14.out.1
              clear g14 HQ
              go_wp2_with fail
              obtain ⟨O, hO⟩ : ∃ O, Obj.cells #[.int .i64 4, .int .i64 5, .string ⟨#[]⟩] 52 = O := ⟨_, rfl⟩
              rw [hO]
              have H15 : Hid (ShS E w (w14.alloc O) x (rgF n p false) (rgF n p false) k5) := H14.out.below (bel_alloc w14 O)
              have HC : Hid ((w14.alloc O).cell? ⟨w14.heap.size, 0, none⟩ = some (.int .i64 4) ∧ (w14.alloc O).cell? ⟨w14.heap.size, 1, none⟩ = some (.int .i64 5)) := by rw [← hO]; exact ⟨by simp, by simp⟩
              clear hO
              refine (val_v H15 (c := 23) (by unfold Hid; decide) 4 5 (rg_v23 HE.out HN1.out.1 HN1.out.2 HP1.out H15.out.kinv.v)).mono ?_
              rintro e w15 ⟨rfl, g15⟩
              have HZZ : Hid (ShS E w w15 x (rgF n p false) (rgF n p false) k5) := g15.out.1
              have hc0 : ∀ o, (w15.alloc o).cell? ⟨w14.heap.size, 0, none⟩ = some (.int .i64 4) := old_cell g15.out.2 HC.out.1
              have hc1 : ∀ o, (w15.alloc o).cell? ⟨w14.heap.size, 1, none⟩ = some (.int .i64 5) := old_cell g15.out.2 HC.out.2
              clear g15 HC
              go_wp2_with fail
              exact ⟨⟨rfl, 3, rfl, _, _, _, .inr (.inr (.inr ⟨rfl, rfl⟩)), HZZ.out.below (bel_alloc w15 _)⟩, by decide⟩
        · clear HT
          go_wp2_with fail
          go_ret
          exact ⟨rfl, HH.out.bel⟩
end Go.Proofs.YtiocnfambeochaaGreatDoor

/- The closed cells of the row of Ring, one by one. -/
namespace Go.Proofs.YtiocnfambeochaaGreatDoor
theorem cf1 : (Rows.ringRow.inPlace == Tryz.prog.inPlace 9) = true := by kernel_rfl
theorem cf2 : (Rows.ringRow.unfollowed == Tryz.prog.unfollowed 9) = true := by kernel_rfl
theorem cf3 : (Rows.ringRow.recurses == Tryz.prog.recurses 9) = true := by kernel_rfl
theorem cf4 : (Rows.ringRow.named == Tryz.prog.varsNamed 9) = true := by kernel_rfl
theorem cf5 : laidOutB Tryz.prog = true := by kernel_rfl
theorem cf6 : mapsRowed Tryz.prog = true := by kernel_rfl
theorem ring_closed : joinedFacts Tryz.prog 9 Tryz.f9 (OpenSpec.ofChange Rows.ringSpec).bare Rows.ringRow = true := by
  unfold joinedFacts
  rw [cf1, cf2, cf3, cf4, cf5, cf6]
  kernel_rfl
end Go.Proofs.YtiocnfambeochaaGreatDoor
