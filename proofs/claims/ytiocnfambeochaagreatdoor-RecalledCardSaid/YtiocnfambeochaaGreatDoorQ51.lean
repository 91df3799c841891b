/- Texts put together. -/
import Derived.Test.YtiocnfambeochaaGreatDoorQ50
import Derived.Test.YtiocnfambeochaaGreatDoorCards
import Derived.Test.YtiocnfambeochaaGreatDoorTie
import Derived.ProofKit
import Derived.OpenShut
import Derived.ShutString
import Derived.Deep.DeepHandedRow
import Derived.Lib.LaidTab
import Derived.Lay
/- The statement Recalled, walked. -/
set_option linter.unusedVariables false
set_option linter.unusedSimpArgs false
namespace Go.Proofs.YtiocnfambeochaaGreatDoor
open Go.RowKit

def nF (i : Nat) : ByteArray := ⟨#[70, UInt8.ofNat (49 + i)]⟩
def tD1 (i : Nat) : ByteArray := ⟨#[UInt8.ofNat (48 + i)]⟩
def tD2 (i : Nat) : ByteArray := ⟨#[UInt8.ofNat (48 + i), 32, 43, 32]⟩
theorem nameF_w {j : Nat} (h : j < 8) (w : World) : Calls Tryz.prog 24 #[.int .i64 (6 * (j : Int) + 5)] w fun e w' => e = .returned (.string (nF j)) ∧ Below w.heap.size w w' := by
  have := name_any (6 * j + 5) (by omega) w
  rw [show ((6 * j + 5 : Nat) : Int) = 6 * (j : Int) + 5 by omega] at this
  refine this.mono ?_
  rintro e w' ⟨rfl, hb⟩
  refine ⟨?_, hb⟩
  unfold nmT nF
  rw [show (6 * j + 5) % 6 = 5 by omega, show (6 * j + 5) / 6 = j by omega]
  rfl
theorem nF_cell {j : Nat} (h : j < 8) : cellN (nF j).data.toList = some (6 * j + 5) := by
  rcases eight h with rfl | rfl | rfl | rfl | rfl | rfl | rfl | rfl <;> decide
theorem db_txt {j : Nat} (h : j < 8) : tD1 j ++ (⟨#[32, 43, 32]⟩ : ByteArray) = tD2 j ∧ tD2 j ++ tD1 j = tDb j := by
  rcases eight h with rfl | rfl | rfl | rfl | rfl | rfl | rfl | rfl <;> exact ⟨by kernel_rfl, by kernel_rfl⟩
theorem rc_txt {j : Nat} (h : j < 8) : nA j ++ (⟨#[32, 43, 32, 115, 117, 109, 40, 69, 49, 58, 70, 49, 41, 32, 43, 32, 49]⟩ : ByteArray) = tRc j := by
  rcases eight h with rfl | rfl | rfl | rfl | rfl | rfl | rfl | rfl <;> kernel_rfl
theorem num_w (n : Nat) (hn : n < 10000) (w : World) (hA : Amb w) : Calls Tryz.prog 23 #[.int .i64 n] w fun e w' => e = .returned (.string (nT n)) ∧ Below w.heap.size w w' := by
  have hA2 : Hid _ := hA
  go_enter Tryz.func23, Tryz.ntmps23
  go_wp2_with fail
  refine (Tryz.strconv_Itoa n (by omega) (by omega) _ hA2.out.2.1).mono ?_
  rintro e w1 ⟨rfl, k, os, rfl⟩
  go_wp2_with fail
  go_ret
  have e : Lib.itoa (n : Int) = Lib.decDigits n := by unfold Lib.itoa; rw [if_neg (by omega)]; simp
  rw [e]
  exact ⟨rfl, below_grow _ w (Nat.le_refl _) k os⟩
theorem num1_w {j : Nat} (h : j < 8) (w : World) (hA : Amb w) : Calls Tryz.prog 23 #[.int .i64 j] w fun e w' => e = .returned (.string (tD1 j)) ∧ Below w.heap.size w w' := by
  refine (num_w j (by omega) w hA).mono ?_
  rintro e w' ⟨rfl, hb⟩
  refine ⟨?_, hb⟩
  unfold nT
  rw [dec1 j (by omega)]
  rfl
/-- The sheet ahead of a turn. -/
def RcT (E : Env) (n a b : Nat) (t : Int) (fl fs : Nat → ByteArray) (k : Kp) : Prop :=
  (t = 0 ∧ fl = rcG 8 0 eB ∧ fs = rcG 8 n eB ∧ k.store.places = 2 * (n + 1) ∧ ∀ x ∈ k.store.has, ∃ i, x.f = tDb i) ∨
  (t = 1 ∧ fl = rcG 8 n (nT a) ∧ fs = rcG 8 n (nT a) ∧ Rc1 E n a k) ∨
  (t = 2 ∧ fl = rcG 8 n (nT b) ∧ fs = rcG 8 n (nT b) ∧ Rc2 E n a b b k) ∨
  (t = 3 ∧ fl = rcG 8 n (nT a) ∧ fs = rcG 8 n (nT a) ∧ Rc2 E n a b a k) ∨ t = 4
theorem pk_nat {c : Int} {m n : Nat} (h : c = (m : Int)) (hm : m < n) : pk c n = m := by
  subst h
  unfold pk
  rw [if_neg (by omega), Int.toNat_natCast, Nat.mod_eq_of_lt hm]
structure RcN (n : Nat) : Prop where
  w3 : IntKind.i64.wrap ((n : Int) + 1) = (n : Int) + 1
  w4 : wrap64 ((n : Int) + 1) = (n : Int) + 1
  w5 : IntKind.i64.wrap (2 * ((n : Int) + 1)) = 2 * ((n : Int) + 1)
  w6 : wrap64 (2 * ((n : Int) + 1)) = 2 * ((n : Int) + 1)
  c : I64 (2 * ((n : Int) + 1))
  k : pk (2 * ((n : Int) + 1)) 65 = 2 * (n + 1)
theorem rcNums {n : Nat} (h : n ≤ 7) : RcN n where
  w3 := by rw [IntKind.wrap_i64]; omega
  w4 := by unfold wrap64; omega
  w5 := by rw [IntKind.wrap_i64]; omega
  w6 := by unfold wrap64; omega
  c := by unfold I64; omega
  k := pk_nat (by omega) (by omega)
theorem rcSum {m n : Nat} (h : 1 + m = n) (hn : n ≤ 7) : IntKind.i64.wrap (1 + (m : Int)) = (n : Int) ∧ wrap64 (1 + (m : Int)) = (n : Int) := ⟨by rw [IntKind.wrap_i64]; omega, by unfold wrap64; omega⟩
theorem rcNext {a b : Nat} (h : a + 1 = b) (ha : a < 1000) : IntKind.i64.wrap ((a : Int) + 1) = (b : Int) ∧ wrap64 ((a : Int) + 1) = (b : Int) ∧ b ≤ 1000 ∧ a ≠ b := ⟨by rw [IntKind.wrap_i64]; omega, by unfold wrap64; omega, by omega, by omega⟩
theorem rcNe {a b : Nat} (h : a ≠ b) : ¬ (a : Int) = (b : Int) ∧ ((a : Int) == (b : Int)) = false := by
  have h1 : ¬ (a : Int) = (b : Int) := by omega
  exact ⟨h1, by simpa using h1⟩
/-- Numbers of the statement. -/
structure NumN (n v : Nat) : Prop where
  a1 : IntKind.i64.wrap ((v : Int) + n) = (v : Int) + n
  a2 : wrap64 ((v : Int) + n) = (v : Int) + n
theorem numN {n v : Nat} (hn : n ≤ 7) (hv : v ≤ 1000) : NumN n v := ⟨by rw [IntKind.wrap_i64]; omega, by unfold wrap64; omega⟩
theorem rc_vals2 {n v : Nat} {E : Env} {val : Nat → V} (hE : EnvOK E) (hv1 : v ≤ 1000) (hn : n ≤ 7) (hv : ∀ c, Val E.D (rcG 8 n (nT v)) c (val c)) : val (6 * n) = vI ((v : Int) + n) := by
  rw [(rc_vals hE hv1 hn hv n (Nat.le_refl _)).1]; rfl
theorem rc_stored {E : Env} {k k' : Kp} {o w : Nat} {bg : List Nat} (hE : EnvOK E) {fl : Nat → ByteArray} (hk : KInv E fl k) (h0 : k.store.has = []) (ho : o < 3) (h : WorkP E k (rcG 8 0 eB) o w k' bg) : ∀ x ∈ k'.store.has, ∃ i, x.f = tDb i := fun x hx => by
  have hf := fsT_rc (m := 8) (n := 0) (t := eB) (by omega) (by omega) (.inl rfl)
  rcases h.stored hE hk hf ho x hx with g | ⟨c, hc, g⟩
  · rw [h0] at g; cases g
  · have hne := (h.bgOK hE hk hf ho c hc).2
    rcases rcG_cases hne with ⟨i, hi, rfl⟩ | ⟨i, hi, rfl⟩
    · exact ⟨i, by rw [g, rcG_f hi]⟩
    · exfalso
      apply hne
      have e : 6 * i = 0 := by omega
      rw [e]
      unfold rcG
      rw [if_neg (by omega), if_neg (by omega), if_pos rfl]
theorem has_nil (W : World) (s : ByteArray) (v : Value) (h : Hid (Slc W 9 1 v 0 [])) : Calls Tryz.prog 34 #[v, .string s] W fun e w' => e = .returned (.bool false) ∧ w' = W := by
  refine (has_w W v [] s h).mono ?_
  rintro e w' ⟨rfl, rfl⟩
  exact ⟨rfl, rfl⟩
set_option maxRecDepth 100000 in
set_option maxHeartbeats 16000000 in
theorem recalled_w (a0 b0 n0 o0 : Int) (ha : Hid (I64 a0)) (hb : Hid (I64 b0)) (hn : Hid (I64 n0)) (ho : Hid (I64 o0)) (w : World) (hA : Hid (Amb w)) :
    Calls Tryz.prog 13 #[.int .i64 a0, .int .i64 b0, .int .i64 n0, .int .i64 o0] w fun e w' => e = .returned (.bool true) ∧ Below w.heap.size w w' := by
  obtain ⟨E, hE⟩ := env_ex
  have HE : Hid (EnvOK E) := hE
  obtain ⟨n, hn'⟩ : ∃ n, 1 + pk n0 7 = n := ⟨_, rfl⟩
  obtain ⟨a, ha'⟩ : ∃ a, pk a0 1000 = a := ⟨_, rfl⟩
  obtain ⟨b1, hb'⟩ : ∃ b, pk b0 1000 = b := ⟨_, rfl⟩
  obtain ⟨o, ho'⟩ : ∃ o, pk o0 3 = o := ⟨_, rfl⟩
  have HN1 : Hid (0 < n ∧ n ≤ 7) := by have := pk_lt n0 (n := 7) (by omega); exact ⟨by omega, by omega⟩
  have HN8 : Hid (n < 8) := by have := HN1.out; unfold Hid; omega
  have HO3 : Hid (o < 3) := by unfold Hid; rw [← ho']; exact pk_lt o0 (by omega)
  have HA1 : Hid (a < 1000) := by unfold Hid; rw [← ha']; exact pk_lt a0 (by omega)
  have HBX : Hid (b1 < 1000) := by unfold Hid; rw [← hb']; exact pk_lt b0 (by omega)
  have HAI : Hid (I64 (a : Int)) := by have := HA1.out; unfold Hid I64; omega
  have HAA : Hid (pk a0 1000 = a) := ha'
  have HBB : Hid (pk b0 1000 = b1) := hb'
  have HOO : Hid (pk o0 3 = o) := ho'
  have HA9 : Hid (pk (a : Int) 9 / 3 < 3) := by have := pk_lt (a : Int) (n := 9) (by omega); unfold Hid; omega
  obtain ⟨hw1, hw2⟩ := rcSum hn' HN1.out.2
  obtain ⟨hw3, hw4, hw5, hw6, hc0, hpk⟩ := rcNums HN1.out.2
  have HC : Hid (I64 (2 * ((n : Int) + 1))) := hc0
  have HPK : Hid (pk (2 * ((n : Int) + 1)) 65 = 2 * (n + 1)) := hpk
  clear hc0 hpk
  have HA2 : Hid (a ≤ 1000) := Nat.le_of_lt HA1.out
  clear hE hn' ha' hb' ho'
  by_cases hab : a = b1
  subst hab
  obtain ⟨b, hb2⟩ : ∃ b, a + 1 = b := ⟨_, rfl⟩
  obtain ⟨hw7, hw8, hb3, hb4⟩ := rcNext hb2 HA1.out
  have HB1 : Hid (b ≤ 1000) := hb3
  have HAB : Hid (a ≠ b) := hb4
  clear hb2 hb3 hb4 HBX
  rotate_left
  obtain ⟨b, hb2⟩ : ∃ b, b = b1 := ⟨_, rfl⟩
  subst hb2
  obtain ⟨hne, hne2⟩ := rcNe hab
  have HB1 : Hid (b ≤ 1000) := Nat.le_of_lt HBX.out
  have HAB : Hid (a ≠ b) := hab
  clear hab HBX
  all_goals
    go_enter Tryz.func13, Tryz.ntmps13
    go_wp2_with fail
    refine (pick_any n0 7 hn.out (by omega) (by omega) _).mono ?_
    rintro e w2 ⟨rfl, hw0⟩
    rw [hw0]
    clear hw0 w2
    go_wp2_with fail
    refine (begin_s E (2 * ((n : Int) + 1)) HC.out w w (Below.refl _ _)).mono ?_
    rintro e w1 ⟨x, rfl, g1⟩
    have H1 : Hid (ShS E w w1 x fs0 (rcG 0 0 eB) (k0 (2 * (n + 1)))) := by have h := g1.out.1; rw [HPK.out] at h; rw [← rcG_start]; exact h
    clear g1 hw1 hw2 hw3 hw4 hw5 hw6
    go_wp2_with fail
    refine (pick_any a0 1000 ha.out (by omega) (by omega) _).mono ?_
    rintro e w2 ⟨rfl, rfl⟩
    rw [HAA.out]
    go_wp2_with fail
    refine (pick_any b0 1000 hb.out (by omega) (by omega) _).mono ?_
    rintro e w2 ⟨rfl, rfl⟩
    rw [HBB.out]
    go_wp2_with fail
    refine (pick_any o0 3 ho.out (by omega) (by omega) _).mono ?_
    rintro e w2 ⟨rfl, rfl⟩
    rw [HOO.out]
    go_wp2_with fail
    go_loopw [11, 12] (fun u s wr => u = .bool true ∧ ∃ i : Nat, s = .int .i64 i ∧ Hid (i ≤ 8) ∧ Hid (ShS E w wr x fs0 (rcG i 0 eB) (k0 (2 * (n + 1))))) (fun _ s _ => (100 - intOf s).toNat)
    case atStart => exact ⟨rfl, 0, rfl, Nat.zero_le _, H1⟩
    case round =>
      obtain ⟨rfl, i, rfl, HI, HH⟩ := hrel
      clear H1
      by_cases hi : i < 8
      · have HI8 : Hid (i < 8) := hi
        have hii : (i : Int) < 8 := lt_c (n := 8) hi
        obtain ⟨i1, i2, i3, i4, i5, i6⟩ := num7 HI8.out
        obtain ⟨y1, y2⟩ := num65 HI8.out
        obtain ⟨t1, t2⟩ := db_txt HI8.out
        have z1 : (tD1 i).size = 1 := rfl
        have z2 : (tD2 i).size = 4 := rfl
        clear hi HI
        go_wp2_with fail
        refine (nameF_w HI8.out _).mono ?_
        rintro e u1 ⟨rfl, b1'⟩
        have HHa : Hid (ShS E w u1 x fs0 (rcG i 0 eB) (k0 (2 * (n + 1)))) := HH.out.below b1'
        clear b1' HH
        go_wp2_with fail
        refine (num1_w HI8.out _ (hA.out.below HHa.out.bel)).mono ?_
        rintro e u2 ⟨rfl, b2'⟩
        have HHb : Hid (ShS E w u2 x fs0 (rcG i 0 eB) (k0 (2 * (n + 1)))) := HHa.out.below b2'
        clear b2' HHa
        go_wp2_with fail
        refine (num1_w HI8.out _ (hA.out.below HHb.out.bel)).mono ?_
        rintro e u3 ⟨rfl, b3'⟩
        have HHc : Hid (ShS E w u3 x fs0 (rcG i 0 eB) (k0 (2 * (n + 1)))) := HHb.out.below b3'
        clear b3' HHb
        go_wp2_with fail
        refine (set_s hA HHc (t := tDb i) (txt_db HI8.out) (c := 6 * i + 5) (nF_cell HI8.out)).mono ?_
        rintro e u4 ⟨rfl, g4⟩
        have HHd : Hid (ShS E w u4 x fs0 (rcG (i + 1) 0 eB) (k0 (2 * (n + 1)))) := by have h := g4.out.1; rw [rcG_db] at h; exact h
        clear g4 HHc
        go_wp2_with fail
        exact ⟨⟨rfl, i + 1, rfl, HI8.out, HHd⟩, meas (Int.lt_succ _) (Int.le_trans (Int.add_le_add_right (Int.ofNat_le.2 (Nat.le_of_lt HI8.out)) 1) (by decide))⟩
      · have hge : ¬ (i : Int) < 8 := ge_c (n := 8) hi
        have HF : Hid (ShS E w wr x fs0 (rcG 8 0 eB) (k0 (2 * (n + 1)))) := by
          have h := HH.out
          rw [rcEnd8 HI.out hi] at h
          exact h
        clear hi HI HH
        go_wp2_with fail
        refine (worked_s HE hA HF (a : Int) HAI).mono ?_
        rintro e w3 ⟨v3, k3, bg3, rfl, g3⟩
        have H3 : Hid (ShS E w w3 x (rcG 8 0 eB) (rcG 8 0 eB) k3) := g3.out.1
        have HPL : Hid (k3.store.places = 2 * (n + 1)) := g3.out.2.1.places HE.out HF.out.kinv HF.out.ft HA9.out
        have HST : Hid (∀ x ∈ k3.store.has, ∃ i, x.f = tDb i) := rc_stored HE.out HF.out.kinv has_zero HA9.out g3.out.2.1
        clear g3 HF
        go_wp2_with fail
        go_loopw [11, 15] (fun u s wr => u = .bool true ∧ ∃ i : Nat, s = .int .i64 i ∧ Hid (1 ≤ i ∧ i ≤ n + 1) ∧ Hid (ShS E w wr x (rcG 8 0 eB) (rcG 8 (i - 1) eB) k3)) (fun _ s _ => (100 - intOf s).toNat)
        case atStart => exact ⟨rfl, 1, rfl, ⟨Nat.le_refl _, Nat.le_add_left _ _⟩, H3⟩
        case round =>
          obtain ⟨rfl, i, rfl, HI, HH⟩ := hrel
          clear H3
          by_cases hi : i ≤ n
          · have HII : Hid (i ≤ n) := hi
            have HI8 : Hid (i < 8) := Nat.lt_of_le_of_lt hi HN8.out
            obtain ⟨j, hj⟩ : ∃ j, i = j + 1 := ⟨i - 1, (Nat.sub_add_cancel HI.out.1).symm⟩
            have HJ : Hid (i = j + 1) := hj
            have HJ7 : Hid (j < 7) := rcPrev hj HI8.out
            have HJ8 : Hid (j < 8) := Nat.lt_succ_of_lt HJ7.out
            have hii := le_c hi
            obtain ⟨i1, i2, i3, i4, i5, i6⟩ := num7 HI8.out
            obtain ⟨j1, j2, j3, j4, j5, j6⟩ := num7 HJ8.out
            obtain ⟨y1, y2⟩ := ctPrev hj HI8.out
            have hsz : (nA j).size = 2 := rfl
            have hcat := rc_txt HJ8.out
            have HH' : Hid (ShS E w wr x (rcG 8 0 eB) (rcG 8 j eB) k3) := by have h := HH.out; rw [hj] at h; exact h
            clear hi HI hj HH
            go_wp2_with fail
            refine (name_w HI8.out _).mono ?_
            rintro e u1 ⟨rfl, b1'⟩
            have HHa : Hid (ShS E w u1 x (rcG 8 0 eB) (rcG 8 j eB) k3) := HH'.out.below b1'
            clear b1' HH'
            go_wp2_with fail
            refine (name_w HJ8.out _).mono ?_
            rintro e u2 ⟨rfl, b2'⟩
            have HHb : Hid (ShS E w u2 x (rcG 8 0 eB) (rcG 8 j eB) k3) := HHa.out.below b2'
            clear b2' HHa
            go_wp2_with fail
            refine (set_s hA HHb (t := tRc j) (txt_rc HJ7.out) (c := 6 * i) (nA_cell HI8.out)).mono ?_
            rintro e u4 ⟨rfl, g4⟩
            have HHd : Hid (ShS E w u4 x (rcG 8 0 eB) (rcG 8 (i + 1 - 1) eB) k3) := by have h := g4.out.1; rw [HJ.out, rcG_ch] at h; rw [Nat.add_sub_cancel, HJ.out]; exact h
            clear g4 HHb
            go_wp2_with fail
            exact ⟨⟨rfl, i + 1, rfl, ⟨Nat.le_add_left _ _, Nat.succ_le_succ HII.out⟩, HHd⟩, meas (Int.lt_succ _) (Int.le_trans (Int.add_le_add_right (Int.ofNat_le.2 (Nat.le_of_lt HI8.out)) 1) (by decide))⟩
          · have hge := gt_c hi
            have HF : Hid (ShS E w wr x (rcG 8 0 eB) (rcG 8 n eB) k3) := by
              have h := HH.out
              rw [rcEnd HI.out.2 hi] at h
              exact h
            clear hi HI HH
            go_wp2_with fail
            go_loopw [11, 16] (fun u s wr => u = .bool true ∧ ∃ tn : Int, s = .int .i64 tn ∧ ∃ fl fs k, Hid (RcT E n a b tn fl fs k) ∧ Hid (ShS E w wr x fl fs k)) (fun _ s _ => (100 - intOf s).toNat)
            case atStart => exact ⟨rfl, 0, rfl, _, _, _, .inl ⟨rfl, rfl, rfl, HPL.out, HST.out⟩, HF⟩
            case round =>
              obtain ⟨rfl, tn, rfl, fl, fs, k4, HT, HH⟩ := hrel
              clear HF HPL HST
              rcases HT.out with ⟨rfl, rfl, rfl, p1, p2⟩ | ⟨rfl, rfl, rfl, p1⟩ | ⟨rfl, rfl, rfl, p1⟩ | ⟨rfl, rfl, rfl, p1⟩ | rfl
              · clear HT
                have HP : Hid (k4.store.places = 2 * (n + 1) ∧ ∀ x ∈ k4.store.has, ∃ i, x.f = tDb i) := ⟨p1, p2⟩
                clear p1 p2
                obtain ⟨n1, n2⟩ := numN HN1.out.2 HA2.out
                obtain ⟨q1, q2, q3, q4, q5, q6⟩ := num7 HN8.out
                go_wp2_with fail
                refine (num_w a (Nat.lt_of_le_of_lt HA2.out (by decide)) _ (hA.out.below HH.out.bel)).mono ?_
                rintro e u1 ⟨rfl, c1⟩
                have H5 : Hid (ShS E w u1 x (rcG 8 0 eB) (rcG 8 n eB) k4) := HH.out.below c1
                clear c1 HH
                go_wp2_with fail
                refine (set_s hA H5 (t := nT a) (txt_num1 HA2.out) (c := 0) (by unfold Hid; decide)).mono ?_
                rintro e u2 ⟨rfl, g2⟩
                have H6 : Hid (ShS E w u2 x (rcG 8 0 eB) (rcG 8 n (nT a)) k4) := by have h := g2.out.1; rw [rcG_num] at h; exact h
                clear g2 H5
                go_wp2_with fail
                refine (work_s HE hA H6 o 2 HO3 (by unfold Hid; decide)).mono ?_
                rintro e u3 ⟨ao, cp, k7, bg7, rfl, g3⟩
                have H7 : Hid (ShS E w u3 x (rcG 8 n (nT a)) (rcG 8 n (nT a)) k7) := g3.out.1
                have HQ : Hid (Rc1 E n a k7) := rc_turn0 HE.out HA2.out HN1.out.2 H6.out.kinv HP.out.1 HP.out.2 HO3.out g3.out.2.1
                clear g3 HP H6
                go_wp2_with fail
                obtain ⟨O, hO⟩ : ∃ O, Obj.cells #[.slice ao bg7.length cp] 72 = O := ⟨_, rfl⟩
                rw [hO]
                have H8 : Hid (ShS E w (u3.alloc O) x (rcG 8 n (nT a)) (rcG 8 n (nT a)) k7) := H7.out.below (bel_alloc u3 O)
                clear hO H7
                refine (name_w HN8.out _).mono ?_
                rintro e u4 ⟨rfl, c4⟩
                have H9 : Hid (ShS E w u4 x (rcG 8 n (nT a)) (rcG 8 n (nT a)) k7) := H8.out.below c4
                clear c4 H8
                go_wp2_with fail
                refine (is_s H9 (c := 6 * n) (nA_cell HN8.out) ((a : Int) + n)).mono ?_
                rintro e u5 ⟨rfl, g5⟩
                rw [show (k7.last (6 * n)).v = vI ((a : Int) + n) from rc_vals2 HE.out HA2.out HN1.out.2 H9.out.kinv.v, eqB_self]
                have H10 : Hid (ShS E w u5 x (rcG 8 n (nT a)) (rcG 8 n (nT a)) k7) := g5.out.1
                clear g5 H9 n1 n2
                go_wp2_with fail
                go_loopw [21] (fun u wr => ∃ j : Nat, u = .int .i64 j ∧ Hid (j ≤ n + 1) ∧ Hid (ShS E w wr x (rcG 8 n (nT a)) (rcG 8 n (nT a)) k7)) (fun u _ => (100 - intOf u).toNat)
                case atStart => exact ⟨0, rfl, Nat.zero_le _, H10⟩
                case round =>
                  obtain ⟨j, rfl, HJ, HR⟩ := hrel
                  clear H10
                  by_cases hj : j ≤ n
                  · have HJJ : Hid (j ≤ n) := hj
                    have HJ8 : Hid (j < 8) := Nat.lt_of_le_of_lt hj HN8.out
                    have hjj := le_c hj
                    obtain ⟨j1, j2, j3, j4, j5, j6⟩ := num7 HJ8.out
                    clear hj HJ
                    go_wp2_with fail
                    go_quiet (fail)
                    go_wp2_with fail
                    exact ⟨⟨j + 1, rfl, Nat.succ_le_succ HJJ.out, HR.out.below (below_drewN (Below.refl _ _) _)⟩, meas (Int.lt_succ _) (Int.le_trans (Int.add_le_add_right (Int.ofNat_le.2 (Nat.le_of_lt HJ8.out)) 1) (by decide))⟩
                  · have hge := gt_c hj
                    clear hj HJ
                    go_wp2_with fail
                    exact ⟨⟨rfl, 1, rfl, _, _, _, .inr (.inl ⟨rfl, rfl, rfl, HQ.out⟩), HR⟩, by decide⟩
              · clear HT
                have HP : Hid (Rc1 E n a k4) := p1
                clear p1
                obtain ⟨n1, n2⟩ := numN HN1.out.2 HB1.out
                obtain ⟨q1, q2, q3, q4, q5, q6⟩ := num7 HN8.out
                go_wp2_with fail
                refine (num_w b (Nat.lt_of_le_of_lt HB1.out (by decide)) _ (hA.out.below HH.out.bel)).mono ?_
                rintro e u1 ⟨rfl, c1⟩
                have H5 : Hid (ShS E w u1 x (rcG 8 n (nT a)) (rcG 8 n (nT a)) k4) := HH.out.below c1
                clear c1 HH
                go_wp2_with fail
                refine (set_s hA H5 (t := nT b) (txt_num1 HB1.out) (c := 0) (by unfold Hid; decide)).mono ?_
                rintro e u2 ⟨rfl, g2⟩
                have H6 : Hid (ShS E w u2 x (rcG 8 n (nT a)) (rcG 8 n (nT b)) k4) := by have h := g2.out.1; rw [rcG_num] at h; exact h
                clear g2 H5
                go_wp2_with fail
                refine (work_s HE hA H6 o 2 HO3 (by unfold Hid; decide)).mono ?_
                rintro e u3 ⟨ao, cp, k7, bg7, rfl, g3⟩
                have H7 : Hid (ShS E w u3 x (rcG 8 n (nT b)) (rcG 8 n (nT b)) k7) := g3.out.1
                have HQ : Hid (Rc2 E n a b b k7) := rc_turn1 HE.out HA2.out HB1.out HAB.out HN1.out.2 HP.out HO3.out g3.out.2.1
                clear g3 HP H6
                go_wp2_with fail
                obtain ⟨O, hO⟩ : ∃ O, Obj.cells #[.slice ao bg7.length cp] 72 = O := ⟨_, rfl⟩
                rw [hO]
                have H8 : Hid (ShS E w (u3.alloc O) x (rcG 8 n (nT b)) (rcG 8 n (nT b)) k7) := H7.out.below (bel_alloc u3 O)
                clear hO H7
                refine (name_w HN8.out _).mono ?_
                rintro e u4 ⟨rfl, c4⟩
                have H9 : Hid (ShS E w u4 x (rcG 8 n (nT b)) (rcG 8 n (nT b)) k7) := H8.out.below c4
                clear c4 H8
                go_wp2_with fail
                refine (is_s H9 (c := 6 * n) (nA_cell HN8.out) ((b : Int) + n)).mono ?_
                rintro e u5 ⟨rfl, g5⟩
                rw [show (k7.last (6 * n)).v = vI ((b : Int) + n) from rc_vals2 HE.out HB1.out HN1.out.2 H9.out.kinv.v, eqB_self]
                have H10 : Hid (ShS E w u5 x (rcG 8 n (nT b)) (rcG 8 n (nT b)) k7) := g5.out.1
                clear g5 H9 n1 n2
                go_wp2_with fail
                go_loopw [21] (fun u wr => ∃ j : Nat, u = .int .i64 j ∧ Hid (j ≤ n + 1) ∧ Hid (ShS E w wr x (rcG 8 n (nT b)) (rcG 8 n (nT b)) k7)) (fun u _ => (100 - intOf u).toNat)
                case atStart => exact ⟨0, rfl, Nat.zero_le _, H10⟩
                case round =>
                  obtain ⟨j, rfl, HJ, HR⟩ := hrel
                  clear H10
                  by_cases hj : j ≤ n
                  · have HJJ : Hid (j ≤ n) := hj
                    have HJ8 : Hid (j < 8) := Nat.lt_of_le_of_lt hj HN8.out
                    have hjj := le_c hj
                    obtain ⟨j1, j2, j3, j4, j5, j6⟩ := num7 HJ8.out
                    clear hj HJ
                    go_wp2_with fail
                    go_quiet (fail)
                    go_wp2_with fail
                    exact ⟨⟨j + 1, rfl, Nat.succ_le_succ HJJ.out, HR.out.below (below_drewN (Below.refl _ _) _)⟩, meas (Int.lt_succ _) (Int.le_trans (Int.add_le_add_right (Int.ofNat_le.2 (Nat.le_of_lt HJ8.out)) 1) (by decide))⟩
                  · have hge := gt_c hj
                    clear hj HJ
                    go_wp2_with fail
                    exact ⟨⟨rfl, 2, rfl, _, _, _, .inr (.inr (.inl ⟨rfl, rfl, rfl, HQ.out⟩)), HR⟩, by decide⟩
              · clear HT
                have HP : Hid (Rc2 E n a b b k4) := p1
                clear p1
                obtain ⟨n1, n2⟩ := numN HN1.out.2 HA2.out
                obtain ⟨q1, q2, q3, q4, q5, q6⟩ := num7 HN8.out
                go_wp2_with fail
                refine (num_w a (Nat.lt_of_le_of_lt HA2.out (by decide)) _ (hA.out.below HH.out.bel)).mono ?_
                rintro e u1 ⟨rfl, c1⟩
                have H5 : Hid (ShS E w u1 x (rcG 8 n (nT b)) (rcG 8 n (nT b)) k4) := HH.out.below c1
                clear c1 HH
                go_wp2_with fail
                refine (set_s hA H5 (t := nT a) (txt_num1 HA2.out) (c := 0) (by unfold Hid; decide)).mono ?_
                rintro e u2 ⟨rfl, g2⟩
                have H6 : Hid (ShS E w u2 x (rcG 8 n (nT b)) (rcG 8 n (nT a)) k4) := by have h := g2.out.1; rw [rcG_num] at h; exact h
                clear g2 H5
                go_wp2_with fail
                refine (work_s HE hA H6 o 2 HO3 (by unfold Hid; decide)).mono ?_
                rintro e u3 ⟨ao, cp, k7, bg7, rfl, g3⟩
                have H7 : Hid (ShS E w u3 x (rcG 8 n (nT a)) (rcG 8 n (nT a)) k7) := g3.out.1
                have HQ0 : bg7 = [] ∧ Rc2 E n a b a k7 := rc_turn2 HE.out HB1.out (.inl rfl) HA2.out HN1.out.2 HP.out HO3.out g3.out.2.1
                have HSL : Hid (Slc u3 9 1 (.slice ao 0 cp) 0 []) := by have h := g3.out.2.2; rw [HQ0.1] at h; exact h
                have HQ : Hid (Rc2 E n a b a k7) := HQ0.2
                obtain ⟨rfl, _⟩ := HQ0
                have hlen : ([] : List Nat).length = 0 := rfl
                rw [hlen]
                clear hlen
                clear g3 HP H6
                go_wp2_with fail
                obtain ⟨O, hO⟩ : ∃ O, Obj.cells #[.slice ao 0 cp] 72 = O := ⟨_, rfl⟩
                rw [hO]
                have H8 : Hid (ShS E w (u3.alloc O) x (rcG 8 n (nT a)) (rcG 8 n (nT a)) k7) := H7.out.below (bel_alloc u3 O)
                have HC0 : Hid ((u3.alloc O).cell? ⟨u3.heap.size, 0, none⟩ = some (.slice ao 0 cp)) := by rw [← hO]; unfold Hid; simp
                have HL0 : Hid (Slc (u3.alloc O) 9 1 (.slice ao 0 cp) 0 []) := HSL.out.bel (bel_alloc u3 O)
                have HLT : Hid (u3.heap.size < (u3.alloc O).heap.size) := by unfold Hid; simp
                clear hO H7 HSL
                refine (name_w HN8.out _).mono ?_
                rintro e u4 ⟨rfl, c4⟩
                have H9 : Hid (ShS E w u4 x (rcG 8 n (nT a)) (rcG 8 n (nT a)) k7) := H8.out.below c4
                have HC1 : Hid (u4.cell? ⟨u3.heap.size, 0, none⟩ = some (.slice ao 0 cp)) := by unfold Hid; rw [c4.cell (p := ⟨u3.heap.size, 0, none⟩) HLT.out]; exact HC0.out
                have HL1 : Hid (Slc u4 9 1 (.slice ao 0 cp) 0 []) := HL0.out.bel c4
                have HLU : Hid (u3.heap.size < u4.heap.size) := Nat.lt_of_lt_of_le HLT.out c4.size
                clear HC0 HL0 HLT
                clear c4 H8
                go_wp2_with fail
                refine (is_s H9 (c := 6 * n) (nA_cell HN8.out) ((a : Int) + n)).mono ?_
                rintro e u5 ⟨rfl, g5⟩
                rw [show (k7.last (6 * n)).v = vI ((a : Int) + n) from rc_vals2 HE.out HA2.out HN1.out.2 H9.out.kinv.v, eqB_self]
                have H10 : Hid (ShS E w u5 x (rcG 8 n (nT a)) (rcG 8 n (nT a)) k7) := g5.out.1
                have HC2 : Hid (u5.cell? ⟨u3.heap.size, 0, none⟩ = some (.slice ao 0 cp)) := by unfold Hid; rw [g5.out.2.cell (p := ⟨u3.heap.size, 0, none⟩) HLU.out]; exact HC1.out
                have HL2 : Hid (Slc u5 9 1 (.slice ao 0 cp) 0 []) := HL1.out.bel g5.out.2
                have HLV : Hid (u3.heap.size < u5.heap.size) := Nat.lt_of_lt_of_le HLU.out g5.out.2.size
                clear HC1 HL1 HLU
                clear g5 H9 n1 n2
                go_wp2_with fail
                go_loopw [21] (fun u wr => ∃ j : Nat, u = .int .i64 j ∧ Hid (j ≤ n + 1) ∧ Hid (ShS E w wr x (rcG 8 n (nT a)) (rcG 8 n (nT a)) k7) ∧ wr.cell? ⟨u3.heap.size, 0, none⟩ = some (.slice ao 0 cp) ∧ Hid (Slc wr 9 1 (.slice ao 0 cp) 0 []) ∧ Hid (u3.heap.size < wr.heap.size)) (fun u _ => (100 - intOf u).toNat)
                case atStart => exact ⟨0, rfl, Nat.zero_le _, H10, HC2.out, HL2, HLV⟩
                case round =>
                  obtain ⟨j, rfl, HJ, HR, hcell, HL, HLW⟩ := hrel
                  clear H10 HC2 HL2 HLV
                  by_cases hj : j ≤ n
                  · have HJJ : Hid (j ≤ n) := hj
                    have HJ8 : Hid (j < 8) := Nat.lt_of_le_of_lt hj HN8.out
                    have hjj := le_c hj
                    obtain ⟨j1, j2, j3, j4, j5, j6⟩ := num7 HJ8.out
                    clear hj HJ
                    go_wp2_with fail
                    have hS0 : (fun w' : World => w'.cell? ⟨u3.heap.size, 0, none⟩ = some (.slice ao 0 cp)) { wr with drawn := wr.drawn + 1 } := hcell
                    refine wp_region_held (S := (fun w' : World => w'.cell? ⟨u3.heap.size, 0, none⟩ = some (.slice ao 0 cp))) (by kernel_rfl) ?_
                    refine wpAnyH_take (i := 0) (v := .int .i64 2) rfl (by kernel_rfl) (by kernel_rfl) (by kernel_rfl) (fun _ _ _ h => h) (Or.inl ⟨by rfl, fun w hSw => by go_simp⟩) hS0 ?_
                    (try simp only [Act.put, List.setIfInBounds_toArray, List.set_cons_zero, List.set_cons_succ, List.getElem_toArray, List.getElem_cons_zero, List.getElem_cons_succ])
                    refine wpAnyH_take (i := 1) (v := .bool true) rfl (by kernel_rfl) (by kernel_rfl) (by kernel_rfl) (fun _ _ _ h => h) (Or.inl ⟨by rfl, fun w hSw => by go_simp⟩) hS0 ?_
                    (try simp only [Act.put, List.setIfInBounds_toArray, List.set_cons_zero, List.set_cons_succ, List.getElem_toArray, List.getElem_cons_zero, List.getElem_cons_succ])
                    refine wpAnyH_take (i := 2) (v := .bool true) rfl (by kernel_rfl) (by kernel_rfl) (by kernel_rfl) (fun _ _ _ h => h) (Or.inl ⟨by rfl, fun w hSw => by go_simp⟩) hS0 ?_
                    (try simp only [Act.put, List.setIfInBounds_toArray, List.set_cons_zero, List.set_cons_succ, List.getElem_toArray, List.getElem_cons_zero, List.getElem_cons_succ])
                    refine wpAnyH_take (i := 3) (v := .pointer (some ⟨u3.heap.size, 0, none⟩)) rfl (by kernel_rfl) (by kernel_rfl) (by kernel_rfl) (fun _ _ _ h => h) (Or.inl ⟨by rfl, fun w hSw => by go_simp⟩) hS0 ?_
                    (try simp only [Act.put, List.setIfInBounds_toArray, List.set_cons_zero, List.set_cons_succ, List.getElem_toArray, List.getElem_cons_zero, List.getElem_cons_succ])
                    refine wpAnyH_take (i := 4) (v := .slice ao 0 cp) rfl (by kernel_rfl) (by kernel_rfl) (by kernel_rfl) (fun _ _ _ h => h) (Or.inl ⟨by rfl, fun w hSw => by go_simp⟩) hS0 ?_
                    (try simp only [Act.put, List.setIfInBounds_toArray, List.set_cons_zero, List.set_cons_succ, List.getElem_toArray, List.getElem_cons_zero, List.getElem_cons_succ])
                    refine wpAnyH_take (i := 5) (v := .int .i64 j) rfl (by kernel_rfl) (by kernel_rfl) (by kernel_rfl) (fun _ _ _ h => h) (Or.inl ⟨by rfl, fun w hSw => by go_simp⟩) hS0 ?_
                    (try simp only [Act.put, List.setIfInBounds_toArray, List.set_cons_zero, List.set_cons_succ, List.getElem_toArray, List.getElem_cons_zero, List.getElem_cons_succ])
                    refine wpAnyH_take (i := 6) (v := .int .i64 (6 * (j : Int))) rfl (by kernel_rfl) (by kernel_rfl) (by kernel_rfl) (fun _ _ _ h => h) (Or.inl ⟨by rfl, fun w hSw => by go_simp⟩) hS0 ?_
                    (try simp only [Act.put, List.setIfInBounds_toArray, List.set_cons_zero, List.set_cons_succ, List.getElem_toArray, List.getElem_cons_zero, List.getElem_cons_succ])
                    refine wpAnyH_ready (rs := [7]) (by kernel_rfl) (by simp) ?_
                    refine AllReadyH.cons rfl (fun K hK => ?_) AllReadyH.nil
                    go_simp
                    refine (name_w HJ8.out _).mono ?_
                    rintro e z1 ⟨rfl, d1⟩
                    have dd : Below wr.heap.size wr z1 := ((Below.refl _ _).drew).trans d1
                    have HRb : Hid (ShS E w z1 x _ _ k7) := HR.out.below dd
                    have hcellb : z1.cell? ⟨u3.heap.size, 0, none⟩ = some (.slice ao 0 cp) := by rw [dd.cell (p := ⟨u3.heap.size, 0, none⟩) HLW.out]; exact hcell
                    have HLb : Hid (Slc z1 9 1 (.slice ao 0 cp) 0 []) := HL.out.bel dd
                    have HLWb : Hid (u3.heap.size < z1.heap.size) := Nat.lt_of_lt_of_le HLW.out dd.size
                    clear dd d1 HR HL HLW hS0
                    refine hK.out _ _ hcellb (fun _ => ?_)
                    clear hK K
                    (try simp only [Act.put, List.setIfInBounds_toArray, List.set_cons_zero, List.set_cons_succ, List.getElem_toArray, List.getElem_cons_zero, List.getElem_cons_succ])
                    refine wpAnyH_ready (rs := [8]) (by kernel_rfl) (by simp) ?_
                    refine AllReadyH.cons rfl (fun K hK => ?_) AllReadyH.nil
                    go_simp
                    refine (has_nil _ _ _ HLb).mono ?_
                    rintro e z2 ⟨rfl, rfl⟩
                    refine hK.out _ _ hcellb (fun _ => ?_)
                    clear hK K
                    (try simp only [Act.put, List.setIfInBounds_toArray, List.set_cons_zero, List.set_cons_succ, List.getElem_toArray, List.getElem_cons_zero, List.getElem_cons_succ])
                    refine wpAnyH_take (i := 9) (v := .bool false) rfl (by kernel_rfl) (by kernel_rfl) (by kernel_rfl) (fun _ _ _ h => h) (Or.inl ⟨by rfl, fun w hSw => by go_simp⟩) hcellb ?_
                    (try simp only [Act.put, List.setIfInBounds_toArray, List.set_cons_zero, List.set_cons_succ, List.getElem_toArray, List.getElem_cons_zero, List.getElem_cons_succ])
                    refine wpAnyH_done (by kernel_rfl) ?_ _
                    go_wp2_with fail
                    exact ⟨⟨j + 1, rfl, Nat.succ_le_succ HJJ.out, HRb, hcellb, HLb, HLWb⟩, meas (Int.lt_succ _) (Int.le_trans (Int.add_le_add_right (Int.ofNat_le.2 (Nat.le_of_lt HJ8.out)) 1) (by decide))⟩
                  · have hge := gt_c hj
                    clear hj HJ
                    go_wp2_with fail
                    exact ⟨⟨rfl, 3, rfl, _, _, _, .inr (.inr (.inr (.inl ⟨rfl, rfl, rfl, HQ.out⟩))), HR⟩, by decide⟩
              · clear HT
                have HP : Hid (Rc2 E n a b a k4) := p1
                clear p1
                obtain ⟨n1, n2⟩ := numN HN1.out.2 HB1.out
                obtain ⟨q1, q2, q3, q4, q5, q6⟩ := num7 HN8.out
                go_wp2_with fail
                refine (num_w b (Nat.lt_of_le_of_lt HB1.out (by decide)) _ (hA.out.below HH.out.bel)).mono ?_
                rintro e u1 ⟨rfl, c1⟩
                have H5 : Hid (ShS E w u1 x (rcG 8 n (nT a)) (rcG 8 n (nT a)) k4) := HH.out.below c1
                clear c1 HH
                go_wp2_with fail
                refine (set_s hA H5 (t := nT b) (txt_num1 HB1.out) (c := 0) (by unfold Hid; decide)).mono ?_
                rintro e u2 ⟨rfl, g2⟩
                have H6 : Hid (ShS E w u2 x (rcG 8 n (nT a)) (rcG 8 n (nT b)) k4) := by have h := g2.out.1; rw [rcG_num] at h; exact h
                clear g2 H5
                go_wp2_with fail
                refine (work_s HE hA H6 o 2 HO3 (by unfold Hid; decide)).mono ?_
                rintro e u3 ⟨ao, cp, k7, bg7, rfl, g3⟩
                have H7 : Hid (ShS E w u3 x (rcG 8 n (nT b)) (rcG 8 n (nT b)) k7) := g3.out.1
                have HQ0 : bg7 = [] ∧ Rc2 E n a b b k7 := rc_turn2 HE.out HA2.out (.inr rfl) HB1.out HN1.out.2 HP.out HO3.out g3.out.2.1
                have HSL : Hid (Slc u3 9 1 (.slice ao 0 cp) 0 []) := by have h := g3.out.2.2; rw [HQ0.1] at h; exact h
                have HQ : Hid (Rc2 E n a b b k7) := HQ0.2
                obtain ⟨rfl, _⟩ := HQ0
                have hlen : ([] : List Nat).length = 0 := rfl
                rw [hlen]
                clear hlen
                clear g3 HP H6
                go_wp2_with fail
                obtain ⟨O, hO⟩ : ∃ O, Obj.cells #[.slice ao 0 cp] 72 = O := ⟨_, rfl⟩
                rw [hO]
                have H8 : Hid (ShS E w (u3.alloc O) x (rcG 8 n (nT b)) (rcG 8 n (nT b)) k7) := H7.out.below (bel_alloc u3 O)
                have HC0 : Hid ((u3.alloc O).cell? ⟨u3.heap.size, 0, none⟩ = some (.slice ao 0 cp)) := by rw [← hO]; unfold Hid; simp
                have HL0 : Hid (Slc (u3.alloc O) 9 1 (.slice ao 0 cp) 0 []) := HSL.out.bel (bel_alloc u3 O)
                have HLT : Hid (u3.heap.size < (u3.alloc O).heap.size) := by unfold Hid; simp
                clear hO H7 HSL
                refine (name_w HN8.out _).mono ?_
                rintro e u4 ⟨rfl, c4⟩
                have H9 : Hid (ShS E w u4 x (rcG 8 n (nT b)) (rcG 8 n (nT b)) k7) := H8.out.below c4
                have HC1 : Hid (u4.cell? ⟨u3.heap.size, 0, none⟩ = some (.slice ao 0 cp)) := by unfold Hid; rw [c4.cell (p := ⟨u3.heap.size, 0, none⟩) HLT.out]; exact HC0.out
                have HL1 : Hid (Slc u4 9 1 (.slice ao 0 cp) 0 []) := HL0.out.bel c4
                have HLU : Hid (u3.heap.size < u4.heap.size) := Nat.lt_of_lt_of_le HLT.out c4.size
                clear HC0 HL0 HLT
                clear c4 H8
                go_wp2_with fail
                refine (is_s H9 (c := 6 * n) (nA_cell HN8.out) ((b : Int) + n)).mono ?_
                rintro e u5 ⟨rfl, g5⟩
                rw [show (k7.last (6 * n)).v = vI ((b : Int) + n) from rc_vals2 HE.out HB1.out HN1.out.2 H9.out.kinv.v, eqB_self]
                have H10 : Hid (ShS E w u5 x (rcG 8 n (nT b)) (rcG 8 n (nT b)) k7) := g5.out.1
                have HC2 : Hid (u5.cell? ⟨u3.heap.size, 0, none⟩ = some (.slice ao 0 cp)) := by unfold Hid; rw [g5.out.2.cell (p := ⟨u3.heap.size, 0, none⟩) HLU.out]; exact HC1.out
                have HL2 : Hid (Slc u5 9 1 (.slice ao 0 cp) 0 []) := HL1.out.bel g5.out.2
                have HLV : Hid (u3.heap.size < u5.heap.size) := Nat.lt_of_lt_of_le HLU.out g5.out.2.size
                clear HC1 HL1 HLU
                clear g5 H9 n1 n2
                go_wp2_with fail
                go_loopw [21] (fun u wr => ∃ j : Nat, u = .int .i64 j ∧ Hid (j ≤ n + 1) ∧ Hid (ShS E w wr x (rcG 8 n (nT b)) (rcG 8 n (nT b)) k7) ∧ wr.cell? ⟨u3.heap.size, 0, none⟩ = some (.slice ao 0 cp) ∧ Hid (Slc wr 9 1 (.slice ao 0 cp) 0 []) ∧ Hid (u3.heap.size < wr.heap.size)) (fun u _ => (100 - intOf u).toNat)
                case atStart => exact ⟨0, rfl, Nat.zero_le _, H10, HC2.out, HL2, HLV⟩
                case round =>
                  obtain ⟨j, rfl, HJ, HR, hcell, HL, HLW⟩ := hrel
                  clear H10 HC2 HL2 HLV
                  by_cases hj : j ≤ n
                  · have HJJ : Hid (j ≤ n) := hj
                    have HJ8 : Hid (j < 8) := Nat.lt_of_le_of_lt hj HN8.out
                    have hjj := le_c hj
                    obtain ⟨j1, j2, j3, j4, j5, j6⟩ := num7 HJ8.out
                    clear hj HJ
                    go_wp2_with fail
                    have hS0 : (fun w' : World => w'.cell? ⟨u3.heap.size, 0, none⟩ = some (.slice ao 0 cp)) { wr with drawn := wr.drawn + 1 } := hcell
                    refine wp_region_held (S := (fun w' : World => w'.cell? ⟨u3.heap.size, 0, none⟩ = some (.slice ao 0 cp))) (by kernel_rfl) ?_
                    refine wpAnyH_take (i := 0) (v := .int .i64 3) rfl (by kernel_rfl) (by kernel_rfl) (by kernel_rfl) (fun _ _ _ h => h) (Or.inl ⟨by rfl, fun w hSw => by go_simp⟩) hS0 ?_
                    (try simp only [Act.put, List.setIfInBounds_toArray, List.set_cons_zero, List.set_cons_succ, List.getElem_toArray, List.getElem_cons_zero, List.getElem_cons_succ])
                    refine wpAnyH_take (i := 1) (v := .bool true) rfl (by kernel_rfl) (by kernel_rfl) (by kernel_rfl) (fun _ _ _ h => h) (Or.inl ⟨by rfl, fun w hSw => by go_simp⟩) hS0 ?_
                    (try simp only [Act.put, List.setIfInBounds_toArray, List.set_cons_zero, List.set_cons_succ, List.getElem_toArray, List.getElem_cons_zero, List.getElem_cons_succ])
                    refine wpAnyH_take (i := 2) (v := .bool true) rfl (by kernel_rfl) (by kernel_rfl) (by kernel_rfl) (fun _ _ _ h => h) (Or.inl ⟨by rfl, fun w hSw => by go_simp⟩) hS0 ?_
                    (try simp only [Act.put, List.setIfInBounds_toArray, List.set_cons_zero, List.set_cons_succ, List.getElem_toArray, List.getElem_cons_zero, List.getElem_cons_succ])
                    refine wpAnyH_take (i := 3) (v := .pointer (some ⟨u3.heap.size, 0, none⟩)) rfl (by kernel_rfl) (by kernel_rfl) (by kernel_rfl) (fun _ _ _ h => h) (Or.inl ⟨by rfl, fun w hSw => by go_simp⟩) hS0 ?_
                    (try simp only [Act.put, List.setIfInBounds_toArray, List.set_cons_zero, List.set_cons_succ, List.getElem_toArray, List.getElem_cons_zero, List.getElem_cons_succ])
                    refine wpAnyH_take (i := 4) (v := .slice ao 0 cp) rfl (by kernel_rfl) (by kernel_rfl) (by kernel_rfl) (fun _ _ _ h => h) (Or.inl ⟨by rfl, fun w hSw => by go_simp⟩) hS0 ?_
                    (try simp only [Act.put, List.setIfInBounds_toArray, List.set_cons_zero, List.set_cons_succ, List.getElem_toArray, List.getElem_cons_zero, List.getElem_cons_succ])
                    refine wpAnyH_take (i := 5) (v := .int .i64 j) rfl (by kernel_rfl) (by kernel_rfl) (by kernel_rfl) (fun _ _ _ h => h) (Or.inl ⟨by rfl, fun w hSw => by go_simp⟩) hS0 ?_
                    (try simp only [Act.put, List.setIfInBounds_toArray, List.set_cons_zero, List.set_cons_succ, List.getElem_toArray, List.getElem_cons_zero, List.getElem_cons_succ])
                    refine wpAnyH_take (i := 6) (v := .int .i64 (6 * (j : Int))) rfl (by kernel_rfl) (by kernel_rfl) (by kernel_rfl) (fun _ _ _ h => h) (Or.inl ⟨by rfl, fun w hSw => by go_simp⟩) hS0 ?_
                    (try simp only [Act.put, List.setIfInBounds_toArray, List.set_cons_zero, List.set_cons_succ, List.getElem_toArray, List.getElem_cons_zero, List.getElem_cons_succ])
                    refine wpAnyH_ready (rs := [7]) (by kernel_rfl) (by simp) ?_
                    refine AllReadyH.cons rfl (fun K hK => ?_) AllReadyH.nil
                    go_simp
                    refine (name_w HJ8.out _).mono ?_
                    rintro e z1 ⟨rfl, d1⟩
                    have dd : Below wr.heap.size wr z1 := ((Below.refl _ _).drew).trans d1
                    have HRb : Hid (ShS E w z1 x _ _ k7) := HR.out.below dd
                    have hcellb : z1.cell? ⟨u3.heap.size, 0, none⟩ = some (.slice ao 0 cp) := by rw [dd.cell (p := ⟨u3.heap.size, 0, none⟩) HLW.out]; exact hcell
                    have HLb : Hid (Slc z1 9 1 (.slice ao 0 cp) 0 []) := HL.out.bel dd
                    have HLWb : Hid (u3.heap.size < z1.heap.size) := Nat.lt_of_lt_of_le HLW.out dd.size
                    clear dd d1 HR HL HLW hS0
                    refine hK.out _ _ hcellb (fun _ => ?_)
                    clear hK K
                    (try simp only [Act.put, List.setIfInBounds_toArray, List.set_cons_zero, List.set_cons_succ, List.getElem_toArray, List.getElem_cons_zero, List.getElem_cons_succ])
                    refine wpAnyH_ready (rs := [8]) (by kernel_rfl) (by simp) ?_
                    refine AllReadyH.cons rfl (fun K hK => ?_) AllReadyH.nil
                    go_simp
                    refine (has_nil _ _ _ HLb).mono ?_
                    rintro e z2 ⟨rfl, rfl⟩
                    refine hK.out _ _ hcellb (fun _ => ?_)
                    clear hK K
                    (try simp only [Act.put, List.setIfInBounds_toArray, List.set_cons_zero, List.set_cons_succ, List.getElem_toArray, List.getElem_cons_zero, List.getElem_cons_succ])
                    refine wpAnyH_take (i := 9) (v := .bool false) rfl (by kernel_rfl) (by kernel_rfl) (by kernel_rfl) (fun _ _ _ h => h) (Or.inl ⟨by rfl, fun w hSw => by go_simp⟩) hcellb ?_
                    (try simp only [Act.put, List.setIfInBounds_toArray, List.set_cons_zero, List.set_cons_succ, List.getElem_toArray, List.getElem_cons_zero, List.getElem_cons_succ])
                    refine wpAnyH_done (by kernel_rfl) ?_ _
                    go_wp2_with fail
                    exact ⟨⟨j + 1, rfl, Nat.succ_le_succ HJJ.out, HRb, hcellb, HLb, HLWb⟩, meas (Int.lt_succ _) (Int.le_trans (Int.add_le_add_right (Int.ofNat_le.2 (Nat.le_of_lt HJ8.out)) 1) (by decide))⟩
                  · have hge := gt_c hj
                    clear hj HJ
                    go_wp2_with fail
                    exact ⟨⟨rfl, 4, rfl, _, _, _, .inr (.inr (.inr (.inr rfl))), HR⟩, by decide⟩
              · clear HT
                go_wp2_with fail
                go_ret
                exact ⟨rfl, HH.out.bel⟩
end Go.Proofs.YtiocnfambeochaaGreatDoor

/- The closed cells of the row of Recalled, one by one. -/
namespace Go.Proofs.YtiocnfambeochaaGreatDoor
theorem cf1 : (Rows.recalledRow.inPlace == Tryz.prog.inPlace 13) = true := by kernel_rfl
theorem cf2 : (Rows.recalledRow.unfollowed == Tryz.prog.unfollowed 13) = true := by kernel_rfl
theorem cf3 : (Rows.recalledRow.recurses == Tryz.prog.recurses 13) = true := by kernel_rfl
theorem cf4 : (Rows.recalledRow.named == Tryz.prog.varsNamed 13) = true := by kernel_rfl
theorem cf5 : laidOutB Tryz.prog = true := by kernel_rfl
theorem cf6 : mapsRowed Tryz.prog = true := by kernel_rfl
theorem recalled_closed : joinedFacts Tryz.prog 13 Tryz.f13 (OpenSpec.ofChange Rows.recalledSpec).bare Rows.recalledRow = true := by
  unfold joinedFacts
  rw [cf1, cf2, cf3, cf4, cf5, cf6]
  kernel_rfl
end Go.Proofs.YtiocnfambeochaaGreatDoor
