/- Texts put together. -/
import Derived.Test.YtiocnfambeochaaGreatDoorQ50
import Derived.Test.YtiocnfambeochaaGreatDoorKg
import Derived.ProofKit
import Derived.SliceStrings
import Derived.ChangeSlices
import Derived.SizedLaws
import Derived.Carry
import Derived.Test.YtiocnfambeochaaGreatDoorCards
import Derived.Test.YtiocnfambeochaaGreatDoorTie
import Derived.OpenShut
import Derived.ShutString
import Derived.Deep.DeepHandedRow
import Derived.Lib.LaidTab
import Derived.Lay
/- The statement's own 'play', walked. -/
set_option linter.unusedVariables false
set_option linter.unusedSimpArgs false
namespace Go.Proofs.YtiocnfambeochaaGreatDoor
open Go.RowKit

theorem fd_new {w0 w : World} (hb : Below w0.heap.size w0 w) {s : ByteArray} (hs : s.size ≤ 9223372036854775806) : FD (w.alloc (.cells #[.string s, .int .i64 0] 30)) w0.heap.size w.heap.size s.data.toList :=
  ⟨⟨s, 0, rnew _ _ _, Nat.zero_le _, hs, by rw [List.drop_zero]⟩, hb.size⟩
section
variable {E : Env} {w0 w w' : World} {x : Nat} {fl fs : Nat → ByteArray} {k k' : Kp}
end
end Go.Proofs.YtiocnfambeochaaGreatDoor

/- The statement Known, walked. -/
set_option linter.unusedVariables false
set_option linter.unusedSimpArgs false
namespace Go.Proofs.YtiocnfambeochaaGreatDoor
open Go.RowKit

theorem kn_all : ∀ d, d ≤ 3 → KnW d
  | 0, _ => kn_zero
  | d + 1, h => kn_succ d (by omega) (kn_all d (by omega))
theorem knP1 {c j : Nat} (h : c = j + 1) (hc : c < 12) : IntKind.i64.wrap ((c : Int) - 1) = (j : Int) ∧ wrap64 ((c : Int) - 1) = (j : Int) := ⟨by rw [IntKind.wrap_i64]; omega, by unfold wrap64; omega⟩
theorem knP0 {c : Nat} (hc : c < 12) : IntKind.i64.wrap ((c : Int) - 1) = (c : Int) - 1 ∧ wrap64 ((c : Int) - 1) = (c : Int) - 1 ∧ 0 ≤ (c : Int) := ⟨by rw [IntKind.wrap_i64]; omega, by unfold wrap64; omega, by omega⟩
theorem kn3 {c : Nat} (h : c = 3 ∨ c = 6 ∨ c = 9) : (0 : Int) < (c : Int) ∧ (c : Int).tmod 3 = 0 ∧ 0 < c := by rcases h with rfl | rfl | rfl <;> decide
theorem kn3n {c : Nat} (hc : c < 12) (h0 : c ≠ 0) (h : ¬ (c = 3 ∨ c = 6 ∨ c = 9)) : (0 : Int) < (c : Int) ∧ ((c : Int) % 3 == 0) = false ∧ ¬ (c : Int) % 3 = 0 ∧ 0 < c := by
  have : c = 1 ∨ c = 2 ∨ c = 4 ∨ c = 5 ∨ c = 7 ∨ c = 8 ∨ c = 10 ∨ c = 11 := by omega
  rcases this with rfl | rfl | rfl | rfl | rfl | rfl | rfl | rfl <;> decide
theorem knLen {n : Nat} (h : n ≤ 1000) : IntKind.i64.wrap ((n : Int) + 30) = (n : Int) + 30 ∧ wrap64 ((n : Int) + 30) = (n : Int) + 30 := ⟨by rw [IntKind.wrap_i64]; omega, by unfold wrap64; omega⟩
theorem knHl {s : ByteArray} {L : List UInt8} (h : s.size = L.length) (hl : L.length ≤ 90) : ¬ (120 : Int) < (s.size : Int) + 30 := by omega
theorem knHg {s : ByteArray} {L : List UInt8} (h : s.size = L.length) (hl : ¬ L.length ≤ 90) : (120 : Int) < (s.size : Int) + 30 := by omega
theorem knL2 {L : List UInt8} (hl : L.length ≤ 90) : L.length ≤ 20000 := by omega
theorem knL9 {L : List UInt8} (hl : L.length ≤ 90) : ([98, 97, 100, 40, 66, 56, 32, 38, 32] ++ L).length ≤ 20000 := by simp only [List.length_append, List.length_cons, List.length_nil]; omega
theorem knDp {d m : Nat} (h : d ≤ 3) (hm : 7 ≤ m := by decide) : 1 + 2 * d ≤ m := by omega
theorem knMs {c : Nat} : ((c : Int) - 1 + 1).toNat < ((c : Int) + 1).toNat := by omega
theorem knT_3 {c j : Nat} (h : c = 3 ∨ c = 6 ∨ c = 9) (hj : c = j + 1) : (⟨(nmT j ++ [32, 43, 32, 49]).toArray⟩ : ByteArray) = knT c := by
  unfold knT
  rw [if_pos h, show c - 1 = j by omega]
theorem knT_0 {c : Nat} (h : ¬ (c = 3 ∨ c = 6 ∨ c = 9)) : (⟨(Lib.decDigits c).toArray⟩ : ByteArray) = knT c := by
  unfold knT
  rw [if_neg h]; rfl
theorem KnA.only {u u' : World} {b x : Nat} {s : ByteArray} {n : Int} (h : KnA u b s n) (ho : Only x u u') (hne : b ≠ x) : KnA u' b s n := by
  unfold KnA
  rw [ho.block b (Array.getElem?_eq_some_iff.1 h).1 hne]; exact h
theorem KnA.below {u u' : World} {b : Nat} {s : ByteArray} {n : Int} (h : KnA u b s n) (hb : Below u.heap.size u u') : KnA u' b s n := by
  unfold KnA
  rw [hb.block b (Array.getElem?_eq_some_iff.1 h).1]; exact h
theorem fails_n {E : Env} {w0 w : World} {x : Nat} {fl fs : Nat → ByteArray} {k : Kp} (h : Hid (ShS E w0 w x fl fs k)) {cl : ByteArray} {c : Nat} (hc : Hid (cellN cl.data.toList = some c)) (n : Int) {v : V} (hv : (k.last c).v = v) :
    Calls Tryz.prog 28 #[.pointer (some ⟨x, 0, none⟩), .string cl, .int .i64 n] w fun e w' => e = .returned (.bool (v.eqB (vE n))) ∧ Hid (ShS E w0 w' x fl fs k ∧ Below w.heap.size w w') := by
  refine (fails_s h hc n).mono ?_
  rintro e w' ⟨rfl, h1⟩
  rw [hv]
  exact ⟨rfl, h1⟩
set_option maxRecDepth 100000 in
set_option maxHeartbeats 16000000 in
theorem known_st (raw : ByteArray) (how store : Int) (hraw : Hid (raw.size ≤ 9223372036854775806)) (hh : Hid (I64 how)) (hs : Hid (I64 store)) (w : World) (hA : Hid (Amb w)) :
    Calls Tryz.prog 7 #[.string raw, .int .i64 how, .int .i64 store] w fun e w' => e = .returned (.bool true) ∧ Below w.heap.size w w' := by
  obtain ⟨E, hE⟩ := env_ex
  have HE : Hid (EnvOK E) := hE
  clear hE
  go_enter Tryz.func7, Tryz.ntmps7
  go_wp2_with fail
  refine (begin_s E store hs.out w w (Below.refl _ _)).mono ?_
  rintro e w1 ⟨x, rfl, g1⟩
  have H1 : Hid (ShS E w w1 x fs0 (kn0 12) (k0 (pk store 65))) := by rw [← kn_start]; exact g1.out.1
  clear g1
  generalize k0 (pk store 65) = k at *
  go_wp2_with fail
  go_loopw [9] (fun s wr => ∃ z : Int, s = .int .i64 z ∧ ∃ i : Nat, Hid (i ≤ 12 ∧ z = (i : Int) - 1) ∧ Hid (ShS E w wr x fs0 (kn0 i) k)) (fun s _ => (intOf s + 1).toNat)
  case atStart => exact ⟨11, rfl, 12, ⟨by omega, by omega⟩, H1⟩
  case round =>
    obtain ⟨z, rfl, i, HI, HH⟩ := hrel
    clear H1
    by_cases hi : i = 0
    · have hz : z = -1 := by have := HI.out.2; omega
      subst hi
      subst hz
      have H2 : Hid (ShS E w wr x fs0 (kn0 0) k) := HH
      clear HI HH
      go_wp2_with fail
      have HFD : Hid (FD (wr.alloc (.cells #[.string raw, .int .i64 0] 30)) w.heap.size wr.heap.size raw.data.toList) := fd_new H2.out.bel hraw.out
      have HB3 : Hid (Below wr.heap.size wr (wr.alloc (.cells #[.string raw, .int .i64 0] 30))) := bl1 _ _
      generalize wr.alloc (.cells #[.string raw, .int .i64 0] 30) = w3 at *
      refine (next_any 4 (by omega) (by omega) _ w.heap.size wr.heap.size raw.data.toList HFD).mono ?_
      rintro e w4 ⟨rfl, g4, f4⟩
      have HB4 : Hid (Below wr.heap.size wr w4) := below_gb HB3.out g4 HB3.out.size (Nat.le_refl _)
      have HF4 : Hid (FD w4 w.heap.size wr.heap.size (nx 4 raw.data.toList).2) := f4
      obtain ⟨dp, hdp⟩ : ∃ d, (nx 4 raw.data.toList).1 = d := ⟨_, rfl⟩
      have HDP : Hid (dp ≤ 3) := by unfold Hid; rw [← hdp]; have := nx_lt 4 (by omega) raw.data.toList; omega
      rw [hdp]
      clear g4 f4 HFD HB3 hdp
      generalize (nx 4 raw.data.toList).2 = fd at *
      go_wp2_with fail
      refine (kn_all dp HDP.out w w4 wr.heap.size fd hA.out (H2.out.bel.trans (HB4.out.mono H2.out.bel.size)) HF4.out).mono ?_
      rintro e w5 ⟨rfl, g5, f5⟩
      have HB5 : Hid (Below wr.heap.size wr w5) := below_gb HB4.out g5 HB4.out.size (Nat.le_refl _)
      have H5 : Hid (ShS E w w5 x fs0 (kn0 0) k) := H2.out.below HB5.out
      have HSM : Hid ((rnd (knG dp fd).1.g).length ≤ 1000) := kn_small HDP.out fd
      have HKG : Hid (KG (1 + 2 * dp) (knG dp fd).1.g (knG dp fd).1.d) := kn_kg dp fd
      have HXL : Hid (x < w5.heap.size) := H5.out.sr.lt
      clear g5 f5 HB4 HF4 HB5 H2
      obtain ⟨L, hL⟩ : ∃ L, rnd (knG dp fd).1.g = L := ⟨_, rfl⟩
      obtain ⟨N, hN⟩ : ∃ N, (knG dp fd).1.n = N := ⟨_, rfl⟩
      obtain ⟨sA, hsA⟩ : ∃ s : ByteArray, (⟨L.toArray⟩ : ByteArray) = s := ⟨_, rfl⟩
      have HLL : Hid (rnd (knG dp fd).1.g = L) := hL
      have HNN : Hid ((knG dp fd).1.n = N) := hN
      have HSA : Hid ((⟨L.toArray⟩ : ByteArray) = sA) := hsA
      rw [hL, hN, hsA]
      rw [hL] at HSM
      have hsz : sA.size = L.length := by rw [← hsA]; simp [ByteArray.size]
      have HSZ : Hid (sA.size = L.length) := hsz
      clear hL hN hsA
      obtain ⟨l1, l2⟩ := knLen HSM.out
      rw [← hsz] at l1 l2
      by_cases hlen : L.length ≤ 90
      · have hl3 := knHl hsz hlen
        have HLE : Hid (L.length ≤ 90) := hlen
        have HTA : Hid (TxtOK sA (knG dp fd).1.d) := by unfold Hid; rw [← HSA.out, ← HLL.out]; exact txt_kg HKG.out (knDp HDP.out) (by rw [HLL.out]; exact Nat.le_trans HLE.out (by decide))
        obtain ⟨sB, hsB⟩ : ∃ s : ByteArray, (⟨([65, 56, 32, 47, 32, 48, 32, 43, 32] ++ L).toArray⟩ : ByteArray) = s := ⟨_, rfl⟩
        obtain ⟨sc, hsc⟩ : ∃ s : ByteArray, (⟨([98, 97, 100, 40, 66, 56, 32, 38, 32] ++ L).toArray⟩ : ByteArray) = s := ⟨_, rfl⟩
        obtain ⟨sC, hsC⟩ : ∃ s : ByteArray, (⟨([98, 97, 100, 40, 66, 56, 32, 38, 32] ++ L ++ [41]).toArray⟩ : ByteArray) = s := ⟨_, rfl⟩
        have HTB : Hid (TxtOK sB (binA 5 (binA 8 (rdc 42) (retA (vI (0 : Nat)))) (knG dp fd).1.d)) := by unfold Hid; rw [← hsB, ← HLL.out]; exact txt_kB HKG.out (knDp HDP.out) (by rw [HLL.out]; exact HLE.out)
        have HTC : Hid (TxtOK sC (badA' (binA 9 (rdc 43) (knG dp fd).1.d))) := by unfold Hid; rw [← hsC, ← HLL.out]; exact txt_kC HKG.out (knDp HDP.out) (by rw [HLL.out]; exact HLE.out)
        have k1 := cats (P := Tryz.prog) [65, 56, 32, 47, 32, 48, 32, 43, 32] L (by decide) (knL2 hlen)
        have k2 := cats (P := Tryz.prog) [98, 97, 100, 40, 66, 56, 32, 38, 32] L (by decide) (knL2 hlen)
        have k3 := cats (P := Tryz.prog) ([98, 97, 100, 40, 66, 56, 32, 38, 32] ++ L) [41] (knL9 hlen) (by decide)
        rw [HSA.out, hsB] at k1
        rw [HSA.out, hsc] at k2
        rw [hsc, hsC] at k3
        clear hlen hsB hsc hsC hsz
        go_wp2_with fail
        have HK6 : Hid (KnA (w5.alloc (.cells #[.string sA, .int .i64 N] 45)) w5.heap.size sA N) := rnew _ _ _
        have H6 : Hid (ShS E w (w5.alloc (.cells #[.string sA, .int .i64 N] 45)) x fs0 (kn0 0) k) := H5.out.below (bl1 _ _)
        have HNX : Hid (w5.heap.size ≠ x) := Nat.ne_of_gt HXL.out
        clear H5 l1 l2 hl3
        generalize w5.alloc (.cells #[.string sA, .int .i64 N] 45) = w6 at *
        generalize w5.heap.size = b13 at *
        refine (set_s hA H6 (t := sA) HTA (c := 42) (by unfold Hid; decide)).mono ?_
        rintro e w7 ⟨rfl, g7⟩
        have H7 := g7.out.1
        have H7 : Hid _ := H7
        have HK7 : Hid (KnA w7 b13 sA N) := HK6.out.only g7.out.2 HNX.out
        clear g7 H6 HK6
        obtain ⟨y0, y1, y2, y3⟩ := two_cells HK7.out
        go_wp2_with fail
        clear y0 y1 y2 y3
        refine (set_s hA H7 (t := sB) HTB (c := 43) (by unfold Hid; decide)).mono ?_
        rintro e w8 ⟨rfl, g8⟩
        have H8 := g8.out.1
        have H8 : Hid _ := H8
        have HK8 : Hid (KnA w8 b13 sA N) := HK7.out.only g8.out.2 HNX.out
        clear g8 H7 HK7
        obtain ⟨y0, y1, y2, y3⟩ := two_cells HK8.out
        go_wp2_with fail
        clear y0 y1 y2 y3
        refine (set_s hA H8 (t := sC) HTC (c := 44) (by unfold Hid; decide)).mono ?_
        rintro e w9 ⟨rfl, g9⟩
        have H9 := g9.out.1
        have H9 : Hid _ := H9
        have HK9 : Hid (KnA w9 b13 sA N) := HK8.out.only g9.out.2 HNX.out
        clear g9 H8 HK8
        go_wp2_with fail
        refine (set_s hA H9 (t := tkD) txt_kD (c := 45) (by unfold Hid; decide)).mono ?_
        rintro e w10 ⟨rfl, g10⟩
        obtain ⟨F, hF⟩ : ∃ F, updF (updF (updF (updF (kn0 0) 42 sA) 43 sB) 44 sC) 45 tkD = F := ⟨_, rfl⟩
        have HF0 : Hid (∀ c, c < 12 → F c = knT c) := fun c hc => by
          rw [← hF]
          unfold updF
          rw [if_neg (by omega), if_neg (by omega), if_neg (by omega), if_neg (by omega)]; exact kn_at hc
        have HF42 : Hid (F 42 = sA ∧ F 43 = sB ∧ F 44 = sC ∧ F 45 = tkD) := by rw [← hF]; exact ⟨rfl, rfl, rfl, rfl⟩
        have H10 : Hid (ShS E w w10 x fs0 F k) := by have h := g10.out.1; rw [hF] at h; exact h
        have HK10 : Hid (KnA w10 b13 sA N) := HK9.out.only g10.out.2 HNX.out
        clear g10 H9 HK9 k1 k2 k3 hF
        go_wp2_with fail
        refine (worked_s HE hA H10 how hh).mono ?_
        rintro e w11 ⟨v11, k11, bg11, rfl, g11⟩
        have H11 : Hid (ShS E w w11 x F F k11) := g11.out.1
        have HK11 : Hid (KnA w11 b13 sA N) := HK10.out.only g11.out.2.2.1 HNX.out
        have hval := kn_worth HE.out HF0.out H11.out.kinv.v HDP.out HF42.out.1 HF42.out.2.1 HF42.out.2.2.1 HF42.out.2.2.2 HTA.out HTB.out HTC.out
        rw [HNN.out] at hval
        have HVL : Hid ((k11.last 42).v = vI N ∧ (k11.last 43).v = vE 2 ∧ (k11.last 44).v = vB true ∧ (k11.last 45).v = if N = 0 then vI 0 else vE 1) := hval
        clear g11 H10 HK10 hval HF0 HF42 HTA HTB HTC
        obtain ⟨y0, y1, y2, y3⟩ := two_cells HK11.out
        go_wp2_with fail
        clear y0 y1 y2 y3
        refine (is_s H11 (c := 42) (by unfold Hid; decide) N).mono ?_
        rintro e w12 ⟨rfl, g12⟩
        rw [HVL.out.1, eqB_self]
        have H12 : Hid (ShS E w w12 x F F k11) := g12.out.1
        have HK12 : Hid (KnA w12 b13 sA N) := HK11.out.below g12.out.2
        clear g12 H11 HK11
        go_wp2_with fail
        refine (fails_n H12 (c := 43) (by unfold Hid; decide) 2 HVL.out.2.1).mono ?_
        rintro e w13 ⟨rfl, g13⟩
        rw [eqB_self]
        have H13 : Hid (ShS E w w13 x F F k11) := g13.out.1
        have HK13 : Hid (KnA w13 b13 sA N) := HK12.out.below g13.out.2
        clear g13 H12 HK12
        go_wp2_with fail
        refine (val_v H13 (c := 44) (by unfold Hid; decide) 2 1 HVL.out.2.2.1).mono ?_
        rintro e w14 ⟨rfl, g14⟩
        have H14 : Hid (ShS E w w14 x F F k11) := g14.out.1
        have HK14 : Hid (KnA w14 b13 sA N) := HK13.out.below g14.out.2
        clear g14 H13 HK13
        go_wp2_with fail
        have HQ15 : Hid ((w14.alloc (.cells #[.int .i64 2, .int .i64 1, .string ⟨#[]⟩] 52)).heap[w14.heap.size]? = some (.cells #[.int .i64 2, .int .i64 1, .string ⟨#[]⟩] 52 (0, 0))) := rnew _ _ _
        have H15 : Hid (ShS E w (w14.alloc (.cells #[.int .i64 2, .int .i64 1, .string ⟨#[]⟩] 52)) x F F k11) := H14.out.below (bl1 _ _)
        have HK15 : Hid (KnA (w14.alloc (.cells #[.int .i64 2, .int .i64 1, .string ⟨#[]⟩] 52)) b13 sA N) := HK14.out.below (bl1 _ _)
        clear H14 HK14
        generalize w14.alloc (.cells #[.int .i64 2, .int .i64 1, .string ⟨#[]⟩] 52) = w15 at *
        generalize w14.heap.size = b19 at *
        refine (fails_n H15 (c := 45) (by unfold Hid; decide) 1 HVL.out.2.2.2).mono ?_
        rintro e w16 ⟨rfl, g16⟩
        have H16 : Hid (ShS E w w16 x F F k11) := g16.out.1
        have HK16 : Hid (KnA w16 b13 sA N) := HK15.out.below g16.out.2
        have HQ16 : Hid (w16.heap[b19]? = some (.cells #[.int .i64 2, .int .i64 1, .string ⟨#[]⟩] 52 (0, 0))) := by unfold Hid; rw [g16.out.2.block _ (Array.getElem?_eq_some_iff.1 HQ15.out).1]; exact HQ15.out
        clear g16 H15 HK15 HQ15
        obtain ⟨y0, y1, y2, y3⟩ := two_cells HK16.out
        by_cases hN0 : N = 0
        · subst hN0
          rw [if_pos rfl, show (vI 0).eqB (vE 1) = false from eqB_ne (by unfold vI vE; simp)]
          go_wp2_with fail
          refine (is_s H16 (c := 45) (by unfold Hid; decide) 0).mono ?_
          rintro e w17 ⟨rfl, g17⟩
          rw [show (k11.last 45).v = vI 0 from HVL.out.2.2.2, eqB_self]
          have H17 : Hid (ShS E w w17 x F F k11) := g17.out.1
          have HQ17 : Hid (w17.heap[b19]? = some (.cells #[.int .i64 2, .int .i64 1, .string ⟨#[]⟩] 52 (0, 0))) := by unfold Hid; rw [g17.out.2.block _ (Array.getElem?_eq_some_iff.1 HQ16.out).1]; exact HQ16.out
          clear g17 H16 y0 y1 y2 y3
          obtain ⟨z0, z1, z2, z3, z4, z5⟩ := box3 rfl HQ17.out
          go_wp2_with fail
          go_ret
          exact ⟨rfl, H17.out.bel⟩
        · have hN1 : (N == 0) = false := by simpa using hN0
          rw [if_neg hN0, eqB_self]
          obtain ⟨z0, z1, z2, z3, z4, z5⟩ := box3 rfl HQ16.out
          go_wp2_with fail
          go_ret
          exact ⟨rfl, H16.out.bel⟩
      · have hl3 := knHg hsz hlen
        clear hlen hsz
        go_wp2_with fail
        go_ret
        exact ⟨rfl, (H5.out.below (bl1 _ _)).bel⟩
    · obtain ⟨c, hc⟩ : ∃ c, i = c + 1 := ⟨i - 1, by omega⟩
      have hc12 : c < 12 := by have := HI.out.1; omega
      have hz : z = (c : Int) := by have := HI.out.2; omega
      subst hz
      have HC : Hid (c < 12) := hc12
      have HH2 : Hid (ShS E w wr x fs0 (kn0 (c + 1)) k) := by rw [← hc]; exact HH
      obtain ⟨m1, m2, m3⟩ := knP0 hc12
      clear hi HI HH hc
      by_cases h3 : c = 3 ∨ c = 6 ∨ c = 9
      · obtain ⟨j, hj⟩ : ∃ j, c = j + 1 := ⟨c - 1, by omega⟩
        obtain ⟨p1, p2⟩ := knP1 hj hc12
        obtain ⟨r1, r2, r3⟩ := kn3 h3
        have HT : Hid ((⟨(nmT j ++ [32, 43, 32, 49]).toArray⟩ : ByteArray) = knT c) := knT_3 h3 hj
        have HJ : Hid (j < 48) := by unfold Hid; omega
        have H3 : Hid (c = 3 ∨ c = 6 ∨ c = 9) := h3
        have k1 := cats (P := Tryz.prog) (nmT j) [32, 43, 32, 49] (show 2 ≤ 20000 by decide) (by decide)
        rw [HT.out] at k1
        obtain ⟨sn, hsn⟩ : ∃ s : ByteArray, (⟨(nmT j).toArray⟩ : ByteArray) = s := ⟨_, rfl⟩
        have HSN : Hid ((⟨(nmT j).toArray⟩ : ByteArray) = sn) := hsn
        rw [hsn] at k1
        clear h3 hj hc12 hsn m1 m2
        go_wp2_with fail
        refine (num_any c (Nat.lt_trans HC.out (by decide)) _ (hA.out.below HH2.out.bel)).mono ?_
        rintro e u1 ⟨rfl, b1⟩
        have HHa : Hid (ShS E w u1 x fs0 (kn0 (c + 1)) k) := HH2.out.below b1
        clear b1 HH2
        go_wp2_with fail
        refine (name_any j HJ.out _).mono ?_
        rintro e u2 ⟨rfl, b2⟩
        have HHb : Hid (ShS E w u2 x fs0 (kn0 (c + 1)) k) := HHa.out.below b2
        rw [HSN.out]
        clear b2 HHa
        go_wp2_with fail
        refine (name_any c (Nat.lt_trans HC.out (by decide)) _).mono ?_
        rintro e u3 ⟨rfl, b3⟩
        have HHc : Hid (ShS E w u3 x fs0 (kn0 (c + 1)) k) := HHb.out.below b3
        clear b3 HHb
        go_wp2_with fail
        refine (set_s hA HHc (t := knT c) (txt_kn3 H3.out) (c := c) (cell_nmT HC.out)).mono ?_
        rintro e u4 ⟨rfl, g4⟩
        have HHd : Hid (ShS E w u4 x fs0 (kn0 c) k) := by have h := g4.out.1; rw [kn_next HC.out] at h; exact h
        clear g4 HHc
        obtain ⟨m1, m2, m3⟩ := knP0 HC.out
        clear p1 p2
        go_wp2_with fail
        exact ⟨⟨(c : Int) - 1, rfl, c, ⟨Nat.le_of_lt HC.out, rfl⟩, HHd⟩, knMs⟩
      · have HT : Hid ((⟨(Lib.decDigits c).toArray⟩ : ByteArray) = knT c) := knT_0 h3
        have H3 : Hid (¬ (c = 3 ∨ c = 6 ∨ c = 9)) := h3
        have HX : Hid (TxtOK (knT c) (retA (vI c))) := txt_kn0 hc12 h3
        by_cases h0 : c = 0
        · subst h0
          clear h3 hc12
          go_wp2_with fail
          refine (num_any 0 (by decide) _ (hA.out.below HH2.out.bel)).mono ?_
          rintro e u1 ⟨rfl, b1⟩
          have HHa : Hid (ShS E w u1 x fs0 (kn0 (0 + 1)) k) := HH2.out.below b1
          rw [HT.out]
          clear b1 HH2
          go_wp2_with fail
          refine (name_any 0 (by decide) _).mono ?_
          rintro e u3 ⟨rfl, b3⟩
          have HHc : Hid (ShS E w u3 x fs0 (kn0 (0 + 1)) k) := HHa.out.below b3
          clear b3 HHa
          go_wp2_with fail
          refine (set_s hA HHc (t := knT 0) HX (c := 0) (cell_nmT HC.out)).mono ?_
          rintro e u4 ⟨rfl, g4⟩
          have HHd : Hid (ShS E w u4 x fs0 (kn0 0) k) := by have h := g4.out.1; rw [kn_next HC.out] at h; exact h
          clear g4 HHc
          go_wp2_with fail
          exact ⟨⟨-1, rfl, 0, ⟨Nat.zero_le _, rfl⟩, HHd⟩, by decide⟩
        · obtain ⟨r1, r2, r3, r4⟩ := kn3n hc12 h0 h3
          clear h3 hc12 h0 m1 m2 m3
          go_wp2_with fail
          refine (num_any c (Nat.lt_trans HC.out (by decide)) _ (hA.out.below HH2.out.bel)).mono ?_
          rintro e u1 ⟨rfl, b1⟩
          have HHa : Hid (ShS E w u1 x fs0 (kn0 (c + 1)) k) := HH2.out.below b1
          rw [HT.out]
          clear b1 HH2
          go_wp2_with fail
          refine (name_any c (Nat.lt_trans HC.out (by decide)) _).mono ?_
          rintro e u3 ⟨rfl, b3⟩
          have HHc : Hid (ShS E w u3 x fs0 (kn0 (c + 1)) k) := HHa.out.below b3
          clear b3 HHa
          go_wp2_with fail
          refine (set_s hA HHc (t := knT c) HX (c := c) (cell_nmT HC.out)).mono ?_
          rintro e u4 ⟨rfl, g4⟩
          have HHd : Hid (ShS E w u4 x fs0 (kn0 c) k) := by have h := g4.out.1; rw [kn_next HC.out] at h; exact h
          clear g4 HHc
          obtain ⟨m1, m2, m3⟩ := knP0 HC.out
          go_wp2_with fail
          exact ⟨⟨(c : Int) - 1, rfl, c, ⟨Nat.le_of_lt HC.out, rfl⟩, HHd⟩, knMs⟩
end Go.Proofs.YtiocnfambeochaaGreatDoor

/- Slices that the caller hands in, opened. -/
set_option linter.unusedVariables false
set_option linter.unusedSimpArgs false
namespace Go.Proofs.YtiocnfambeochaaGreatDoor
open Go.ChangeShapes Go.WideShapes Go.ChangeAt Go.RowKit

end Go.Proofs.YtiocnfambeochaaGreatDoor

/- The closed cells of the row of Known, one by one. -/
namespace Go.Proofs.YtiocnfambeochaaGreatDoor
theorem cf1 : (Rows.knownRow.inPlace == Tryz.prog.inPlace 7) = true := by kernel_rfl
theorem cf2 : (Rows.knownRow.unfollowed == Tryz.prog.unfollowed 7) = true := by kernel_rfl
theorem cf3 : (Rows.knownRow.recurses == Tryz.prog.recurses 7) = true := by kernel_rfl
theorem cf4 : (Rows.knownRow.named == Tryz.prog.varsNamed 7) = true := by kernel_rfl
theorem cf5 : laidOutB Tryz.prog = true := by kernel_rfl
theorem cf6 : mapsRowed Tryz.prog = true := by kernel_rfl
theorem known_closed : joinedFacts Tryz.prog 7 Tryz.f7 (OpenSpec.ofChange Rows.knownSpec).bare Rows.knownRow = true := by
  unfold joinedFacts
  rw [cf1, cf2, cf3, cf4, cf5, cf6]
  kernel_rfl
end Go.Proofs.YtiocnfambeochaaGreatDoor
