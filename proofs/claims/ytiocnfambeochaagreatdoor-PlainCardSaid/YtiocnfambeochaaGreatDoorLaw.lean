/- The law sheetskeep.Plain, out of contracts: of 'formula' (at depths 0 to 2) and of the sheet's calls. -/
import Derived.Test.YtiocnfambeochaaGreatDoorFmlA
import Derived.Test.YtiocnfambeochaaGreatDoorQuo
namespace Go.Proofs.YtiocnfambeochaaGreatDoor
open Go.RowKit

def f8 : Value := .string ⟨#[70, 56]⟩
/-- What the law asks of the sheet's calls: an empty sheet, an edit of F8, its formula. -/
structure SheetC (SH : World → Nat → Prop) (ST : World → Nat → List UInt8 → Prop) : Prop where
  make : ∀ W, Calls Tryz.prog 19 #[.int .i64 0] W fun e w' => ∃ x, e = .returned (.tuple #[.pointer (some ⟨x, 0, none⟩), .bool true]) ∧ (Below W.heap.size W w' ∧ SH w' x ∧ W.heap.size ≤ x)
  put : ∀ W x (t : List UInt8), SH W x → Amb W → (rd t).e = 0 → t ≠ [] → t.length ≤ 120 → ∀ B, B ≤ x → B ≤ W.heap.size →
    Calls Tryz.prog 20 #[.pointer (some ⟨x, 0, none⟩), .string ⟨#[70, 56]⟩, .string ⟨t.toArray⟩] W fun e w' => e = .returned (.bool true) ∧ (Below B W w' ∧ ST w' x (plT t))
  tell : ∀ W x (t : List UInt8), ST W x t → Calls Tryz.prog 21 #[.pointer (some ⟨x, 0, none⟩), .string ⟨#[70, 56]⟩] W fun e w' => e = .returned (.tuple #[.string ⟨t.toArray⟩, .int .i64 0]) ∧ Below W.heap.size W w'

/-- What is known of a text that 'formula' wrote. -/
structure GenF (S : List UInt8) : Prop where
  len : S.length ≤ 5000
  long : 120 < S.length → rd S = ⟨1, 0, []⟩ ∧ plT S = []
  plain : S.length ≤ 120 → (rd S).e = 0 ∧ (rd S).p = 0 ∧ plT S = S
  odd : ∀ fd, (32 :: (oddF S.length S fd).1).length ≤ 120 → (rd (32 :: (oddF S.length S fd).1)).e = 0 ∧ (rd (32 :: (oddF S.length S fd).1)).p = 0 ∧ plT (32 :: (oddF S.length S fd).1) = S
  wq : WQ S.length S
theorem genF (deep : Nat) (hd : deep ≤ 3) (fd : List UInt8) : GenF (rnd (gen deep fd).1) where
  len := Nat.le_trans (gen_len deep _) (Ln_small hd)
  long := fun h => by
    have e : rd (rnd (gen deep fd).1) = ⟨1, 0, []⟩ := by unfold rd; rw [if_pos h]
    exact ⟨e, by unfold plT; rw [e]; simp⟩
  plain := fun h => made_plain deep (by omega) fd h
  odd := fun fd2 h => made_odd deep (by omega) fd fd2 _ (Nat.le_refl _) h
  wq := wq_good _ _ (gen_fg deep fd).1.good (Nat.le_refl _)
theorem str_val {a b : ByteArray} (h : a.data.toList = b.data.toList) : Value.string a = .string b := by
  obtain ⟨⟨a⟩⟩ := a
  obtain ⟨⟨b⟩⟩ := b
  simp only at h
  rw [h]
theorem ext_one (sb : ByteArray) (k : Nat) (h : k < sb.size) : (sb.extract k (k + 1)).data.toList = [sb[k]] := by
  rw [extract_eq, drop_at sb k h, Nat.add_sub_cancel_left]; rfl
theorem add_val (O : List UInt8) (t : ByteArray) (x : List UInt8) (h : t.data.toList = x) : Value.string (⟨(32 :: O).toArray⟩ ++ t) = .string ⟨(32 :: (O ++ x)).toArray⟩ := str_val (by simp [h])
theorem two_val (O : List UInt8) (t : ByteArray) (x : List UInt8) (h : t.data.toList = x) : Value.string (⟨(32 :: O).toArray⟩ ++ t ++ ⟨#[32, 32]⟩) = .string ⟨(32 :: (O ++ x ++ [32, 32])).toArray⟩ := str_val (by simp [h])
theorem ba_eta (s : ByteArray) : (⟨s.data.toList.toArray⟩ : ByteArray) = s := by obtain ⟨⟨l⟩⟩ := s; rfl

set_option maxHeartbeats 4000000 in
set_option maxRecDepth 100000 in
theorem law_walk (SH : World → Nat → Prop) (ST : World → Nat → List UInt8 → Prop) (sc : SheetC SH ST) (sf : ∀ d, d ≤ 2 → Fml d) (raw : ByteArray) (hraw : raw.size ≤ 9223372036854775806) (w : World) (hA : Hid (Amb w)) :
    Calls Tryz.prog 4 #[.string raw] w fun e w' => e = .returned (.bool true) ∧ Below w.heap.size w w' := by
  have HF0 : Hid (FD (w.alloc (.cells #[.string raw, .int .i64 0] 30)) w.heap.size w.heap.size raw.data.toList) := ⟨⟨raw, 0, heap_alloc_new w _, by omega, hraw, rfl⟩, Nat.le_refl _⟩
  have HW0 : Hid (Below w.heap.size w (w.alloc (.cells #[.string raw, .int .i64 0] 30))) := (Below.refl _ _).alloc (Nat.le_refl _) _
  go_enter Tryz.func4, Tryz.ntmps4
  go_wp2_with fail
  refine (next_any 3 (by omega) (by omega) _ w.heap.size w.heap.size raw.data.toList HF0).mono ?_
  rintro e w1 ⟨rfl, hb1, hf1⟩
  have HF1 : Hid _ := hf1
  have HW1 : Hid (Below w.heap.size w w1) := below_gb HW0.out hb1 HF0.out.size HF0.out.low
  have hdl := nx_lt 3 (by omega) raw.data.toList
  clear hb1 hf1
  generalize (nx 3 raw.data.toList).1 = deep at *
  generalize (nx 3 raw.data.toList).2 = fd1 at *
  go_wp2_with fail
  refine (sf deep (by omega) w _ w.heap.size fd1 hA.out HW1.out HF1.out).mono ?_
  rintro e w2 ⟨rfl, hb2, hf2⟩
  have HF2 : Hid _ := hf2
  have HW2 : Hid (Below w.heap.size w w2) := below_gb HW1.out hb2 HF1.out.size HF1.out.low
  obtain ⟨sb, hsb⟩ : ∃ sb : ByteArray, sb = ⟨(rnd (gen deep fd1).1).toArray⟩ := ⟨_, rfl⟩
  have HGF : Hid (GenF sb.data.toList) := by unfold Hid; rw [hsb]; exact genF deep (by omega) fd1
  have hsz : sb.size ≤ 5000 := by rw [← len_eq]; exact HGF.out.len
  rw [← hsb]
  clear hb2 hf2 hsb
  generalize (gen deep fd1).2 = fd2 at *
  have hB2 := HF2.out.size
  clear HF1 HW1 HF0 HW0 hdl sf
  go_wp2_with fail
  go_loopw [5, 6] (fun o i wr => ∃ (k : Nat) (O fdc : List UInt8), k ≤ sb.size ∧ o = .string ⟨(32 :: O).toArray⟩ ∧ i = .int .i64 k ∧ O.length ≤ 3 * k ∧ Hid (FD wr w.heap.size w.heap.size fdc) ∧ Hid (Below w.heap.size w wr) ∧ Hid (OddAt sb.data.toList fd2 k O fdc)) (fun _ i _ => sb.size - (intOf i).toNat)
  case atStart => exact ⟨0, [], fd2, by omega, rfl, rfl, by simp, HF2, HW2, by unfold Hid; exact oddAt_start _ _ HGF.out.wq⟩
  case round =>
    obtain ⟨k, O, fdc, hk, rfl, rfl, hOl, HF3, HW3, hodd⟩ := hrel
    by_cases hlt : k < sb.size
    · have hlti : (k : Int) < (sb.size : Int) := by omega
      have HD : Hid _ := drop_at sb k hlt
      have HK : Hid (k < sb.data.toList.length) := by unfold Hid; rw [len_eq]; exact hlt
      by_cases h34 : (sb[k].toNat : Int) = 34
      · have b34 : ((sb[k].toNat : Int) == 34) = true := by simpa using h34
        have HC : Hid (sb[k] = 34) := by unfold Hid; exact UInt8.toNat_inj.1 (by have : (34 : UInt8).toNat = 34 := rfl; omega)
        clear h34
        have HD34 : Hid (sb.data.toList.drop k = 34 :: sb.data.toList.drop (k + 1)) := by unfold Hid; rw [← HC.out]; exact HD.out
        have HQ : Hid _ := oddAt_quote hodd.out HD34.out HK.out
        obtain ⟨z, hz⟩ : ∃ z, spn nq (sb.data.toList.drop (k + 1)) = z := ⟨_, rfl⟩
        have HZ : Hid _ := hz
        have hzl : k + 1 + z < sb.size := by
          have := HQ.out.1
          rw [hz, List.length_drop, len_eq] at this
          omega
        have HX : Hid (OddAt sb.data.toList fd2 (k + z + 2) (O ++ (34 :: (sb.data.toList.drop (k + 1)).take (z + 1))) fdc) := by
          have := HQ.out.2; rw [hz] at this; exact this
        clear hz HQ
        go_wp2_with fail
        go_loop [8] (fun x => ∃ m : Nat, k + 1 ≤ m ∧ m ≤ k + 1 + z ∧ x = .int .i64 m ∧ Hid (spn nq (sb.data.toList.drop (k + 1)) + (k + 1) = m + spn nq (sb.data.toList.drop m))) (fun x => k + 1 + z - (intOf x).toNat)
        case atStart => exact ⟨k + 1, by omega, by omega, by go_num, by unfold Hid; omega⟩
        case round =>
          obtain ⟨m, hm1, hm2, rfl, hinv⟩ := hrel
          have hms : m < sb.size := by omega
          have hmi : (m : Int) < (sb.size : Int) := by omega
          have HST : Hid _ := spn_step nq sb m hms
          by_cases hq : (sb[m].toNat : Int) = 34
          · have bq : ((sb[m].toNat : Int) != 34) = false := by simpa using hq
            have hme : Hid (m = k + 1 + z) := by
              have h1 := hinv.out
              have h2 := HST.out
              rw [if_neg (by unfold nq; simp [hq])] at h2
              have h3 := HZ.out
              unfold Hid; omega
            have HXE : Hid ((sb.extract k (m + 1)).data.toList = 34 :: (sb.data.toList.drop (k + 1)).take (z + 1)) := by
              unfold Hid
              rw [extract_eq, HD34.out, hme.out]
              have : k + 1 + z + 1 - k = (z + 1) + 1 := by omega
              rw [this]
              rfl
            clear hq
            go_wp2_with fail
            go_roundw
            case rel =>
              have e := hme.out
              refine ⟨k + z + 2, _, fdc, by omega, add_val O _ _ HXE.out, ?_, ?_, HF3, HW3, HX⟩
              · rw [e]; go_num
              · have := hodd.out
                simp only [List.length_append, List.length_cons, List.length_take]; omega
            case measure => have e := hme.out; simp [intOf]; omega
          · have bq : ((sb[m].toNat : Int) != 34) = true := by simpa using hq
            have HN : Hid (nq (sb[m].toNat : Int) = true) := by unfold Hid nq; exact decide_eq_true hq
            clear hq
            have hml : m < k + 1 + z := by
              have h1 := hinv.out
              have h2 := HST.out
              rw [HN.out, if_pos rfl] at h2
              have h3 := HZ.out
              omega
            go_wp2_with fail
            go_round
            case rel =>
              have h1 := hinv.out
              have h2 := HST.out
              rw [HN.out, if_pos rfl] at h2
              have h3 := HZ.out
              exact ⟨m + 1, by omega, by omega, by go_num, by unfold Hid; omega⟩
            case measure => simp [intOf]; omega
      · have b34 : ((sb[k].toNat : Int) == 34) = false := by simpa using h34
        have HC : Hid (sb[k] ≠ 34) := by unfold Hid; intro h; exact h34 (by rw [h]; rfl)
        clear h34
        by_cases h40 : (sb[k].toNat : Int) = 40
        · have b32 : ((sb[k].toNat : Int) != 32) = true := by rw [h40]; rfl
          have HC2 : Hid (isBr sb[k] = true) := by
            have : sb[k] = 40 := UInt8.toNat_inj.1 (by have : (40 : UInt8).toNat = 40 := rfl; omega)
            unfold Hid; rw [this]; rfl
          have HX : Hid _ := oddAt_sign hodd.out HD.out HK.out HC.out HC2.out
          have HXE : Hid _ := ext_one sb k hlt
          go_wp2_with fail
          refine (next_any 3 (by omega) (by omega) _ w.heap.size w.heap.size fdc HF3).mono ?_
          rintro e w3 ⟨rfl, hb3, hf3⟩
          have HF4 : Hid _ := hf3
          have HW4 : Hid (Below w.heap.size w w3) := below_gb HW3.out hb3 HF3.out.size HF3.out.low
          clear hb3 hf3
          by_cases hn1 : (nx 3 fdc).1 = 1
          · have bn : (((nx 3 fdc).1 : Int) == 1) = true := by simpa using (by omega : ((nx 3 fdc).1 : Int) = 1)
            have HX2 : Hid (OddAt sb.data.toList fd2 (k + 1) (O ++ [sb[k]] ++ [32, 32]) (nx 3 fdc).2) := by
              have := HX.out; rw [if_pos hn1] at this; exact this
            clear hn1
            go_wp2_with fail
            go_roundw
            case rel => exact ⟨k + 1, _, _, by omega, two_val O _ _ HXE.out, by go_num, by simp; omega, HF4, HW4, HX2⟩
            case measure => simp [intOf]; omega
          · have bn : (((nx 3 fdc).1 : Int) == 1) = false := by simpa using (by omega : ((nx 3 fdc).1 : Int) ≠ 1)
            have HX2 : Hid (OddAt sb.data.toList fd2 (k + 1) (O ++ [sb[k]]) (nx 3 fdc).2) := by
              have := HX.out; rw [if_neg hn1, List.append_nil] at this; exact this
            clear hn1
            go_wp2_with fail
            go_roundw
            case rel => exact ⟨k + 1, _, _, by omega, add_val O _ _ HXE.out, by go_num, by simp; omega, HF4, HW4, HX2⟩
            case measure => simp [intOf]; omega
        by_cases h41 : (sb[k].toNat : Int) = 41
        · have b32 : ((sb[k].toNat : Int) != 32) = true := by rw [h41]; rfl
          have HC2 : Hid (isBr sb[k] = true) := by
            have : sb[k] = 41 := UInt8.toNat_inj.1 (by have : (41 : UInt8).toNat = 41 := rfl; omega)
            unfold Hid; rw [this]; rfl
          have HX : Hid _ := oddAt_sign hodd.out HD.out HK.out HC.out HC2.out
          have HXE : Hid _ := ext_one sb k hlt
          go_wp2_with fail
          refine (next_any 3 (by omega) (by omega) _ w.heap.size w.heap.size fdc HF3).mono ?_
          rintro e w3 ⟨rfl, hb3, hf3⟩
          have HF4 : Hid _ := hf3
          have HW4 : Hid (Below w.heap.size w w3) := below_gb HW3.out hb3 HF3.out.size HF3.out.low
          clear hb3 hf3
          by_cases hn1 : (nx 3 fdc).1 = 1
          · have bn : (((nx 3 fdc).1 : Int) == 1) = true := by simpa using (by omega : ((nx 3 fdc).1 : Int) = 1)
            have HX2 : Hid (OddAt sb.data.toList fd2 (k + 1) (O ++ [sb[k]] ++ [32, 32]) (nx 3 fdc).2) := by
              have := HX.out; rw [if_pos hn1] at this; exact this
            clear hn1
            go_wp2_with fail
            go_roundw
            case rel => exact ⟨k + 1, _, _, by omega, two_val O _ _ HXE.out, by go_num, by simp; omega, HF4, HW4, HX2⟩
            case measure => simp [intOf]; omega
          · have bn : (((nx 3 fdc).1 : Int) == 1) = false := by simpa using (by omega : ((nx 3 fdc).1 : Int) ≠ 1)
            have HX2 : Hid (OddAt sb.data.toList fd2 (k + 1) (O ++ [sb[k]]) (nx 3 fdc).2) := by
              have := HX.out; rw [if_neg hn1, List.append_nil] at this; exact this
            clear hn1
            go_wp2_with fail
            go_roundw
            case rel => exact ⟨k + 1, _, _, by omega, add_val O _ _ HXE.out, by go_num, by simp; omega, HF4, HW4, HX2⟩
            case measure => simp [intOf]; omega
        by_cases h44 : (sb[k].toNat : Int) = 44
        · have b32 : ((sb[k].toNat : Int) != 32) = true := by rw [h44]; rfl
          have HC2 : Hid (isBr sb[k] = true) := by
            have : sb[k] = 44 := UInt8.toNat_inj.1 (by have : (44 : UInt8).toNat = 44 := rfl; omega)
            unfold Hid; rw [this]; rfl
          have HX : Hid _ := oddAt_sign hodd.out HD.out HK.out HC.out HC2.out
          have HXE : Hid _ := ext_one sb k hlt
          go_wp2_with fail
          refine (next_any 3 (by omega) (by omega) _ w.heap.size w.heap.size fdc HF3).mono ?_
          rintro e w3 ⟨rfl, hb3, hf3⟩
          have HF4 : Hid _ := hf3
          have HW4 : Hid (Below w.heap.size w w3) := below_gb HW3.out hb3 HF3.out.size HF3.out.low
          clear hb3 hf3
          by_cases hn1 : (nx 3 fdc).1 = 1
          · have bn : (((nx 3 fdc).1 : Int) == 1) = true := by simpa using (by omega : ((nx 3 fdc).1 : Int) = 1)
            have HX2 : Hid (OddAt sb.data.toList fd2 (k + 1) (O ++ [sb[k]] ++ [32, 32]) (nx 3 fdc).2) := by
              have := HX.out; rw [if_pos hn1] at this; exact this
            clear hn1
            go_wp2_with fail
            go_roundw
            case rel => exact ⟨k + 1, _, _, by omega, two_val O _ _ HXE.out, by go_num, by simp; omega, HF4, HW4, HX2⟩
            case measure => simp [intOf]; omega
          · have bn : (((nx 3 fdc).1 : Int) == 1) = false := by simpa using (by omega : ((nx 3 fdc).1 : Int) ≠ 1)
            have HX2 : Hid (OddAt sb.data.toList fd2 (k + 1) (O ++ [sb[k]]) (nx 3 fdc).2) := by
              have := HX.out; rw [if_neg hn1, List.append_nil] at this; exact this
            clear hn1
            go_wp2_with fail
            go_roundw
            case rel => exact ⟨k + 1, _, _, by omega, add_val O _ _ HXE.out, by go_num, by simp; omega, HF4, HW4, HX2⟩
            case measure => simp [intOf]; omega
        by_cases h43 : (sb[k].toNat : Int) = 43
        · have b32 : ((sb[k].toNat : Int) != 32) = true := by rw [h43]; rfl
          have HC2 : Hid (isBr sb[k] = true) := by
            have : sb[k] = 43 := UInt8.toNat_inj.1 (by have : (43 : UInt8).toNat = 43 := rfl; omega)
            unfold Hid; rw [this]; rfl
          have HX : Hid _ := oddAt_sign hodd.out HD.out HK.out HC.out HC2.out
          have HXE : Hid _ := ext_one sb k hlt
          go_wp2_with fail
          refine (next_any 3 (by omega) (by omega) _ w.heap.size w.heap.size fdc HF3).mono ?_
          rintro e w3 ⟨rfl, hb3, hf3⟩
          have HF4 : Hid _ := hf3
          have HW4 : Hid (Below w.heap.size w w3) := below_gb HW3.out hb3 HF3.out.size HF3.out.low
          clear hb3 hf3
          by_cases hn1 : (nx 3 fdc).1 = 1
          · have bn : (((nx 3 fdc).1 : Int) == 1) = true := by simpa using (by omega : ((nx 3 fdc).1 : Int) = 1)
            have HX2 : Hid (OddAt sb.data.toList fd2 (k + 1) (O ++ [sb[k]] ++ [32, 32]) (nx 3 fdc).2) := by
              have := HX.out; rw [if_pos hn1] at this; exact this
            clear hn1
            go_wp2_with fail
            go_roundw
            case rel => exact ⟨k + 1, _, _, by omega, two_val O _ _ HXE.out, by go_num, by simp; omega, HF4, HW4, HX2⟩
            case measure => simp [intOf]; omega
          · have bn : (((nx 3 fdc).1 : Int) == 1) = false := by simpa using (by omega : ((nx 3 fdc).1 : Int) ≠ 1)
            have HX2 : Hid (OddAt sb.data.toList fd2 (k + 1) (O ++ [sb[k]]) (nx 3 fdc).2) := by
              have := HX.out; rw [if_neg hn1, List.append_nil] at this; exact this
            clear hn1
            go_wp2_with fail
            go_roundw
            case rel => exact ⟨k + 1, _, _, by omega, add_val O _ _ HXE.out, by go_num, by simp; omega, HF4, HW4, HX2⟩
            case measure => simp [intOf]; omega
        by_cases h32 : (sb[k].toNat : Int) = 32
        · have b32 : ((sb[k].toNat : Int) != 32) = false := by simpa using h32
          have HC2 : Hid (sb[k] = 32) := by unfold Hid; exact UInt8.toNat_inj.1 (by have : (32 : UInt8).toNat = 32 := rfl; omega)
          have HX : Hid _ := oddAt_blank hodd.out (show sb.data.toList.drop k = 32 :: sb.data.toList.drop (k + 1) by rw [← HC2.out]; exact HD.out) HK.out
          clear h32
          go_wp2_with fail
          go_roundw
          case rel => exact ⟨k + 1, O, fdc, by omega, rfl, by go_num, by omega, HF3, HW3, HX⟩
          case measure => simp [intOf]; omega
        · have b32 : ((sb[k].toNat : Int) != 32) = true := by simpa using h32
          have HC2 : Hid (sb[k] ≠ 32) := by unfold Hid; intro h; exact h32 (by rw [h]; rfl)
          have HC3 : Hid (isBr sb[k] = false) := by
            have f : ∀ a : UInt8, ¬ (sb[k].toNat : Int) = (a.toNat : Int) → (sb[k] == a) = false := fun a h => by
              rw [beq_eq_false_iff_ne]; intro e; exact h (by rw [e])
            unfold Hid isBr
            rw [f 40 h40, f 41 h41, f 44 h44, f 43 h43]; rfl
          have HX : Hid _ := oddAt_other hodd.out HD.out HK.out HC.out HC3.out HC2.out
          have HXE : Hid _ := ext_one sb k hlt
          clear h32
          go_wp2_with fail
          go_roundw
          case rel => exact ⟨k + 1, _, fdc, by omega, add_val O _ _ HXE.out, by go_num, by simp; omega, HF3, HW3, HX⟩
          case measure => simp [intOf]; omega
    · have e : k = sb.size := by omega
      have hlti : ¬ (k : Int) < (sb.size : Int) := by omega
      have HE : Hid ((oddF sb.data.toList.length sb.data.toList fd2).1 = O) := by
        have := hodd.out
        rw [e, ← len_eq] at this
        exact oddAt_end this
      have HS : Hid (sb.data.toList.length = sb.size) := len_eq sb
      have HEV : Hid (ErrVar wr) := (hA.out.below HW3.out).1
      clear hodd
      go_wp2_with fail
      refine (Plain_any sb _ HEV (by unfold maxLen; omega)).mono ?_
      rintro e w3 ⟨rfl, hb3⟩
      have HW4 : Hid (Below w.heap.size w w3) := HW3.out.trans (hb3.mono HF3.out.size)
      have HB4 : Hid (w.heap.size ≤ w3.heap.size) := HW4.out.size
      clear hb3
      by_cases h120 : 120 < sb.size
      · obtain ⟨g1, g2⟩ := HGF.out.long (by rw [len_eq]; exact h120)
        rw [g1, g2]
        clear g1 g2
        go_wp2_with fail
        go_ret
        exact ⟨ret_bool (by simp), HW4.out⟩
      · obtain ⟨g1, g2, g3⟩ := HGF.out.plain (by rw [len_eq]; omega)
        rw [g1, g2, g3, ba_eta]
        clear g1 g2 g3
        by_cases ho : 120 < O.length + 1
        · go_wp2_with fail
          go_ret
          exact ⟨ret_bool (by simp), HW4.out⟩
        · have HO2 : Hid ((rd (32 :: O)).e = 0 ∧ (rd (32 :: O)).p = 0 ∧ plT (32 :: O) = sb.data.toList) := by
            have := HGF.out.odd fd2
            rw [HE.out] at this
            exact this (by simp only [List.length_cons]; omega)
          have HEV4 : Hid (ErrVar w3) := (hA.out.below HW4.out).1
          go_wp2_with fail
          refine (Plain_any _ _ HEV4 (by unfold maxLen; rw [size_list]; simp only [List.length_cons]; omega)).mono ?_
          rintro e w4 ⟨rfl, hb4⟩
          have ex : (⟨(32 :: O).toArray⟩ : ByteArray).data.toList = 32 :: O := rfl
          rw [ex, HO2.out.1, HO2.out.2.1, HO2.out.2.2, ba_eta]
          clear ex
          have HW5 : Hid (Below w.heap.size w w4) := HW4.out.trans (hb4.mono HB4.out)
          clear hb4
          go_wp2_with fail
          refine (sc.make _).mono ?_
          rintro e w5 ⟨x, rfl, hb5, hsh, hx⟩
          have HW6 : Hid (Below w.heap.size w w5) := HW5.out.trans (hb5.mono HW5.out.size)
          have HSH : Hid _ := hsh
          have HX : Hid (w.heap.size ≤ x) := Nat.le_trans HW5.out.size hx
          clear hb5 hsh hx
          go_wp2_with fail
          refine (sc.put _ x (32 :: O) HSH.out (hA.out.below HW6.out) HO2.out.1 (by simp) (by simp only [List.length_cons]; omega) w.heap.size HX.out HW6.out.size).mono ?_
          rintro e w6 ⟨rfl, hb6, hst⟩
          rw [HO2.out.2.2] at hst
          have HW7 : Hid (Below w.heap.size w w6) := HW6.out.trans hb6
          have HST : Hid _ := hst
          clear hb6 hst
          go_wp2_with fail
          refine (sc.tell _ x _ HST.out).mono ?_
          rintro e w7 ⟨rfl, hb7⟩
          rw [ba_eta]
          go_wp2_with fail
          go_ret
          exact ⟨ret_bool (by simp), HW7.out.trans (hb7.mono HW7.out.size)⟩
end Go.Proofs.YtiocnfambeochaaGreatDoor
