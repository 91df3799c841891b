/- The program's 'first' and 'Scan': the tokens of a text. -/
import Derived.Test.YtiocnfambeochaaGreatDoorTok
import Derived.Test.YtiocnfambeochaaGreatDoorMath
namespace Go.Proofs.YtiocnfambeochaaGreatDoor
open Go.RowKit

theorem tok1_eq (s : ByteArray) (h : 0 < s.size) : tok1 s.data.toList =
    if dgB (s[0].toNat : Int) = true then numI s.data.toList else if ltB (s[0].toNat : Int) = true then wdI s.data.toList else if s[0] = 34 then qtT s.data.toList else (sgnI (s[0].toNat : Int), 1) := by
  have hd := drop_at s 0 h
  simp only [List.drop_zero, Nat.zero_add] at hd
  generalize List.drop 1 s.data.toList = r at hd
  generalize s.data.toList = l at *
  subst hd
  rfl

theorem ret_two {a b c d : Int} (h1 : a = c) (h2 : b = d) : Ending.returned (.tuple #[.int .i64 a, .int .i64 b]) = .returned (.tuple #[.int .i64 c, .int .i64 d]) := by rw [h1, h2]

set_option maxHeartbeats 1000000 in
theorem first_any (s : ByteArray) (w : World) (hs : s.size ≤ maxLen) (h0 : 0 < s.size) (hE : Hid (ErrVar w)) :
    Calls Tryz.prog 121 #[.string s] w fun e w' => e = .returned (.tuple #[.int .i64 (tok1 s.data.toList).1, .int .i64 (tok1 s.data.toList).2]) ∧ Below w.heap.size w w' := by
  have HT : Hid _ := tok1_eq s h0
  cases hd : dgB (s[0].toNat : Int)
  · cases hl : ltB (s[0].toNat : Int)
    · by_cases hq : (s[0].toNat : Int) = 34
      · have hr : Hid (tok1 s.data.toList = qtT s.data.toList) := by
          unfold Hid; rw [HT.out, hd, hl, if_neg (by simp), if_neg (by simp), if_pos (UInt8.toNat_inj.1 (by have : (34 : UInt8).toNat = 34 := rfl; omega))]
        have hq1 : ((s[0].toNat : Int) == 34) = true := by simpa using hq
        clear HT hq
        go_enter Tryz.func121, Tryz.ntmps121
        go_wp2_with (first | (go_at_call 149; refine (digit_any _ _).mono ?_; rintro e w' ⟨rfl, rfl⟩) | (go_at_call 151; refine (letter_any _ _).mono ?_; rintro e w' ⟨rfl, rfl⟩) | (go_at_call 153; refine (quoted_any s _ hs h0).mono ?_; rintro e w' ⟨rfl, rfl⟩))
        go_ret2
        rw [hr.out]
        exact ⟨rfl, Below.refl _ _⟩
      · have hr : Hid (tok1 s.data.toList = (sgnI (s[0].toNat : Int), 1)) := by
          unfold Hid; rw [HT.out, hd, hl, if_neg (by simp), if_neg (by simp), if_neg (fun h => hq (by rw [h]; rfl))]
        have hq1 : ((s[0].toNat : Int) == 34) = false := by simpa using hq
        clear HT hq
        go_enter Tryz.func121, Tryz.ntmps121
        go_wp2_with (first | (go_at_call 149; refine (digit_any _ _).mono ?_; rintro e w' ⟨rfl, rfl⟩) | (go_at_call 151; refine (letter_any _ _).mono ?_; rintro e w' ⟨rfl, rfl⟩) | (go_at_call 154; refine (sign_any _ _).mono ?_; rintro e w' ⟨rfl, rfl⟩))
        go_ret2
        rw [hr.out]
        exact ⟨rfl, Below.refl _ _⟩
    · have hr : Hid (tok1 s.data.toList = wdI s.data.toList) := by
        unfold Hid; rw [HT.out, hd, hl, if_neg (by simp), if_pos rfl]
      have hld : Hid (ldB (s[0].toNat : Int) = true) := by unfold Hid ldB; rw [hl]; rfl
      clear HT
      go_enter Tryz.func121, Tryz.ntmps121
      go_wp2_with (first | (go_at_call 149; refine (digit_any _ _).mono ?_; rintro e w' ⟨rfl, rfl⟩) | (go_at_call 151; refine (letter_any _ _).mono ?_; rintro e w' ⟨rfl, rfl⟩) | (go_at_call 152; refine (word_any s _ hs h0 hld).mono ?_; rintro e w' ⟨rfl, rfl⟩))
      go_ret2
      rw [hr.out]
      exact ⟨rfl, Below.refl _ _⟩
  · have hr : Hid (tok1 s.data.toList = numI s.data.toList) := by
      unfold Hid; rw [HT.out, hd, if_pos rfl]
    have hld : Hid (dgB (s[0].toNat : Int) = true) := hd
    clear HT
    go_enter Tryz.func121, Tryz.ntmps121
    go_wp2_with (first | (go_at_call 149; refine (digit_any _ _).mono ?_; rintro e w' ⟨rfl, rfl⟩) | (go_at_call 150; refine (number_any s _ hs h0 hld hE).mono ?_; rintro e w' ⟨rfl, hb⟩))
    go_ret2
    rw [hr.out]
    exact ⟨rfl, hb⟩

def tkCells (t : Tk) : List Value := [.int .i64 t.k, .string ⟨t.x.toArray⟩, .int .i64 t.p]
theorem tkCells_len (ts : List Tk) : (ts.flatMap tkCells).length = ts.length * 3 := by
  induction ts with
  | nil => rfl
  | cons t r ih => simp only [List.flatMap_cons, List.length_append, ih, List.length_cons, tkCells, List.length_nil]; omega
theorem Tryz.info142 : (Tryz.prog.info? 142).map (fun i => (i.zero, i.size, i.bytes)) = some (some (.agg #[.int .i64 0, .string ⟨#[]⟩, .int .i64 0]), 3, 32) := by kernel_rfl

theorem extract_eq (s : ByteArray) (a b : Nat) : s.extract a b = ⟨((s.data.toList.drop a).take (b - a)).toArray⟩ := by
  have : (s.extract a b).data.toList = (s.data.toList.drop a).take (b - a) := by rw [Lib.extract_data]
  rw [← this]

theorem ErrVar.below {w w' : World} (h : ErrVar w) (hb : Below w.heap.size w w') : ErrVar w' := by
  obtain ⟨tp, p, hv⟩ := h
  cases hg : Tryz.prog.globalNamed "strconv.ErrRange" with
  | none => unfold World.var? at hv; rw [hg] at hv; simp at hv
  | some g =>
    have hlt : g < w.heap.size := by
      unfold World.var? at hv
      simp only [hg, Option.bind_some] at hv
      by_cases h1 : g < w.heap.size
      · exact h1
      · rw [Array.getElem?_eq_none (by omega)] at hv
        simp at hv
    exact ⟨tp, p, var?_below hb hg hlt hv⟩

theorem owns_below {w w' : World} {base : Nat} {e : TypeId} {size : Nat} {v : Value} {n : Nat} {xs : List Value} (h : w.ownsRow base e size v n xs) (hb : Below w.heap.size w w') : w'.ownsRow base e size v n xs :=
  h.kept (row := none) ⟨hb.os, hb.tape, hb.output, hb.size, fun k hk _ => hb.block k hk⟩ (by
    cases v.ownBlock with
    | none => exact Or.inl rfl
    | some x => exact Or.inr (by simp))

/-- What stands behind the loop's head: so many tokens came, so many bytes are passed. -/
def ScanAt (s : ByteArray) (k : Nat) (ts : List Tk) : Prop :=
  ∃ f, s.size - k ≤ f ∧ scn s.size s.data.toList 0 = (ts ++ (scn f (s.data.toList.drop k) k).1, (scn f (s.data.toList.drop k) k).2)

theorem scanAt_start (s : ByteArray) : ScanAt s 0 [] := ⟨s.size, by omega, by simp⟩
theorem scanAt_blank (s : ByteArray) (k : Nat) (ts : List Tk) (h : ScanAt s k ts) (hk : k < s.size) (hb : s[k] = 32) : ScanAt s (k + 1) ts := by
  obtain ⟨f, hf, he⟩ := h
  obtain ⟨g, rfl⟩ : ∃ g, f = g + 1 := ⟨f - 1, by omega⟩
  rw [drop_at s k hk, scn, if_pos hb] at he
  exact ⟨g, by omega, he⟩
theorem scanAt_none (s : ByteArray) (k : Nat) (ts : List Tk) (h : ScanAt s k ts) (hk : k < s.size) (hb : s[k] ≠ 32) (h0 : (tok1 (s.data.toList.drop k)).1 = 0) : (scn s.size s.data.toList 0).2 = some k := by
  obtain ⟨f, hf, he⟩ := h
  obtain ⟨g, rfl⟩ : ∃ g, f = g + 1 := ⟨f - 1, by omega⟩
  rw [drop_at s k hk] at he h0
  rw [scn, if_neg hb, if_pos h0] at he
  rw [he]
theorem scanAt_one (s : ByteArray) (k : Nat) (ts : List Tk) (h : ScanAt s k ts) (hk : k < s.size) (hb : s[k] ≠ 32) (h0 : (tok1 (s.data.toList.drop k)).1 ≠ 0) :
    ScanAt s (k + (tok1 (s.data.toList.drop k)).2) (ts ++ [⟨(tok1 (s.data.toList.drop k)).1, (s.data.toList.drop k).take (tok1 (s.data.toList.drop k)).2, k⟩]) := by
  obtain ⟨f, hf, he⟩ := h
  obtain ⟨g, rfl⟩ : ∃ g, f = g + 1 := ⟨f - 1, by omega⟩
  have hz := tok1_size _ h0
  refine ⟨g, by omega, ?_⟩
  rw [he, scn_tok g _ k s[k] (by rw [drop_at s k hk]; rfl) hb h0, List.drop_drop]
  simp
theorem scanAt_end (s : ByteArray) (ts : List Tk) (h : ScanAt s s.size ts) : scn s.size s.data.toList 0 = (ts, none) := by
  obtain ⟨f, hf, he⟩ := h
  rw [drop_end, scn_nil] at he
  rw [he]; simp


set_option maxHeartbeats 1000000 in
theorem scan_any (s : ByteArray) (w : World) (hs : s.size ≤ 1000000) (hE : Hid (ErrVar w)) :
    Calls Tryz.prog 92 #[.string s] w fun e w' => Below w.heap.size w w' ∧
      (((scn s.size s.data.toList 0).2 = none ∧ ∃ v, e = .returned (.tuple #[v, .int .i64 0, .bool true]) ∧ w'.ownsRow w.heap.size 142 3 v (scn s.size s.data.toList 0).1.length ((scn s.size s.data.toList 0).1.flatMap tkCells)) ∨
       (∃ p : Nat, (scn s.size s.data.toList 0).2 = some p ∧ e = .returned (.tuple #[.slice none 0 0, .int .i64 p, .bool false]))) := by
  obtain ⟨i0, hi, hz0, hz1, hz2⟩ := info_parts Tryz.info142
  go_enter Tryz.func92, Tryz.ntmps92
  go_wp2_with fail
  go_loopw [5, 6] (fun v i wr => ∃ (k : Nat) (ts : List Tk), k ≤ s.size ∧ ts.length ≤ k ∧ i = .int .i64 k ∧ wr.ownsRow w.heap.size 142 3 v ts.length (ts.flatMap tkCells) ∧ Below w.heap.size w wr ∧ Hid (ScanAt s k ts)) (fun _ i _ => s.size - (intOf i).toNat)
  case atStart => exact ⟨0, [], by omega, by simp, rfl, World.ownsRow_nil _ _ _ _, Below.refl _ _, scanAt_start s⟩
  case round =>
    obtain ⟨k, ts, hk, htk, rfl, hown, hb, hsc⟩ := hrel
    by_cases hlt : k < s.size
    · by_cases hbl : (s[k].toNat : Int) = 32
      · have h1 : ((s[k].toNat : Int) == 32) = true := by simpa using hbl
        have h2 : Hid (s[k] = 32) := by unfold Hid; exact UInt8.toNat_inj.1 (by have : (32 : UInt8).toNat = 32 := rfl; omega)
        clear hbl
        go_wp2_with fail
        go_roundw
        case rel => exact ⟨k + 1, ts, by omega, by omega, by go_num, hown, hb, scanAt_blank s k ts hsc.out hlt h2.out⟩
        case measure => simp [intOf]; omega
      · have h1 : ((s[k].toNat : Int) == 32) = false := by simpa using hbl
        have h2 : Hid (s[k] ≠ 32) := by unfold Hid; intro h; exact hbl (by rw [h]; rfl)
        clear hbl
        have hx : Hid ((s.extract k s.size).data.toList = s.data.toList.drop k) := Lib.extract_to_end s k
        have hE1 : Hid (ErrVar wr) := hE.out.below hb
        obtain ⟨kd, hkd⟩ : ∃ kd, (tok1 (s.data.toList.drop k)).1 = kd := ⟨_, rfl⟩
        obtain ⟨z, hz⟩ : ∃ z, (tok1 (s.data.toList.drop k)).2 = z := ⟨_, rfl⟩
        have HK : Hid _ := hkd
        have HZ : Hid _ := hz
        clear hkd hz
        by_cases hk0 : kd = 0
        · have hk1 : (kd == 0) = true := by simpa using hk0
          have hk2 : Hid (kd = 0) := hk0
          clear hk0
          go_wp2_with fail
          refine (first_any _ _ (by unfold maxLen; simp; omega) (by simp; omega) hE1).mono ?_
          rintro e w1 ⟨rfl, hb1⟩
          rw [hx.out, HK.out, HZ.out]
          go_wp2_with fail
          go_ret3
          exact ⟨hb.trans (hb1.mono hb.size), Or.inr ⟨k, scanAt_none s k ts hsc.out hlt h2.out (by rw [HK.out, hk2.out]), rfl⟩⟩
        · have hk1 : (kd == 0) = false := by simpa using hk0
          have hzz := tok1_size (s.data.toList.drop k) (by rw [HK.out]; exact hk0)
          rw [HZ.out, List.length_drop, len_eq] at hzz
          obtain ⟨hzl, hzu⟩ := hzz
          have hk2 : Hid (kd ≠ 0) := hk0
          clear hk0
          go_wp2_with fail
          refine (first_any _ _ (by unfold maxLen; simp; omega) (by simp; omega) hE1).mono ?_
          rintro e w1 ⟨rfl, hb1⟩
          rw [hx.out, HK.out, HZ.out]
          have hown1 := owns_below hown hb1
          have hsz1 := hb1.size
          have hsz := hb.size
          clear hown hE1
          go_wp2_with (at_builtin; go_must (refine wpList_append_own _ rfl _ _ 81 rfl w.heap.size 142 i0 _ 3 32 Tryz.underlying81 hi hz0 hz1 hz2 rfl (by decide) _ _ _ rfl (hown1.alloc _) ⟨w1.heap.size, 0, none⟩ 1 1 [.int .i64 kd, .string (s.extract k (k + z)), .int .i64 k] rfl rfl ?c1 ?c2 ?c3 ?c4 ?c5 ?_))
          case c1 =>
            intro j u hj
            match j, hj with
            | 0, hj => simp at hj; subst hj; simp [Addr.add]
            | 1, hj => simp at hj; subst hj; simp [Addr.add]
            | 2, hj => simp at hj; subst hj; simp [Addr.add]
            | j + 3, hj => simp at hj
          case c2 =>
            intro u hu
            simp only [List.mem_cons, List.not_mem_nil, or_false] at hu
            rcases hu with rfl | rfl | rfl <;> rfl
          case c3 => unfold maxLen; omega
          case c4 => omega
          case c5 => simp; omega
          intro v' w2 hown2 hgrow _
          have hnew : Hid (w2.ownsRow w.heap.size 142 3 v' (ts ++ [Tk.mk kd ((s.data.toList.drop k).take z) k]).length ((ts ++ [Tk.mk kd ((s.data.toList.drop k).take z) k]).flatMap tkCells)) := by
            have e1 : s.extract k (k + z) = ⟨((s.data.toList.drop k).take z).toArray⟩ := by rw [extract_eq, Nat.add_sub_cancel_left]
            rw [e1] at hown2
            unfold Hid
            rw [List.length_append, List.flatMap_append]
            exact hown2
          have hbel : Hid (Below w.heap.size w w2) := by
            refine ((hb.trans (hb1.mono hsz)).alloc (by omega) _).grown hgrow (by simp; omega) ?_
            intro q hq
            exact (hown1.lt q hq).1
          have hsc2 : Hid (ScanAt s (k + z) (ts ++ [Tk.mk kd ((s.data.toList.drop k).take z) k])) := by
            have := scanAt_one s k ts hsc.out hlt h2.out (by rw [HK.out]; exact hk2.out)
            rw [HK.out, HZ.out] at this
            exact this
          clear hown2 hgrow hown1 hsc
          go_wp2_with fail
          go_roundw
          case rel => exact ⟨k + z, ts ++ [Tk.mk kd ((s.data.toList.drop k).take z) k], by omega, by simp; omega, by go_num, hnew.out, hbel.out, hsc2⟩
          case measure => simp [intOf]; omega
    · go_wp2_with fail
      have e : k = s.size := by omega
      subst e
      have hfin := scanAt_end s ts hsc.out
      go_ret3
      rw [hfin]
      exact ⟨hb, Or.inl ⟨rfl, _, rfl, hown⟩⟩

end Go.Proofs.YtiocnfambeochaaGreatDoor
