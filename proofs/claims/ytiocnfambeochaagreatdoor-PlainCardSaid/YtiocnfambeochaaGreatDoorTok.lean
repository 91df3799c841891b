/- The program's tokens: 'number', 'word', 'quoted', 'first': the kind and the size of the token that a text begins with. -/
import Derived.Test.YtiocnfambeochaaGreatDoorLeaf
import Derived.Test.YtiocnfambeochaaGreatDoorShelf
import Derived.Lib.AtoiErrMem
namespace Go.Proofs.YtiocnfambeochaaGreatDoor
open Go.RowKit

def ErrVar (w : World) : Prop := ∃ tp p, w.var? Tryz.prog "strconv.ErrRange" = some #[.iface tp p]

theorem spn_extract0 (s : ByteArray) (k : Nat) : (s.extract 0 k).data.toList = s.data.toList.take k := by
  rw [Lib.extract_data]; simp

theorem number_close (s : ByteArray) (k : Nat) (hk : k ≤ 19) (hk0 : 0 < k) (hks : k ≤ s.size) (hsp : spn dgB s.data.toList = k) :
    Lib.parseIntB 64 (s.extract 0 k).data.toList = if 9223372036854775807 < valN (s.data.toList.take k) then .range else .ok (valN (s.data.toList.take k) : Int) := by
  rw [spn_extract0 s k]
  refine parse_digits _ ?_ ?_ ?_
  · intro h
    have := congrArg List.length h
    have hl := len_eq s
    simp only [List.length_take, List.length_nil] at this
    omega
  · have := spn_take dgB s.data.toList
    rw [hsp] at this
    exact this
  · simp only [List.length_take]; omega

theorem parse_ok (t : ByteArray) (ht : t.size ≤ 19) (v : Int) (h : Lib.parseIntB 64 t.data.toList = .ok v) (w : World) :
    Calls Tryz.prog 108 #[.string t, .int .i64 10, .int .i64 64] w fun e w' => e = .returned (.tuple #[.int .i64 v, .nilIface]) ∧ Below w.heap.size w w' := by
  refine (Tryz.strconv_ParseInt_10_at64_ok t (by omega) v h w).mono ?_
  rintro e w' ⟨rfl, rfl | ⟨t, rfl⟩⟩
  · exact ⟨rfl, Below.refl _ _⟩
  · exact ⟨rfl, Lib.bytesWorld_below w 5 t⟩
theorem parse_range (t : ByteArray) (ht : t.size ≤ 19) (h : Lib.parseIntB 64 t.data.toList = .range) (w : World) (hE : ErrVar w) :
    Calls Tryz.prog 108 #[.string t, .int .i64 10, .int .i64 64] w fun e w' => ∃ x N, e = .returned (.tuple #[.int .i64 x, .iface 269 (.pointer (some ⟨N, 0, none⟩))]) ∧ Below w.heap.size w w' := by
  obtain ⟨tp, p, hv⟩ := hE
  refine (Tryz.strconv_ParseInt_10_at64_range_var t (by omega) h tp p w hv).mono ?_
  rintro e w' ⟨N, rfl, _, _, hb⟩
  exact ⟨_, N, rfl, hb⟩

set_option maxHeartbeats 1000000 in
theorem number_any (s : ByteArray) (w : World) (hs : s.size ≤ maxLen) (h0 : 0 < s.size) (hd0 : Hid (dgB (s[0].toNat : Int) = true)) (hE : Hid (ErrVar w)) :
    Calls Tryz.prog 150 #[.string s] w fun e w' => e = .returned (.tuple #[.int .i64 (numI s.data.toList).1, .int .i64 (numI s.data.toList).2]) ∧ Below w.heap.size w w' := by
  unfold maxLen at hs
  have hst0 : Hid _ := spn_step dgB s 0 h0
  go_enter Tryz.func150, Tryz.ntmps150
  go_wp2_with fail
  go_loop [4] (fun i => ∃ k : Nat, 1 ≤ k ∧ k ≤ s.size ∧ i = .int .i64 k ∧ Hid (spn dgB s.data.toList = k + spn dgB (s.data.toList.drop k))) (fun i => s.size - (intOf i).toNat)
  case atStart => 
    have h := hst0.out
    rw [hd0.out, if_pos rfl] at h
    simp only [List.drop_zero, Nat.zero_add] at h
    exact ⟨1, by omega, by omega, rfl, by unfold Hid; omega⟩
  case round =>
    obtain ⟨k, hk1, hk, rfl, hinv⟩ := hrel
    by_cases hmore : ∃ hlt : k < s.size, dgB (s[k].toNat : Int) = true
    · obtain ⟨hlt, hg⟩ := hmore
      have hst : Hid _ := spn_step dgB s k hlt
      have HG : Hid _ := hg
      go_wp2_with (go_at_call 149; refine (digit_any _ _).mono ?_; rintro e w' ⟨rfl, rfl⟩)
      go_round
      case rel =>
        have hi := hinv.out
        have h3 := hst.out
        rw [HG.out, if_pos rfl] at h3
        exact ⟨k + 1, by omega, by omega, by go_num, by unfold Hid; omega⟩
      case measure => simp [intOf]; omega
    · have hsp : Hid (spn dgB s.data.toList = k) := by
        have hi := hinv.out
        by_cases hlt : k < s.size
        · have h3 := spn_step dgB s k hlt
          have hg : dgB (s[k].toNat : Int) = false := Bool.eq_false_iff.2 fun h => hmore ⟨hlt, h⟩
          rw [hg, if_neg (by simp)] at h3
          unfold Hid; omega
        · have e : k = s.size := by omega
          rw [e, spn_end] at hi
          unfold Hid; omega
      have hstop : k < s.size → ∀ hlt : k < s.size, dgB (s[k].toNat : Int) = false := fun _ hlt => Bool.eq_false_iff.2 fun h => hmore ⟨hlt, h⟩
      have hn : Hid (numI s.data.toList = if 19 < k then (0, 0) else if 9223372036854775807 < valN (s.data.toList.take k) then (0, 0) else (1, k)) := by
        unfold Hid numI; rw [hsp.out]
      clear hmore hinv hst0 hd0
      by_cases h19 : 19 < k
      · have hn2 : Hid (numI s.data.toList = (0, 0)) := by unfold Hid; rw [hn.out, if_pos h19]
        clear hn
        by_cases hlt : k < s.size
        · have hg := hstop hlt hlt
          clear hstop
          go_wp2_with (go_at_call 149; refine (digit_any _ _).mono ?_; rintro e w' ⟨rfl, rfl⟩)
          go_ret2
          rw [hn2.out]
          exact ⟨rfl, Below.refl _ _⟩
        · clear hstop
          go_wp2_with fail
          go_ret2
          rw [hn2.out]
          exact ⟨rfl, Below.refl _ _⟩
      · have hpar : Hid _ := number_close s k (by omega) (by omega) hk hsp.out
        by_cases hr : 9223372036854775807 < valN (s.data.toList.take k)
        · have hn2 : Hid (numI s.data.toList = (0, 0)) := by unfold Hid; rw [hn.out, if_neg h19, if_pos hr]
          have hp2 : Hid (Lib.parseIntB 64 (s.extract 0 k).data.toList = .range) := by unfold Hid; rw [hpar.out, if_pos hr]
          clear hn hpar hr hsp
          by_cases hlt : k < s.size
          · have hg := hstop hlt hlt
            clear hstop
            go_wp2_with (go_at_call 149; refine (digit_any _ _).mono ?_; rintro e w' ⟨rfl, rfl⟩)
            refine (parse_range _ (by simp; omega) hp2.out _ hE.out).mono ?_
            rintro e w' ⟨x, N, rfl, hb⟩
            go_wp2_with fail
            go_ret2
            rw [hn2.out]
            exact ⟨rfl, hb⟩
          · clear hstop
            go_wp2_with fail
            refine (parse_range _ (by simp; omega) hp2.out _ hE.out).mono ?_
            rintro e w' ⟨x, N, rfl, hb⟩
            go_wp2_with fail
            go_ret2
            rw [hn2.out]
            exact ⟨rfl, hb⟩
        · have hn2 : Hid (numI s.data.toList = (1, k)) := by unfold Hid; rw [hn.out, if_neg h19, if_neg hr]
          have hp2 : Hid (Lib.parseIntB 64 (s.extract 0 k).data.toList = .ok (valN (s.data.toList.take k) : Int)) := by unfold Hid; rw [hpar.out, if_neg hr]
          clear hn hpar hr hsp
          by_cases hlt : k < s.size
          · have hg := hstop hlt hlt
            clear hstop
            go_wp2_with (go_at_call 149; refine (digit_any _ _).mono ?_; rintro e w' ⟨rfl, rfl⟩)
            refine (parse_ok _ (by simp; omega) _ hp2.out _).mono ?_
            rintro e w' ⟨rfl, hb⟩
            go_wp2_with fail
            go_ret2
            rw [hn2.out]
            exact ⟨rfl, hb⟩
          · clear hstop
            go_wp2_with fail
            refine (parse_ok _ (by simp; omega) _ hp2.out _).mono ?_
            rintro e w' ⟨rfl, hb⟩
            go_wp2_with fail
            go_ret2
            rw [hn2.out]
            exact ⟨rfl, hb⟩

set_option maxHeartbeats 1000000 in
theorem word_any (s : ByteArray) (w : World) (hs : s.size ≤ maxLen) (h0 : 0 < s.size) (hd0 : Hid (ldB (s[0].toNat : Int) = true)) :
    Calls Tryz.prog 152 #[.string s] w fun e w' => e = .returned (.tuple #[.int .i64 (wdI s.data.toList).1, .int .i64 (wdI s.data.toList).2]) ∧ w' = w := by
  unfold maxLen at hs
  have hst0 : Hid _ := spn_step ldB s 0 h0
  go_enter Tryz.func152, Tryz.ntmps152
  go_wp2_with fail
  go_loop [4] (fun i => ∃ k : Nat, 1 ≤ k ∧ k ≤ s.size ∧ i = .int .i64 k ∧ Hid (spn ldB s.data.toList = k + spn ldB (s.data.toList.drop k))) (fun i => s.size - (intOf i).toNat)
  case atStart =>
    have h := hst0.out
    rw [hd0.out, if_pos rfl] at h
    simp only [List.drop_zero, Nat.zero_add] at h
    exact ⟨1, by omega, by omega, rfl, by unfold Hid; omega⟩
  case round =>
    obtain ⟨k, hk1, hk, rfl, hinv⟩ := hrel
    by_cases hmore : ∃ hlt : k < s.size, ldB (s[k].toNat : Int) = true
    · obtain ⟨hlt, hg⟩ := hmore
      have hst : Hid _ := spn_step ldB s k hlt
      have HG : Hid _ := hg
      cases hl : ltB (s[k].toNat : Int)
      · have hd : dgB (s[k].toNat : Int) = true := by simpa [ldB, hl] using hg
        clear hg
        go_wp2_with (first | (go_at_call 149; refine (digit_any _ _).mono ?_; rintro e w' ⟨rfl, rfl⟩) | (go_at_call 151; refine (letter_any _ _).mono ?_; rintro e w' ⟨rfl, rfl⟩))
        go_round
        case rel =>
          have hi := hinv.out
          have h3 := hst.out
          rw [HG.out, if_pos rfl] at h3
          exact ⟨k + 1, by omega, by omega, by go_num, by unfold Hid; omega⟩
        case measure => simp [intOf]; omega
      · clear hg
        go_wp2_with (first | (go_at_call 149; refine (digit_any _ _).mono ?_; rintro e w' ⟨rfl, rfl⟩) | (go_at_call 151; refine (letter_any _ _).mono ?_; rintro e w' ⟨rfl, rfl⟩))
        go_round
        case rel =>
          have hi := hinv.out
          have h3 := hst.out
          rw [HG.out, if_pos rfl] at h3
          exact ⟨k + 1, by omega, by omega, by go_num, by unfold Hid; omega⟩
        case measure => simp [intOf]; omega
    · have hsp : Hid (spn ldB s.data.toList = k) := by
        have hi := hinv.out
        by_cases hlt : k < s.size
        · have h3 := spn_step ldB s k hlt
          have hg : ldB (s[k].toNat : Int) = false := Bool.eq_false_iff.2 fun h => hmore ⟨hlt, h⟩
          rw [hg, if_neg (by simp)] at h3
          unfold Hid; omega
        · have e : k = s.size := by omega
          rw [e, spn_end] at hi
          unfold Hid; omega
      have hstop : k < s.size → ∀ hlt : k < s.size, ltB (s[k].toNat : Int) = false ∧ dgB (s[k].toNat : Int) = false := fun _ hlt => by
        have := Bool.eq_false_iff.2 fun h => hmore ⟨hlt, h⟩
        simpa [ldB] using this
      have hn : Hid (wdI s.data.toList = if 5 < k then (0, 0) else (wrdI (s.data.toList.take k), k)) := by
        unfold Hid wdI; rw [hsp.out]
      have hex : Hid (wrdI (s.extract 0 k).data.toList = wrdI (s.data.toList.take k)) := by unfold Hid; rw [spn_extract0]
      clear hmore hinv hst0 hd0
      by_cases h19 : 5 < k
      · have hn2 : Hid (wdI s.data.toList = (0, 0)) := by unfold Hid; rw [hn.out, if_pos h19]
        clear hn
        by_cases hlt : k < s.size
        · obtain ⟨hg1, hg2⟩ := hstop hlt hlt
          clear hstop
          go_wp2_with (first | (go_at_call 149; refine (digit_any _ _).mono ?_; rintro e w' ⟨rfl, rfl⟩) | (go_at_call 151; refine (letter_any _ _).mono ?_; rintro e w' ⟨rfl, rfl⟩))
          go_ret2
          rw [hn2.out]
          exact ⟨rfl, rfl⟩
        · clear hstop
          go_wp2_with fail
          go_ret2
          rw [hn2.out]
          exact ⟨rfl, rfl⟩
      · have hn2 : Hid (wdI s.data.toList = (wrdI (s.data.toList.take k), k)) := by unfold Hid; rw [hn.out, if_neg h19]
        clear hn
        by_cases hlt : k < s.size
        · obtain ⟨hg1, hg2⟩ := hstop hlt hlt
          clear hstop
          go_wp2_with (first | (go_at_call 149; refine (digit_any _ _).mono ?_; rintro e w' ⟨rfl, rfl⟩) | (go_at_call 151; refine (letter_any _ _).mono ?_; rintro e w' ⟨rfl, rfl⟩))
          refine (wordKind_any _ _ (by unfold maxLen; simp; omega)).mono ?_
          rintro e w' ⟨rfl, rfl⟩
          rw [hex.out]
          go_wp2_with fail
          go_ret2
          rw [hn2.out]
          exact ⟨rfl, rfl⟩
        · clear hstop
          go_wp2_with fail
          refine (wordKind_any _ _ (by unfold maxLen; simp; omega)).mono ?_
          rintro e w' ⟨rfl, rfl⟩
          rw [hex.out]
          go_wp2_with fail
          go_ret2
          rw [hn2.out]
          exact ⟨rfl, rfl⟩


theorem index_any (s : ByteArray) (w : World) : Calls Tryz.prog 187 #[.string s, .int .u8 34] w fun e w' => e = .returned (.int .i64 (Lib.indexByte s.data.toList 34)) ∧ w' = w :=
  Tryz.strings_IndexByte s 34 w

theorem tail_get (s : ByteArray) (j : Nat) (h : j + 1 < s.size) : (s.data.toList.drop 1)[j]? = some s[j + 1] := by
  rw [List.getElem?_drop, Nat.add_comm 1 j, List.getElem?_eq_getElem (by have := len_eq s; omega)]; rfl

set_option maxHeartbeats 1000000 in
theorem quoted_any (s : ByteArray) (w : World) (hs : s.size ≤ maxLen) (h0 : 0 < s.size) :
    Calls Tryz.prog 153 #[.string s] w fun e w' => e = .returned (.tuple #[.int .i64 (qtT s.data.toList).1, .int .i64 (qtT s.data.toList).2]) ∧ w' = w := by
  unfold maxLen at hs
  have hge := Lib.indexByte_ge (s.data.toList.drop 1) 34
  have hx : Hid ((s.extract 1 s.size).data.toList = s.data.toList.drop 1) := Lib.extract_to_end s 1
  obtain ⟨q, hq⟩ : ∃ q, Lib.indexByte (s.data.toList.drop 1) 34 = q := ⟨_, rfl⟩
  rw [hq] at hge
  have HQ : Hid _ := hq
  clear hq
  by_cases hneg : q < 0
  · have hr : Hid (qtT s.data.toList = (0, 0)) := by unfold Hid qtT; exact qt_none _ (by rw [HQ.out]; omega)
    go_enter Tryz.func153, Tryz.ntmps153
    go_wp2_with fail
    refine (index_any _ _).mono ?_
    rintro e w' ⟨rfl, rfl⟩
    rw [hx.out, HQ.out]
    go_wp2_with fail
    go_ret2
    rw [hr.out]
    exact ⟨rfl, rfl⟩
  · obtain ⟨m, rfl⟩ := Int.eq_ofNat_of_zero_le (show 0 ≤ q by omega)
    by_cases hlong : 20 < m
    · have hr : Hid (qtT s.data.toList = (0, 0)) := by unfold Hid qtT; exact qt_long _ m HQ.out hlong
      go_enter Tryz.func153, Tryz.ntmps153
      go_wp2_with fail
      refine (index_any _ _).mono ?_
      rintro e w' ⟨rfl, rfl⟩
      rw [hx.out, HQ.out]
      go_wp2_with fail
      go_ret2
      rw [hr.out]
      exact ⟨rfl, rfl⟩
    · have h34 := Lib.indexByte_some HQ.out
      have hml : m + 1 < s.size := by
        have := (List.getElem?_eq_some_iff.1 h34.1).1
        have hl := len_eq s
        simp only [List.length_drop] at this
        omega
      have H34 : Hid _ := h34
      clear h34 hge hneg
      have hend : Hid (spn pbB (s.data.toList.drop (m + 1)) = 0) := by
        have h1 := H34.out.1
        rw [tail_get s m hml] at h1
        unfold Hid
        rw [spn_step pbB s (m + 1) hml, Option.some.inj h1]
        rfl
      go_enter Tryz.func153, Tryz.ntmps153
      go_wp2_with fail
      refine (index_any _ _).mono ?_
      rintro e w' ⟨rfl, rfl⟩
      rw [hx.out, HQ.out]
      go_wp2_with fail
      go_loop [5] (fun i => ∃ k : Nat, 1 ≤ k ∧ k ≤ m + 1 ∧ i = .int .i64 k ∧ Hid (spn pbB (s.data.toList.drop 1) + 1 = k + spn pbB (s.data.toList.drop k))) (fun i => m + 1 - (intOf i).toNat)
      case atStart => exact ⟨1, by omega, by omega, rfl, by unfold Hid; omega⟩
      case round =>
        obtain ⟨k, hk1, hk, rfl, hinv⟩ := hrel
        by_cases hlt : k ≤ m
        · have hks : k < s.size := by omega
          have hst : Hid _ := spn_step pbB s k hks
          have hne : Hid ((s[k].toNat : Int) ≠ 34) := by
            unfold Hid
            intro h
            refine H34.out.2 (k - 1) (by omega) ?_
            rw [tail_get s (k - 1) (by omega)]
            congr 1
            have e : k - 1 + 1 = k := by omega
            have : s[k - 1 + 1] = s[k] := by congr 1
            rw [this]
            exact UInt8.toNat_inj.1 (by have : (34 : UInt8).toNat = 34 := rfl; omega)
          by_cases hb1 : (s[k].toNat : Int) < 32
          · go_wp2_with fail
            go_ret2
            have hr : qtT s.data.toList = (0, 0) := by
              have h3 := hst.out
              rw [if_neg (by simp [pbB]; omega)] at h3
              have hi := hinv.out
              exact qt_bad _ m HQ.out (by omega)
            rw [hr]
            exact ⟨rfl, rfl⟩
          · by_cases hb2 : 126 < (s[k].toNat : Int)
            · go_wp2_with fail
              go_ret2
              have hr : qtT s.data.toList = (0, 0) := by
                have h3 := hst.out
                rw [if_neg (by simp [pbB]; omega)] at h3
                have hi := hinv.out
                exact qt_bad _ m HQ.out (by omega)
              rw [hr]
              exact ⟨rfl, rfl⟩
            · go_wp2_with fail
              go_round
              case rel =>
                have hi := hinv.out
                have h3 := hst.out
                have h4 := hne.out
                rw [if_pos (by simp [pbB]; omega)] at h3
                exact ⟨k + 1, by omega, by omega, by go_num, by unfold Hid; omega⟩
              case measure => simp [intOf]; omega
        · go_wp2_with fail
          go_ret2
          have hr : qtT s.data.toList = (2, m + 2) := by
            have e : k = m + 1 := by omega
            have hi := hinv.out
            rw [e, hend.out] at hi
            exact qt_ok _ m HQ.out (by omega) (by omega)
          rw [hr]
          exact ⟨rfl, rfl⟩

end Go.Proofs.YtiocnfambeochaaGreatDoor
