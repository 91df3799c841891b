/- Texts put together. -/
import Derived.Test.YtiocnfambeochaaGreatDoorQ01
import Derived.Lib.AtoiErrMem
import Derived.Test.YtiocnfambeochaaGreatDoorQ00
/- The program's tokens: 'number', 'word', 'quoted', 'first': the kind and the size of the token that a text begins with. -/
namespace Go.Proofs.YtiocnfambeochaaGreatDoor
open Go.RowKit

def ErrVar (w : World) : Prop := ∃ tp p, w.var? Tryz.prog "strconv.ErrRange" = some #[.iface tp p]

theorem spn_extract0 (s : ByteArray) (k : Nat) : (s.extract 0 k).data.toList = s.data.toList.take k := by
  rw [Lib.extract_data]; simp

theorem number_close (s : ByteArray) (k : Nat) (hk : k ≤ 19) (hk0 : 0 < k) (hks : k ≤ s.size) (hsp : spn dgB s.data.toList = k) :
    Lib.parseIntB 64 (s.extract 0 k).data.toList = if 9223372036854775807 < valN (s.data.toList.take k) then .range else .ok (valN (s.data.toList.take k) : Int) := by
  rw [spn_extract0 s k]
  refine parse_digits _ ?_ ?_ ?_
  · intro h
    have := congrArg List.length h
    have hl := len_eq s
    simp only [List.length_take, List.length_nil] at this
    omega
  · have := spn_take dgB s.data.toList
    rw [hsp] at this
    exact this
  · simp only [List.length_take]; omega

theorem parse_ok (t : ByteArray) (ht : t.size ≤ 19) (v : Int) (h : Lib.parseIntB 64 t.data.toList = .ok v) (w : World) :
    Calls Tryz.prog 108 #[.string t, .int .i64 10, .int .i64 64] w fun e w' => e = .returned (.tuple #[.int .i64 v, .nilIface]) ∧ Below w.heap.size w w' := by
  refine (Tryz.strconv_ParseInt_10_at64_ok t (by omega) v h w).mono ?_
  rintro e w' ⟨rfl, rfl | ⟨t, rfl⟩⟩
  · exact ⟨rfl, Below.refl _ _⟩
  · exact ⟨rfl, Lib.bytesWorld_below w 5 t⟩
theorem parse_range (t : ByteArray) (ht : t.size ≤ 19) (h : Lib.parseIntB 64 t.data.toList = .range) (w : World) (hE : ErrVar w) :
    Calls Tryz.prog 108 #[.string t, .int .i64 10, .int .i64 64] w fun e w' => ∃ x N, e = .returned (.tuple #[.int .i64 x, .iface 269 (.pointer (some ⟨N, 0, none⟩))]) ∧ Below w.heap.size w w' := by
  obtain ⟨tp, p, hv⟩ := hE
  refine (Tryz.strconv_ParseInt_10_at64_range_var t (by omega) h tp p w hv).mono ?_
  rintro e w' ⟨N, rfl, _, _, hb⟩
  exact ⟨_, N, rfl, hb⟩

set_option maxHeartbeats 1000000 in
theorem number_any (s : ByteArray) (w : World) (hs : s.size ≤ maxLen) (h0 : 0 < s.size) (hd0 : Hid (dgB (s[0].toNat : Int) = true)) (hE : Hid (ErrVar w)) :
    Calls Tryz.prog 150 #[.string s] w fun e w' => e = .returned (.tuple #[.int .i64 (numI s.data.toList).1, .int .i64 (numI s.data.toList).2]) ∧ Below w.heap.size w w' := by
  unfold maxLen at hs
  have hst0 : Hid _ := spn_step dgB s 0 h0
  go_enter Tryz.func150, Tryz.ntmps150
  go_wp2_with fail
  go_loop [4] (fun i => ∃ k : Nat, 1 ≤ k ∧ k ≤ s.size ∧ i = .int .i64 k ∧ Hid (spn dgB s.data.toList = k + spn dgB (s.data.toList.drop k))) (fun i => s.size - (intOf i).toNat)
  case atStart => 
    have h := hst0.out
    rw [hd0.out, if_pos rfl] at h
    simp only [List.drop_zero, Nat.zero_add] at h
    exact ⟨1, by omega, by omega, rfl, by unfold Hid; omega⟩
  case round =>
    obtain ⟨k, hk1, hk, rfl, hinv⟩ := hrel
    by_cases hmore : ∃ hlt : k < s.size, dgB (s[k].toNat : Int) = true
    · obtain ⟨hlt, hg⟩ := hmore
      have hst : Hid _ := spn_step dgB s k hlt
      have HG : Hid _ := hg
      go_wp2_with (go_at_call 149; refine (digit_any _ _).mono ?_; rintro e w' ⟨rfl, rfl⟩)
      go_round
      case rel =>
        have hi := hinv.out
        have h3 := hst.out
        rw [HG.out, if_pos rfl] at h3
        exact ⟨k + 1, by omega, by omega, by go_num, by unfold Hid; omega⟩
      case measure => simp [intOf]; omega
    · have hsp : Hid (spn dgB s.data.toList = k) := by
        have hi := hinv.out
        by_cases hlt : k < s.size
        · have h3 := spn_step dgB s k hlt
          have hg : dgB (s[k].toNat : Int) = false := Bool.eq_false_iff.2 fun h => hmore ⟨hlt, h⟩
          rw [hg, if_neg (by simp)] at h3
          unfold Hid; omega
        · have e : k = s.size := by omega
          rw [e, spn_end] at hi
          unfold Hid; omega
      have hstop : k < s.size → ∀ hlt : k < s.size, dgB (s[k].toNat : Int) = false := fun _ hlt => Bool.eq_false_iff.2 fun h => hmore ⟨hlt, h⟩
      have hn : Hid (numI s.data.toList = if 19 < k then (0, 0) else if 9223372036854775807 < valN (s.data.toList.take k) then (0, 0) else (1, k)) := by
        unfold Hid numI; rw [hsp.out]
      clear hmore hinv hst0 hd0
      by_cases h19 : 19 < k
      · have hn2 : Hid (numI s.data.toList = (0, 0)) := by unfold Hid; rw [hn.out, if_pos h19]
        clear hn
        by_cases hlt : k < s.size
        · have hg := hstop hlt hlt
          clear hstop
          go_wp2_with (go_at_call 149; refine (digit_any _ _).mono ?_; rintro e w' ⟨rfl, rfl⟩)
          go_ret2
          rw [hn2.out]
          exact ⟨rfl, Below.refl _ _⟩
        · clear hstop
          go_wp2_with fail
          go_ret2
          rw [hn2.out]
          exact ⟨rfl, Below.refl _ _⟩
      · have hpar : Hid _ := number_close s k (by omega) (by omega) hk hsp.out
        by_cases hr : 9223372036854775807 < valN (s.data.toList.take k)
        · have hn2 : Hid (numI s.data.toList = (0, 0)) := by unfold Hid; rw [hn.out, if_neg h19, if_pos hr]
          have hp2 : Hid (Lib.parseIntB 64 (s.extract 0 k).data.toList = .range) := by unfold Hid; rw [hpar.out, if_pos hr]
          clear hn hpar hr hsp
          by_cases hlt : k < s.size
          · have hg := hstop hlt hlt
            clear hstop
            go_wp2_with (go_at_call 149; refine (digit_any _ _).mono ?_; rintro e w' ⟨rfl, rfl⟩)
            refine (parse_range _ (by simp; omega) hp2.out _ hE.out).mono ?_
            rintro e w' ⟨x, N, rfl, hb⟩
            go_wp2_with fail
            go_ret2
            rw [hn2.out]
            exact ⟨rfl, hb⟩
          · clear hstop
            go_wp2_with fail
            refine (parse_range _ (by simp; omega) hp2.out _ hE.out).mono ?_
            rintro e w' ⟨x, N, rfl, hb⟩
            go_wp2_with fail
            go_ret2
            rw [hn2.out]
            exact ⟨rfl, hb⟩
        · have hn2 : Hid (numI s.data.toList = (1, k)) := by unfold Hid; rw [hn.out, if_neg h19, if_neg hr]
          have hp2 : Hid (Lib.parseIntB 64 (s.extract 0 k).data.toList = .ok (valN (s.data.toList.take k) : Int)) := by unfold Hid; rw [hpar.out, if_neg hr]
          clear hn hpar hr hsp
          by_cases hlt : k < s.size
          · have hg := hstop hlt hlt
            clear hstop
            go_wp2_with (go_at_call 149; refine (digit_any _ _).mono ?_; rintro e w' ⟨rfl, rfl⟩)
            refine (parse_ok _ (by simp; omega) _ hp2.out _).mono ?_
            rintro e w' ⟨rfl, hb⟩
            go_wp2_with fail
            go_ret2
            rw [hn2.out]
            exact ⟨rfl, hb⟩
          · clear hstop
            go_wp2_with fail
            refine (parse_ok _ (by simp; omega) _ hp2.out _).mono ?_
            rintro e w' ⟨rfl, hb⟩
            go_wp2_with fail
            go_ret2
            rw [hn2.out]
            exact ⟨rfl, hb⟩

set_option maxHeartbeats 1000000 in
theorem word_any (s : ByteArray) (w : World) (hs : s.size ≤ maxLen) (h0 : 0 < s.size) (hd0 : Hid (ldB (s[0].toNat : Int) = true)) :
    Calls Tryz.prog 152 #[.string s] w fun e w' => e = .returned (.tuple #[.int .i64 (wdI s.data.toList).1, .int .i64 (wdI s.data.toList).2]) ∧ w' = w := by
  unfold maxLen at hs
  have hst0 : Hid _ := spn_step ldB s 0 h0
  go_enter Tryz.func152, Tryz.ntmps152
  go_wp2_with fail
  go_loop [4] (fun i => ∃ k : Nat, 1 ≤ k ∧ k ≤ s.size ∧ i = .int .i64 k ∧ Hid (spn ldB s.data.toList = k + spn ldB (s.data.toList.drop k))) (fun i => s.size - (intOf i).toNat)
  case atStart =>
    have h := hst0.out
    rw [hd0.out, if_pos rfl] at h
    simp only [List.drop_zero, Nat.zero_add] at h
    exact ⟨1, by omega, by omega, rfl, by unfold Hid; omega⟩
  case round =>
    obtain ⟨k, hk1, hk, rfl, hinv⟩ := hrel
    by_cases hmore : ∃ hlt : k < s.size, ldB (s[k].toNat : Int) = true
    · obtain ⟨hlt, hg⟩ := hmore
      have hst : Hid _ := spn_step ldB s k hlt
      have HG : Hid _ := hg
      cases hl : ltB (s[k].toNat : Int)
      · have hd : dgB (s[k].toNat : Int) = true := by simpa [ldB, hl] using hg
        clear hg
        go_wp2_with (first | (go_at_call 149; refine (digit_any _ _).mono ?_; rintro e w' ⟨rfl, rfl⟩) | (go_at_call 151; refine (letter_any _ _).mono ?_; rintro e w' ⟨rfl, rfl⟩))
        go_round
        case rel =>
          have hi := hinv.out
          have h3 := hst.out
          rw [HG.out, if_pos rfl] at h3
          exact ⟨k + 1, by omega, by omega, by go_num, by unfold Hid; omega⟩
        case measure => simp [intOf]; omega
      · clear hg
        go_wp2_with (first | (go_at_call 149; refine (digit_any _ _).mono ?_; rintro e w' ⟨rfl, rfl⟩) | (go_at_call 151; refine (letter_any _ _).mono ?_; rintro e w' ⟨rfl, rfl⟩))
        go_round
        case rel =>
          have hi := hinv.out
          have h3 := hst.out
          rw [HG.out, if_pos rfl] at h3
          exact ⟨k + 1, by omega, by omega, by go_num, by unfold Hid; omega⟩
        case measure => simp [intOf]; omega
    · have hsp : Hid (spn ldB s.data.toList = k) := by
        have hi := hinv.out
        by_cases hlt : k < s.size
        · have h3 := spn_step ldB s k hlt
          have hg : ldB (s[k].toNat : Int) = false := Bool.eq_false_iff.2 fun h => hmore ⟨hlt, h⟩
          rw [hg, if_neg (by simp)] at h3
          unfold Hid; omega
        · have e : k = s.size := by omega
          rw [e, spn_end] at hi
          unfold Hid; omega
      have hstop : k < s.size → ∀ hlt : k < s.size, ltB (s[k].toNat : Int) = false ∧ dgB (s[k].toNat : Int) = false := fun _ hlt => by
        have := Bool.eq_false_iff.2 fun h => hmore ⟨hlt, h⟩
        simpa [ldB] using this
      have hn : Hid (wdI s.data.toList = if 5 < k then (0, 0) else (wrdI (s.data.toList.take k), k)) := by
        unfold Hid wdI; rw [hsp.out]
      have hex : Hid (wrdI (s.extract 0 k).data.toList = wrdI (s.data.toList.take k)) := by unfold Hid; rw [spn_extract0]
      clear hmore hinv hst0 hd0
      by_cases h19 : 5 < k
      · have hn2 : Hid (wdI s.data.toList = (0, 0)) := by unfold Hid; rw [hn.out, if_pos h19]
        clear hn
        by_cases hlt : k < s.size
        · obtain ⟨hg1, hg2⟩ := hstop hlt hlt
          clear hstop
          go_wp2_with (first | (go_at_call 149; refine (digit_any _ _).mono ?_; rintro e w' ⟨rfl, rfl⟩) | (go_at_call 151; refine (letter_any _ _).mono ?_; rintro e w' ⟨rfl, rfl⟩))
          go_ret2
          rw [hn2.out]
          exact ⟨rfl, rfl⟩
        · clear hstop
          go_wp2_with fail
          go_ret2
          rw [hn2.out]
          exact ⟨rfl, rfl⟩
      · have hn2 : Hid (wdI s.data.toList = (wrdI (s.data.toList.take k), k)) := by unfold Hid; rw [hn.out, if_neg h19]
        clear hn
        by_cases hlt : k < s.size
        · obtain ⟨hg1, hg2⟩ := hstop hlt hlt
          clear hstop
          go_wp2_with (first | (go_at_call 149; refine (digit_any _ _).mono ?_; rintro e w' ⟨rfl, rfl⟩) | (go_at_call 151; refine (letter_any _ _).mono ?_; rintro e w' ⟨rfl, rfl⟩))
          refine (wordKind_any _ _ (by unfold maxLen; simp; omega)).mono ?_
          rintro e w' ⟨rfl, rfl⟩
          rw [hex.out]
          go_wp2_with fail
          go_ret2
          rw [hn2.out]
          exact ⟨rfl, rfl⟩
        · clear hstop
          go_wp2_with fail
          refine (wordKind_any _ _ (by unfold maxLen; simp; omega)).mono ?_
          rintro e w' ⟨rfl, rfl⟩
          rw [hex.out]
          go_wp2_with fail
          go_ret2
          rw [hn2.out]
          exact ⟨rfl, rfl⟩


theorem index_any (s : ByteArray) (w : World) : Calls Tryz.prog 187 #[.string s, .int .u8 34] w fun e w' => e = .returned (.int .i64 (Lib.indexByte s.data.toList 34)) ∧ w' = w :=
  Tryz.strings_IndexByte s 34 w

theorem tail_get (s : ByteArray) (j : Nat) (h : j + 1 < s.size) : (s.data.toList.drop 1)[j]? = some s[j + 1] := by
  rw [List.getElem?_drop, Nat.add_comm 1 j, List.getElem?_eq_getElem (by have := len_eq s; omega)]; rfl

set_option maxHeartbeats 1000000 in
theorem quoted_any (s : ByteArray) (w : World) (hs : s.size ≤ maxLen) (h0 : 0 < s.size) :
    Calls Tryz.prog 153 #[.string s] w fun e w' => e = .returned (.tuple #[.int .i64 (qtT s.data.toList).1, .int .i64 (qtT s.data.toList).2]) ∧ w' = w := by
  unfold maxLen at hs
  have hge := Lib.indexByte_ge (s.data.toList.drop 1) 34
  have hx : Hid ((s.extract 1 s.size).data.toList = s.data.toList.drop 1) := Lib.extract_to_end s 1
  obtain ⟨q, hq⟩ : ∃ q, Lib.indexByte (s.data.toList.drop 1) 34 = q := ⟨_, rfl⟩
  rw [hq] at hge
  have HQ : Hid _ := hq
  clear hq
  by_cases hneg : q < 0
  · have hr : Hid (qtT s.data.toList = (0, 0)) := by unfold Hid qtT; exact qt_none _ (by rw [HQ.out]; omega)
    go_enter Tryz.func153, Tryz.ntmps153
    go_wp2_with fail
    refine (index_any _ _).mono ?_
    rintro e w' ⟨rfl, rfl⟩
    rw [hx.out, HQ.out]
    go_wp2_with fail
    go_ret2
    rw [hr.out]
    exact ⟨rfl, rfl⟩
  · obtain ⟨m, rfl⟩ := Int.eq_ofNat_of_zero_le (show 0 ≤ q by omega)
    by_cases hlong : 20 < m
    · have hr : Hid (qtT s.data.toList = (0, 0)) := by unfold Hid qtT; exact qt_long _ m HQ.out hlong
      go_enter Tryz.func153, Tryz.ntmps153
      go_wp2_with fail
      refine (index_any _ _).mono ?_
      rintro e w' ⟨rfl, rfl⟩
      rw [hx.out, HQ.out]
      go_wp2_with fail
      go_ret2
      rw [hr.out]
      exact ⟨rfl, rfl⟩
    · have h34 := Lib.indexByte_some HQ.out
      have hml : m + 1 < s.size := by
        have := (List.getElem?_eq_some_iff.1 h34.1).1
        have hl := len_eq s
        simp only [List.length_drop] at this
        omega
      have H34 : Hid _ := h34
      clear h34 hge hneg
      have hend : Hid (spn pbB (s.data.toList.drop (m + 1)) = 0) := by
        have h1 := H34.out.1
        rw [tail_get s m hml] at h1
        unfold Hid
        rw [spn_step pbB s (m + 1) hml, Option.some.inj h1]
        rfl
      go_enter Tryz.func153, Tryz.ntmps153
      go_wp2_with fail
      refine (index_any _ _).mono ?_
      rintro e w' ⟨rfl, rfl⟩
      rw [hx.out, HQ.out]
      go_wp2_with fail
      go_loop [5] (fun i => ∃ k : Nat, 1 ≤ k ∧ k ≤ m + 1 ∧ i = .int .i64 k ∧ Hid (spn pbB (s.data.toList.drop 1) + 1 = k + spn pbB (s.data.toList.drop k))) (fun i => m + 1 - (intOf i).toNat)
      case atStart => exact ⟨1, by omega, by omega, rfl, by unfold Hid; omega⟩
      case round =>
        obtain ⟨k, hk1, hk, rfl, hinv⟩ := hrel
        by_cases hlt : k ≤ m
        · have hks : k < s.size := by omega
          have hst : Hid _ := spn_step pbB s k hks
          have hne : Hid ((s[k].toNat : Int) ≠ 34) := by
            unfold Hid
            intro h
            refine H34.out.2 (k - 1) (by omega) ?_
            rw [tail_get s (k - 1) (by omega)]
            congr 1
            have e : k - 1 + 1 = k := by omega
            have : s[k - 1 + 1] = s[k] := by congr 1
            rw [this]
            exact UInt8.toNat_inj.1 (by have : (34 : UInt8).toNat = 34 := rfl; omega)
          by_cases hb1 : (s[k].toNat : Int) < 32
          · go_wp2_with fail
            go_ret2
            have hr : qtT s.data.toList = (0, 0) := by
              have h3 := hst.out
              rw [if_neg (by simp [pbB]; omega)] at h3
              have hi := hinv.out
              exact qt_bad _ m HQ.out (by omega)
            rw [hr]
            exact ⟨rfl, rfl⟩
          · by_cases hb2 : 126 < (s[k].toNat : Int)
            · go_wp2_with fail
              go_ret2
              have hr : qtT s.data.toList = (0, 0) := by
                have h3 := hst.out
                rw [if_neg (by simp [pbB]; omega)] at h3
                have hi := hinv.out
                exact qt_bad _ m HQ.out (by omega)
              rw [hr]
              exact ⟨rfl, rfl⟩
            · go_wp2_with fail
              go_round
              case rel =>
                have hi := hinv.out
                have h3 := hst.out
                have h4 := hne.out
                rw [if_pos (by simp [pbB]; omega)] at h3
                exact ⟨k + 1, by omega, by omega, by go_num, by unfold Hid; omega⟩
              case measure => simp [intOf]; omega
        · go_wp2_with fail
          go_ret2
          have hr : qtT s.data.toList = (2, m + 2) := by
            have e : k = m + 1 := by omega
            have hi := hinv.out
            rw [e, hend.out] at hi
            exact qt_ok _ m HQ.out (by omega) (by omega)
          rw [hr]
          exact ⟨rfl, rfl⟩

end Go.Proofs.YtiocnfambeochaaGreatDoor

/- Plain mathematics of formulas, more: the tokens of a text. No program stands in it. -/
namespace Go.Proofs.YtiocnfambeochaaGreatDoor
theorem tok1_cons (c : UInt8) (r : List UInt8) : tok1 (c :: r) = if dgB (c.toNat : Int) = true then numI (c :: r) else if ltB (c.toNat : Int) = true then wdI (c :: r) else if c = 34 then qtT (c :: r) else (sgnI (c.toNat : Int), 1) := rfl

theorem tok1_size (l : List UInt8) (h : (tok1 l).1 ≠ 0) : 1 ≤ (tok1 l).2 ∧ (tok1 l).2 ≤ l.length := by
  match l with
  | [] => simp [tok1] at h
  | c :: r =>
    rw [tok1_cons] at h ⊢
    by_cases hd : dgB (c.toNat : Int) = true
    · rw [if_pos hd] at h ⊢
      have h1 : spn dgB (c :: r) = spn dgB r + 1 := by rw [spn, if_pos hd]
      have h2 := spn_le dgB (c :: r)
      unfold numI at h ⊢
      by_cases h3 : 19 < spn dgB (c :: r)
      · rw [if_pos h3] at h; simp at h
      · rw [if_neg h3] at h ⊢
        by_cases h4 : 9223372036854775807 < valN ((c :: r).take (spn dgB (c :: r)))
        · rw [if_pos h4] at h; simp at h
        · rw [if_neg h4]; exact ⟨by simp only; omega, h2⟩
    · rw [if_neg hd] at h ⊢
      by_cases hl : ltB (c.toNat : Int) = true
      · rw [if_pos hl] at h ⊢
        have h1 : spn ldB (c :: r) = spn ldB r + 1 := by rw [spn, if_pos (by simp [ldB, hl])]
        have h2 := spn_le ldB (c :: r)
        unfold wdI at h ⊢
        by_cases h3 : 5 < spn ldB (c :: r)
        · rw [if_pos h3] at h; simp at h
        · rw [if_neg h3]; exact ⟨by simp only; omega, h2⟩
      · rw [if_neg hl] at h ⊢
        by_cases hq : c = 34
        · rw [if_pos hq] at h ⊢
          unfold qtT qtI at h ⊢
          by_cases h3 : (List.drop 1 (c :: r))[spn pbB (List.drop 1 (c :: r))]? = some 34 ∧ spn pbB (List.drop 1 (c :: r)) ≤ 20
          · rw [if_pos h3]
            have h4 := (List.getElem?_eq_some_iff.1 h3.1).1
            simp only [List.drop_succ_cons, List.drop_zero, List.length_cons] at h4 ⊢
            omega
          · rw [if_neg h3] at h; simp at h
        · rw [if_neg hq]; simp

/-- A token: its kind, its text, its place. -/
structure Tk where
  k : Int
  x : List UInt8
  p : Nat
/-- The tokens of a text (so many steps at most), its first byte's place given; the place of a byte that begins none. -/
def scn : Nat → List UInt8 → Nat → List Tk × Option Nat
  | 0, _, _ => ([], none)
  | _ + 1, [], _ => ([], none)
  | n + 1, c :: r, p =>
    if c = 32 then scn n r (p + 1)
    else if (tok1 (c :: r)).1 = 0 then ([], some p)
    else (⟨(tok1 (c :: r)).1, (c :: r).take (tok1 (c :: r)).2, p⟩ :: (scn n ((c :: r).drop (tok1 (c :: r)).2) (p + (tok1 (c :: r)).2)).1,
          (scn n ((c :: r).drop (tok1 (c :: r)).2) (p + (tok1 (c :: r)).2)).2)
theorem scn_nil (n p : Nat) : scn n [] p = ([], none) := by cases n <;> rfl

theorem scn_tok (n : Nat) (l : List UInt8) (p : Nat) (c : UInt8) (hc : l.head? = some c) (hb : c ≠ 32) (h0 : (tok1 l).1 ≠ 0) :
    scn (n + 1) l p = (⟨(tok1 l).1, l.take (tok1 l).2, p⟩ :: (scn n (l.drop (tok1 l).2) (p + (tok1 l).2)).1, (scn n (l.drop (tok1 l).2) (p + (tok1 l).2)).2) := by
  match l, hc with
  | a :: r, hc =>
    simp only [List.head?_cons, Option.some.injEq] at hc
    subst hc
    rw [scn, if_neg hb, if_neg h0]

end Go.Proofs.YtiocnfambeochaaGreatDoor

/- The program's 'first' and 'Scan': the tokens of a text. -/
namespace Go.Proofs.YtiocnfambeochaaGreatDoor
open Go.RowKit

theorem tok1_eq (s : ByteArray) (h : 0 < s.size) : tok1 s.data.toList =
    if dgB (s[0].toNat : Int) = true then numI s.data.toList else if ltB (s[0].toNat : Int) = true then wdI s.data.toList else if s[0] = 34 then qtT s.data.toList else (sgnI (s[0].toNat : Int), 1) := by
  have hd := drop_at s 0 h
  simp only [List.drop_zero, Nat.zero_add] at hd
  generalize List.drop 1 s.data.toList = r at hd
  generalize s.data.toList = l at *
  subst hd
  rfl


set_option maxHeartbeats 1000000 in
theorem first_any (s : ByteArray) (w : World) (hs : s.size ≤ maxLen) (h0 : 0 < s.size) (hE : Hid (ErrVar w)) :
    Calls Tryz.prog 121 #[.string s] w fun e w' => e = .returned (.tuple #[.int .i64 (tok1 s.data.toList).1, .int .i64 (tok1 s.data.toList).2]) ∧ Below w.heap.size w w' := by
  have HT : Hid _ := tok1_eq s h0
  cases hd : dgB (s[0].toNat : Int)
  · cases hl : ltB (s[0].toNat : Int)
    · by_cases hq : (s[0].toNat : Int) = 34
      · have hr : Hid (tok1 s.data.toList = qtT s.data.toList) := by
          unfold Hid; rw [HT.out, hd, hl, if_neg (by simp), if_neg (by simp), if_pos (UInt8.toNat_inj.1 (by have : (34 : UInt8).toNat = 34 := rfl; omega))]
        have hq1 : ((s[0].toNat : Int) == 34) = true := by simpa using hq
        clear HT hq
        go_enter Tryz.func121, Tryz.ntmps121
        go_wp2_with (first | (go_at_call 149; refine (digit_any _ _).mono ?_; rintro e w' ⟨rfl, rfl⟩) | (go_at_call 151; refine (letter_any _ _).mono ?_; rintro e w' ⟨rfl, rfl⟩) | (go_at_call 153; refine (quoted_any s _ hs h0).mono ?_; rintro e w' ⟨rfl, rfl⟩))
        go_ret2
        rw [hr.out]
        exact ⟨rfl, Below.refl _ _⟩
      · have hr : Hid (tok1 s.data.toList = (sgnI (s[0].toNat : Int), 1)) := by
          unfold Hid; rw [HT.out, hd, hl, if_neg (by simp), if_neg (by simp), if_neg (fun h => hq (by rw [h]; rfl))]
        have hq1 : ((s[0].toNat : Int) == 34) = false := by simpa using hq
        clear HT hq
        go_enter Tryz.func121, Tryz.ntmps121
        go_wp2_with (first | (go_at_call 149; refine (digit_any _ _).mono ?_; rintro e w' ⟨rfl, rfl⟩) | (go_at_call 151; refine (letter_any _ _).mono ?_; rintro e w' ⟨rfl, rfl⟩) | (go_at_call 154; refine (sign_any _ _).mono ?_; rintro e w' ⟨rfl, rfl⟩))
        go_ret2
        rw [hr.out]
        exact ⟨rfl, Below.refl _ _⟩
    · have hr : Hid (tok1 s.data.toList = wdI s.data.toList) := by
        unfold Hid; rw [HT.out, hd, hl, if_neg (by simp), if_pos rfl]
      have hld : Hid (ldB (s[0].toNat : Int) = true) := by unfold Hid ldB; rw [hl]; rfl
      clear HT
      go_enter Tryz.func121, Tryz.ntmps121
      go_wp2_with (first | (go_at_call 149; refine (digit_any _ _).mono ?_; rintro e w' ⟨rfl, rfl⟩) | (go_at_call 151; refine (letter_any _ _).mono ?_; rintro e w' ⟨rfl, rfl⟩) | (go_at_call 152; refine (word_any s _ hs h0 hld).mono ?_; rintro e w' ⟨rfl, rfl⟩))
      go_ret2
      rw [hr.out]
      exact ⟨rfl, Below.refl _ _⟩
  · have hr : Hid (tok1 s.data.toList = numI s.data.toList) := by
      unfold Hid; rw [HT.out, hd, if_pos rfl]
    have hld : Hid (dgB (s[0].toNat : Int) = true) := hd
    clear HT
    go_enter Tryz.func121, Tryz.ntmps121
    go_wp2_with (first | (go_at_call 149; refine (digit_any _ _).mono ?_; rintro e w' ⟨rfl, rfl⟩) | (go_at_call 150; refine (number_any s _ hs h0 hld hE).mono ?_; rintro e w' ⟨rfl, hb⟩))
    go_ret2
    rw [hr.out]
    exact ⟨rfl, hb⟩

def tkCells (t : Tk) : List Value := [.int .i64 t.k, .string ⟨t.x.toArray⟩, .int .i64 t.p]
theorem Tryz.info142 : (Tryz.prog.info? 142).map (fun i => (i.zero, i.size, i.bytes)) = some (some (.agg #[.int .i64 0, .string ⟨#[]⟩, .int .i64 0]), 3, 32) := by kernel_rfl

theorem extract_eq (s : ByteArray) (a b : Nat) : s.extract a b = ⟨((s.data.toList.drop a).take (b - a)).toArray⟩ := by
  have : (s.extract a b).data.toList = (s.data.toList.drop a).take (b - a) := by rw [Lib.extract_data]
  rw [← this]

theorem ErrVar.below {w w' : World} (h : ErrVar w) (hb : Below w.heap.size w w') : ErrVar w' := by
  obtain ⟨tp, p, hv⟩ := h
  cases hg : Tryz.prog.globalNamed "strconv.ErrRange" with
  | none => unfold World.var? at hv; rw [hg] at hv; simp at hv
  | some g =>
    have hlt : g < w.heap.size := by
      unfold World.var? at hv
      simp only [hg, Option.bind_some] at hv
      by_cases h1 : g < w.heap.size
      · exact h1
      · rw [Array.getElem?_eq_none (by omega)] at hv
        simp at hv
    exact ⟨tp, p, var?_below hb hg hlt hv⟩

theorem owns_below {w w' : World} {base : Nat} {e : TypeId} {size : Nat} {v : Value} {n : Nat} {xs : List Value} (h : w.ownsRow base e size v n xs) (hb : Below w.heap.size w w') : w'.ownsRow base e size v n xs :=
  h.kept (row := none) ⟨hb.os, hb.tape, hb.output, hb.size, fun k hk _ => hb.block k hk⟩ (by
    cases v.ownBlock with
    | none => exact Or.inl rfl
    | some x => exact Or.inr (by simp))

/-- What stands behind the loop's head: so many tokens came, so many bytes are passed. -/
def ScanAt (s : ByteArray) (k : Nat) (ts : List Tk) : Prop :=
  ∃ f, s.size - k ≤ f ∧ scn s.size s.data.toList 0 = (ts ++ (scn f (s.data.toList.drop k) k).1, (scn f (s.data.toList.drop k) k).2)

theorem scanAt_start (s : ByteArray) : ScanAt s 0 [] := ⟨s.size, by omega, by simp⟩
theorem scanAt_blank (s : ByteArray) (k : Nat) (ts : List Tk) (h : ScanAt s k ts) (hk : k < s.size) (hb : s[k] = 32) : ScanAt s (k + 1) ts := by
  obtain ⟨f, hf, he⟩ := h
  obtain ⟨g, rfl⟩ : ∃ g, f = g + 1 := ⟨f - 1, by omega⟩
  rw [drop_at s k hk, scn, if_pos hb] at he
  exact ⟨g, by omega, he⟩
theorem scanAt_none (s : ByteArray) (k : Nat) (ts : List Tk) (h : ScanAt s k ts) (hk : k < s.size) (hb : s[k] ≠ 32) (h0 : (tok1 (s.data.toList.drop k)).1 = 0) : (scn s.size s.data.toList 0).2 = some k := by
  obtain ⟨f, hf, he⟩ := h
  obtain ⟨g, rfl⟩ : ∃ g, f = g + 1 := ⟨f - 1, by omega⟩
  rw [drop_at s k hk] at he h0
  rw [scn, if_neg hb, if_pos h0] at he
  rw [he]
theorem scanAt_one (s : ByteArray) (k : Nat) (ts : List Tk) (h : ScanAt s k ts) (hk : k < s.size) (hb : s[k] ≠ 32) (h0 : (tok1 (s.data.toList.drop k)).1 ≠ 0) :
    ScanAt s (k + (tok1 (s.data.toList.drop k)).2) (ts ++ [⟨(tok1 (s.data.toList.drop k)).1, (s.data.toList.drop k).take (tok1 (s.data.toList.drop k)).2, k⟩]) := by
  obtain ⟨f, hf, he⟩ := h
  obtain ⟨g, rfl⟩ : ∃ g, f = g + 1 := ⟨f - 1, by omega⟩
  have hz := tok1_size _ h0
  refine ⟨g, by omega, ?_⟩
  rw [he, scn_tok g _ k s[k] (by rw [drop_at s k hk]; rfl) hb h0, List.drop_drop]
  simp
theorem scanAt_end (s : ByteArray) (ts : List Tk) (h : ScanAt s s.size ts) : scn s.size s.data.toList 0 = (ts, none) := by
  obtain ⟨f, hf, he⟩ := h
  rw [drop_end, scn_nil] at he
  rw [he]; simp


set_option maxHeartbeats 1000000 in
theorem scan_any (s : ByteArray) (w : World) (hs : s.size ≤ 1000000) (hE : Hid (ErrVar w)) :
    Calls Tryz.prog 92 #[.string s] w fun e w' => Below w.heap.size w w' ∧
      (((scn s.size s.data.toList 0).2 = none ∧ ∃ v, e = .returned (.tuple #[v, .int .i64 0, .bool true]) ∧ w'.ownsRow w.heap.size 142 3 v (scn s.size s.data.toList 0).1.length ((scn s.size s.data.toList 0).1.flatMap tkCells)) ∨
       (∃ p : Nat, (scn s.size s.data.toList 0).2 = some p ∧ e = .returned (.tuple #[.slice none 0 0, .int .i64 p, .bool false]))) := by
  obtain ⟨i0, hi, hz0, hz1, hz2⟩ := info_parts Tryz.info142
  go_enter Tryz.func92, Tryz.ntmps92
  go_wp2_with fail
  go_loopw [5, 6] (fun v i wr => ∃ (k : Nat) (ts : List Tk), k ≤ s.size ∧ ts.length ≤ k ∧ i = .int .i64 k ∧ wr.ownsRow w.heap.size 142 3 v ts.length (ts.flatMap tkCells) ∧ Below w.heap.size w wr ∧ Hid (ScanAt s k ts)) (fun _ i _ => s.size - (intOf i).toNat)
  case atStart => exact ⟨0, [], by omega, by simp, rfl, World.ownsRow_nil _ _ _ _, Below.refl _ _, scanAt_start s⟩
  case round =>
    obtain ⟨k, ts, hk, htk, rfl, hown, hb, hsc⟩ := hrel
    by_cases hlt : k < s.size
    · by_cases hbl : (s[k].toNat : Int) = 32
      · have h1 : ((s[k].toNat : Int) == 32) = true := by simpa using hbl
        have h2 : Hid (s[k] = 32) := by unfold Hid; exact UInt8.toNat_inj.1 (by have : (32 : UInt8).toNat = 32 := rfl; omega)
        clear hbl
        go_wp2_with fail
        go_roundw
        case rel => exact ⟨k + 1, ts, by omega, by omega, by go_num, hown, hb, scanAt_blank s k ts hsc.out hlt h2.out⟩
        case measure => simp [intOf]; omega
      · have h1 : ((s[k].toNat : Int) == 32) = false := by simpa using hbl
        have h2 : Hid (s[k] ≠ 32) := by unfold Hid; intro h; exact hbl (by rw [h]; rfl)
        clear hbl
        have hx : Hid ((s.extract k s.size).data.toList = s.data.toList.drop k) := Lib.extract_to_end s k
        have hE1 : Hid (ErrVar wr) := hE.out.below hb
        obtain ⟨kd, hkd⟩ : ∃ kd, (tok1 (s.data.toList.drop k)).1 = kd := ⟨_, rfl⟩
        obtain ⟨z, hz⟩ : ∃ z, (tok1 (s.data.toList.drop k)).2 = z := ⟨_, rfl⟩
        have HK : Hid _ := hkd
        have HZ : Hid _ := hz
        clear hkd hz
        by_cases hk0 : kd = 0
        · have hk1 : (kd == 0) = true := by simpa using hk0
          have hk2 : Hid (kd = 0) := hk0
          clear hk0
          go_wp2_with fail
          refine (first_any _ _ (by unfold maxLen; simp; omega) (by simp; omega) hE1).mono ?_
          rintro e w1 ⟨rfl, hb1⟩
          rw [hx.out, HK.out, HZ.out]
          go_wp2_with fail
          go_ret3
          exact ⟨hb.trans (hb1.mono hb.size), Or.inr ⟨k, scanAt_none s k ts hsc.out hlt h2.out (by rw [HK.out, hk2.out]), rfl⟩⟩
        · have hk1 : (kd == 0) = false := by simpa using hk0
          have hzz := tok1_size (s.data.toList.drop k) (by rw [HK.out]; exact hk0)
          rw [HZ.out, List.length_drop, len_eq] at hzz
          obtain ⟨hzl, hzu⟩ := hzz
          have hk2 : Hid (kd ≠ 0) := hk0
          clear hk0
          go_wp2_with fail
          refine (first_any _ _ (by unfold maxLen; simp; omega) (by simp; omega) hE1).mono ?_
          rintro e w1 ⟨rfl, hb1⟩
          rw [hx.out, HK.out, HZ.out]
          have hown1 := owns_below hown hb1
          have hsz1 := hb1.size
          have hsz := hb.size
          clear hown hE1
          go_wp2_with (at_builtin; go_must (refine wpList_append_own _ rfl _ _ 81 rfl w.heap.size 142 i0 _ 3 32 Tryz.underlying81 hi hz0 hz1 hz2 rfl (by decide) _ _ _ rfl (hown1.alloc _) ⟨w1.heap.size, 0, none⟩ 1 1 [.int .i64 kd, .string (s.extract k (k + z)), .int .i64 k] rfl rfl ?c1 ?c2 ?c3 ?c4 ?c5 ?_))
          case c1 =>
            intro j u hj
            match j, hj with
            | 0, hj => simp at hj; subst hj; simp [Addr.add]
            | 1, hj => simp at hj; subst hj; simp [Addr.add]
            | 2, hj => simp at hj; subst hj; simp [Addr.add]
            | j + 3, hj => simp at hj
          case c2 =>
            intro u hu
            simp only [List.mem_cons, List.not_mem_nil, or_false] at hu
            rcases hu with rfl | rfl | rfl <;> rfl
          case c3 => unfold maxLen; omega
          case c4 => omega
          case c5 => simp; omega
          intro v' w2 hown2 hgrow _
          have hnew : Hid (w2.ownsRow w.heap.size 142 3 v' (ts ++ [Tk.mk kd ((s.data.toList.drop k).take z) k]).length ((ts ++ [Tk.mk kd ((s.data.toList.drop k).take z) k]).flatMap tkCells)) := by
            have e1 : s.extract k (k + z) = ⟨((s.data.toList.drop k).take z).toArray⟩ := by rw [extract_eq, Nat.add_sub_cancel_left]
            rw [e1] at hown2
            unfold Hid
            rw [List.length_append, List.flatMap_append]
            exact hown2
          have hbel : Hid (Below w.heap.size w w2) := by
            refine ((hb.trans (hb1.mono hsz)).alloc (by omega) _).grown hgrow (by simp; omega) ?_
            intro q hq
            exact (hown1.lt q hq).1
          have hsc2 : Hid (ScanAt s (k + z) (ts ++ [Tk.mk kd ((s.data.toList.drop k).take z) k])) := by
            have := scanAt_one s k ts hsc.out hlt h2.out (by rw [HK.out]; exact hk2.out)
            rw [HK.out, HZ.out] at this
            exact this
          clear hown2 hgrow hown1 hsc
          go_wp2_with fail
          go_roundw
          case rel => exact ⟨k + z, ts ++ [Tk.mk kd ((s.data.toList.drop k).take z) k], by omega, by simp; omega, by go_num, hnew.out, hbel.out, hsc2⟩
          case measure => simp [intOf]; omega
    · go_wp2_with fail
      have e : k = s.size := by omega
      subst e
      have hfin := scanAt_end s ts hsc.out
      go_ret3
      rw [hfin]
      exact ⟨hb, Or.inl ⟨rfl, _, rfl, hown⟩⟩

end Go.Proofs.YtiocnfambeochaaGreatDoor
