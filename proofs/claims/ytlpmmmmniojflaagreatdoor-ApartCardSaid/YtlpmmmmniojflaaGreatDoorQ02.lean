/- Texts put together. -/
import Derived.Test.YtlpmmmmniojflaaGreatDoorQ01
import Derived.Deep.QuietTactic
import Derived.BigQuiet
import Derived.Test.YtlpmmmmniojflaaGreatDoorQ00
import Derived.Handy
/- The program's 'first' and 'Scan': the tokens of a text. -/
namespace Go.Proofs.YtlpmmmmniojflaaGreatDoor
open Go.RowKit
theorem tok1_eq (s : ByteArray) (h : 0 < s.size) : tok1 s.data.toList =
    if dgB (s[0].toNat : Int) = true then numI s.data.toList else if ltB (s[0].toNat : Int) = true then wdI s.data.toList else if s[0] = 34 then qtT s.data.toList else (sgnI (s[0].toNat : Int), 1) := by
  have hd := drop_at s 0 h
  simp only [List.drop_zero, Nat.zero_add] at hd
  generalize List.drop 1 s.data.toList = r at hd
  generalize s.data.toList = l at *
  subst hd
  rfl
set_option maxHeartbeats 1000000 in
theorem first_any (s : ByteArray) (w : World) (hs : s.size ≤ maxLen) (h0 : 0 < s.size) (hE : Hid (ErrVar w)) :
    Calls Tryz.prog 121 #[.string s] w fun e w' => e = .returned (.tuple #[.int .i64 (tok1 s.data.toList).1, .int .i64 (tok1 s.data.toList).2]) ∧ Below w.heap.size w w' := by
  have HT : Hid _ := tok1_eq s h0
  cases hd : dgB (s[0].toNat : Int)
  · cases hl : ltB (s[0].toNat : Int)
    · by_cases hq : (s[0].toNat : Int) = 34
      · have hr : Hid (tok1 s.data.toList = qtT s.data.toList) := by
          unfold Hid; rw [HT.out, hd, hl, if_neg (by simp), if_neg (by simp), if_pos (UInt8.toNat_inj.1 (by have : (34 : UInt8).toNat = 34 := rfl; omega))]
        have hq1 : ((s[0].toNat : Int) == 34) = true := by simpa using hq
        clear HT hq
        go_enter Tryz.func121, Tryz.ntmps121
        go_wp2_with (first | (go_at_call 149; refine (digit_any _ _).mono ?_; rintro e w' ⟨rfl, rfl⟩) | (go_at_call 151; refine (letter_any _ _).mono ?_; rintro e w' ⟨rfl, rfl⟩) | (go_at_call 153; refine (quoted_any s _ hs h0).mono ?_; rintro e w' ⟨rfl, rfl⟩))
        go_ret2
        rw [hr.out]
        exact ⟨rfl, Below.refl _ _⟩
      · have hr : Hid (tok1 s.data.toList = (sgnI (s[0].toNat : Int), 1)) := by
          unfold Hid; rw [HT.out, hd, hl, if_neg (by simp), if_neg (by simp), if_neg (fun h => hq (by rw [h]; rfl))]
        have hq1 : ((s[0].toNat : Int) == 34) = false := by simpa using hq
        clear HT hq
        go_enter Tryz.func121, Tryz.ntmps121
        go_wp2_with (first | (go_at_call 149; refine (digit_any _ _).mono ?_; rintro e w' ⟨rfl, rfl⟩) | (go_at_call 151; refine (letter_any _ _).mono ?_; rintro e w' ⟨rfl, rfl⟩) | (go_at_call 154; refine (sign_any _ _).mono ?_; rintro e w' ⟨rfl, rfl⟩))
        go_ret2
        rw [hr.out]
        exact ⟨rfl, Below.refl _ _⟩
    · have hr : Hid (tok1 s.data.toList = wdI s.data.toList) := by
        unfold Hid; rw [HT.out, hd, hl, if_neg (by simp), if_pos rfl]
      have hld : Hid (ldB (s[0].toNat : Int) = true) := by unfold Hid ldB; rw [hl]; rfl
      clear HT
      go_enter Tryz.func121, Tryz.ntmps121
      go_wp2_with (first | (go_at_call 149; refine (digit_any _ _).mono ?_; rintro e w' ⟨rfl, rfl⟩) | (go_at_call 151; refine (letter_any _ _).mono ?_; rintro e w' ⟨rfl, rfl⟩) | (go_at_call 152; refine (word_any s _ hs h0 hld).mono ?_; rintro e w' ⟨rfl, rfl⟩))
      go_ret2
      rw [hr.out]
      exact ⟨rfl, Below.refl _ _⟩
  · have hr : Hid (tok1 s.data.toList = numI s.data.toList) := by
      unfold Hid; rw [HT.out, hd, if_pos rfl]
    have hld : Hid (dgB (s[0].toNat : Int) = true) := hd
    clear HT
    go_enter Tryz.func121, Tryz.ntmps121
    go_wp2_with (first | (go_at_call 149; refine (digit_any _ _).mono ?_; rintro e w' ⟨rfl, rfl⟩) | (go_at_call 150; refine (number_any s _ hs h0 hld hE).mono ?_; rintro e w' ⟨rfl, hb⟩))
    go_ret2
    rw [hr.out]
    exact ⟨rfl, hb⟩
def tkCells (t : Tk) : List Value := [.int .i64 t.k, .string ⟨t.x.toArray⟩, .int .i64 t.p]
theorem Tryz.info142 : (Tryz.prog.info? 142).map (fun i => (i.zero, i.size, i.bytes)) = some (some (.agg #[.int .i64 0, .string ⟨#[]⟩, .int .i64 0]), 3, 32) := by kernel_rfl
theorem extract_eq (s : ByteArray) (a b : Nat) : s.extract a b = ⟨((s.data.toList.drop a).take (b - a)).toArray⟩ := by
  have : (s.extract a b).data.toList = (s.data.toList.drop a).take (b - a) := by rw [Lib.extract_data]
  rw [← this]
theorem ErrVar.below {w w' : World} (h : ErrVar w) (hb : Below w.heap.size w w') : ErrVar w' := by
  obtain ⟨tp, p, hv⟩ := h
  cases hg : Tryz.prog.globalNamed "strconv.ErrRange" with
  | none => unfold World.var? at hv; rw [hg] at hv; simp at hv
  | some g =>
    have hlt : g < w.heap.size := by
      unfold World.var? at hv
      simp only [hg, Option.bind_some] at hv
      by_cases h1 : g < w.heap.size
      · exact h1
      · rw [Array.getElem?_eq_none (by omega)] at hv
        simp at hv
    exact ⟨tp, p, var?_below hb hg hlt hv⟩
theorem owns_below {w w' : World} {base : Nat} {e : TypeId} {size : Nat} {v : Value} {n : Nat} {xs : List Value} (h : w.ownsRow base e size v n xs) (hb : Below w.heap.size w w') : w'.ownsRow base e size v n xs :=
  h.kept (row := none) ⟨hb.os, hb.tape, hb.output, hb.size, fun k hk _ => hb.block k hk⟩ (by
    cases v.ownBlock with
    | none => exact Or.inl rfl
    | some x => exact Or.inr (by simp))
def ScanAt (s : ByteArray) (k : Nat) (ts : List Tk) : Prop :=
  ∃ f, s.size - k ≤ f ∧ scn s.size s.data.toList 0 = (ts ++ (scn f (s.data.toList.drop k) k).1, (scn f (s.data.toList.drop k) k).2)
theorem scanAt_start (s : ByteArray) : ScanAt s 0 [] := ⟨s.size, by omega, by simp⟩
theorem scanAt_blank (s : ByteArray) (k : Nat) (ts : List Tk) (h : ScanAt s k ts) (hk : k < s.size) (hb : s[k] = 32) : ScanAt s (k + 1) ts := by
  obtain ⟨f, hf, he⟩ := h
  obtain ⟨g, rfl⟩ : ∃ g, f = g + 1 := ⟨f - 1, by omega⟩
  rw [drop_at s k hk, scn, if_pos hb] at he
  exact ⟨g, by omega, he⟩
theorem scanAt_none (s : ByteArray) (k : Nat) (ts : List Tk) (h : ScanAt s k ts) (hk : k < s.size) (hb : s[k] ≠ 32) (h0 : (tok1 (s.data.toList.drop k)).1 = 0) : (scn s.size s.data.toList 0).2 = some k := by
  obtain ⟨f, hf, he⟩ := h
  obtain ⟨g, rfl⟩ : ∃ g, f = g + 1 := ⟨f - 1, by omega⟩
  rw [drop_at s k hk] at he h0
  rw [scn, if_neg hb, if_pos h0] at he
  rw [he]
theorem scanAt_one (s : ByteArray) (k : Nat) (ts : List Tk) (h : ScanAt s k ts) (hk : k < s.size) (hb : s[k] ≠ 32) (h0 : (tok1 (s.data.toList.drop k)).1 ≠ 0) :
    ScanAt s (k + (tok1 (s.data.toList.drop k)).2) (ts ++ [⟨(tok1 (s.data.toList.drop k)).1, (s.data.toList.drop k).take (tok1 (s.data.toList.drop k)).2, k⟩]) := by
  obtain ⟨f, hf, he⟩ := h
  obtain ⟨g, rfl⟩ : ∃ g, f = g + 1 := ⟨f - 1, by omega⟩
  have hz := tok1_size _ h0
  refine ⟨g, by omega, ?_⟩
  rw [he, scn_tok g _ k s[k] (by rw [drop_at s k hk]; rfl) hb h0, List.drop_drop]
  simp
theorem scanAt_end (s : ByteArray) (ts : List Tk) (h : ScanAt s s.size ts) : scn s.size s.data.toList 0 = (ts, none) := by
  obtain ⟨f, hf, he⟩ := h
  rw [drop_end, scn_nil] at he
  rw [he]; simp
set_option maxHeartbeats 1000000 in
theorem scan_any (s : ByteArray) (w : World) (hs : s.size ≤ 1000000) (hE : Hid (ErrVar w)) :
    Calls Tryz.prog 92 #[.string s] w fun e w' => Below w.heap.size w w' ∧
      (((scn s.size s.data.toList 0).2 = none ∧ ∃ v, e = .returned (.tuple #[v, .int .i64 0, .bool true]) ∧ w'.ownsRow w.heap.size 142 3 v (scn s.size s.data.toList 0).1.length ((scn s.size s.data.toList 0).1.flatMap tkCells)) ∨
       (∃ p : Nat, (scn s.size s.data.toList 0).2 = some p ∧ e = .returned (.tuple #[.slice none 0 0, .int .i64 p, .bool false]))) := by
  obtain ⟨i0, hi, hz0, hz1, hz2⟩ := info_parts Tryz.info142
  go_enter Tryz.func92, Tryz.ntmps92
  go_wp2_with fail
  go_loopw [5, 6] (fun v i wr => ∃ (k : Nat) (ts : List Tk), k ≤ s.size ∧ ts.length ≤ k ∧ i = .int .i64 k ∧ wr.ownsRow w.heap.size 142 3 v ts.length (ts.flatMap tkCells) ∧ Below w.heap.size w wr ∧ Hid (ScanAt s k ts)) (fun _ i _ => s.size - (intOf i).toNat)
  case atStart => exact ⟨0, [], by omega, by simp, rfl, World.ownsRow_nil _ _ _ _, Below.refl _ _, scanAt_start s⟩
  case round =>
    obtain ⟨k, ts, hk, htk, rfl, hown, hb, hsc⟩ := hrel
    by_cases hlt : k < s.size
    · by_cases hbl : (s[k].toNat : Int) = 32
      · have h1 : ((s[k].toNat : Int) == 32) = true := by simpa using hbl
        have h2 : Hid (s[k] = 32) := by unfold Hid; exact UInt8.toNat_inj.1 (by have : (32 : UInt8).toNat = 32 := rfl; omega)
        clear hbl
        go_wp2_with fail
        go_roundw
        case rel => exact ⟨k + 1, ts, by omega, by omega, by go_num, hown, hb, scanAt_blank s k ts hsc.out hlt h2.out⟩
        case measure => simp [intOf]; omega
      · have h1 : ((s[k].toNat : Int) == 32) = false := by simpa using hbl
        have h2 : Hid (s[k] ≠ 32) := by unfold Hid; intro h; exact hbl (by rw [h]; rfl)
        clear hbl
        have hx : Hid ((s.extract k s.size).data.toList = s.data.toList.drop k) := Lib.extract_to_end s k
        have hE1 : Hid (ErrVar wr) := hE.out.below hb
        obtain ⟨kd, hkd⟩ : ∃ kd, (tok1 (s.data.toList.drop k)).1 = kd := ⟨_, rfl⟩
        obtain ⟨z, hz⟩ : ∃ z, (tok1 (s.data.toList.drop k)).2 = z := ⟨_, rfl⟩
        have HK : Hid _ := hkd
        have HZ : Hid _ := hz
        clear hkd hz
        by_cases hk0 : kd = 0
        · have hk1 : (kd == 0) = true := by simpa using hk0
          have hk2 : Hid (kd = 0) := hk0
          clear hk0
          go_wp2_with fail
          refine (first_any _ _ (by unfold maxLen; simp; omega) (by simp; omega) hE1).mono ?_
          rintro e w1 ⟨rfl, hb1⟩
          rw [hx.out, HK.out, HZ.out]
          go_wp2_with fail
          go_ret3
          exact ⟨hb.trans (hb1.mono hb.size), Or.inr ⟨k, scanAt_none s k ts hsc.out hlt h2.out (by rw [HK.out, hk2.out]), rfl⟩⟩
        · have hk1 : (kd == 0) = false := by simpa using hk0
          have hzz := tok1_size (s.data.toList.drop k) (by rw [HK.out]; exact hk0)
          rw [HZ.out, List.length_drop, len_eq] at hzz
          obtain ⟨hzl, hzu⟩ := hzz
          have hk2 : Hid (kd ≠ 0) := hk0
          clear hk0
          go_wp2_with fail
          refine (first_any _ _ (by unfold maxLen; simp; omega) (by simp; omega) hE1).mono ?_
          rintro e w1 ⟨rfl, hb1⟩
          rw [hx.out, HK.out, HZ.out]
          have hown1 := owns_below hown hb1
          have hsz1 := hb1.size
          have hsz := hb.size
          clear hown hE1
          go_wp2_with (at_builtin; go_must (refine wpList_append_own _ rfl _ _ 81 rfl w.heap.size 142 i0 _ 3 32 Tryz.underlying81 hi hz0 hz1 hz2 rfl (by decide) _ _ _ rfl (hown1.alloc _) ⟨w1.heap.size, 0, none⟩ 1 1 [.int .i64 kd, .string (s.extract k (k + z)), .int .i64 k] rfl rfl ?c1 ?c2 ?c3 ?c4 ?c5 ?_))
          case c1 =>
            intro j u hj
            match j, hj with
            | 0, hj => simp at hj; subst hj; simp [Addr.add]
            | 1, hj => simp at hj; subst hj; simp [Addr.add]
            | 2, hj => simp at hj; subst hj; simp [Addr.add]
            | j + 3, hj => simp at hj
          case c2 =>
            intro u hu
            simp only [List.mem_cons, List.not_mem_nil, or_false] at hu
            rcases hu with rfl | rfl | rfl <;> rfl
          case c3 => unfold maxLen; omega
          case c4 => omega
          case c5 => simp; omega
          intro v' w2 hown2 hgrow _
          have hnew : Hid (w2.ownsRow w.heap.size 142 3 v' (ts ++ [Tk.mk kd ((s.data.toList.drop k).take z) k]).length ((ts ++ [Tk.mk kd ((s.data.toList.drop k).take z) k]).flatMap tkCells)) := by
            have e1 : s.extract k (k + z) = ⟨((s.data.toList.drop k).take z).toArray⟩ := by rw [extract_eq, Nat.add_sub_cancel_left]
            rw [e1] at hown2
            unfold Hid
            rw [List.length_append, List.flatMap_append]
            exact hown2
          have hbel : Hid (Below w.heap.size w w2) := by
            refine ((hb.trans (hb1.mono hsz)).alloc (by omega) _).grown hgrow (by simp; omega) ?_
            intro q hq
            exact (hown1.lt q hq).1
          have hsc2 : Hid (ScanAt s (k + z) (ts ++ [Tk.mk kd ((s.data.toList.drop k).take z) k])) := by
            have := scanAt_one s k ts hsc.out hlt h2.out (by rw [HK.out]; exact hk2.out)
            rw [HK.out, HZ.out] at this
            exact this
          clear hown2 hgrow hown1 hsc
          go_wp2_with fail
          go_roundw
          case rel => exact ⟨k + z, ts ++ [Tk.mk kd ((s.data.toList.drop k).take z) k], by omega, by simp; omega, by go_num, hnew.out, hbel.out, hsc2⟩
          case measure => simp [intOf]; omega
    · go_wp2_with fail
      have e : k = s.size := by omega
      subst e
      have hfin := scanAt_end s ts hsc.out
      go_ret3
      rw [hfin]
      exact ⟨hb, Or.inl ⟨rfl, _, rfl, hown⟩⟩
end Go.Proofs.YtlpmmmmniojflaaGreatDoor
/- The program's parser in memory: 'kind', 'take', 'place', 'negations'. -/
namespace Go.Proofs.YtlpmmmmniojflaaGreatDoor
open Go.RowKit
structure PW (w : World) (B pb : Nat) (v : Value) (ts : List Tk) (i d : Nat) : Prop where
  blk : w.heap[pb]? = some (.cells #[v, .int .i64 i, .int .i64 d] 194 (0, 0))
  own : w.ownsRow B 142 3 v ts.length (ts.flatMap tkCells)
  low : B ≤ pb
  apart : v.ownBlock ≠ some pb
  le : i ≤ ts.length
  small : ts.length ≤ 1000000
  deep : d ≤ 8
def kindAt (ts : List Tk) (i : Nat) : Int := match ts[i]? with | some t => t.k | none => 0
theorem PW.c0 {w : World} {B pb : Nat} {v : Value} {ts : List Tk} {i d : Nat} (h : PW w B pb v ts i d) : w.cell? ⟨pb, 0, none⟩ = some v := by
  simp [World.cell?, h.blk]
theorem PW.c1 {w : World} {B pb : Nat} {v : Value} {ts : List Tk} {i d : Nat} (h : PW w B pb v ts i d) : w.cell? ⟨pb, 1, none⟩ = some (.int .i64 i) := by
  simp [World.cell?, h.blk]
theorem PW.c2 {w : World} {B pb : Nat} {v : Value} {ts : List Tk} {i d : Nat} (h : PW w B pb v ts i d) : w.cell? ⟨pb, 2, none⟩ = some (.int .i64 d) := by
  simp [World.cell?, h.blk]
theorem PW.free {w : World} {B pb : Nat} {v : Value} {ts : List Tk} {i d : Nat} (h : PW w B pb v ts i d) (o : Nat) : w.frozen? ⟨pb, o, none⟩ = false := by
  simp [World.frozen?, h.blk]
theorem flat_get (ts : List Tk) (i : Nat) (t : Tk) (h : ts[i]? = some t) : (ts.flatMap tkCells)[i * 3]? = some (.int .i64 t.k) ∧ (ts.flatMap tkCells)[i * 3 + 1]? = some (.string ⟨t.x.toArray⟩) ∧ (ts.flatMap tkCells)[i * 3 + 2]? = some (.int .i64 t.p) := by
  induction ts generalizing i with
  | nil => simp at h
  | cons a r ih =>
    cases i with
    | zero =>
      simp only [List.getElem?_cons_zero, Option.some.injEq] at h
      subst h
      simp [tkCells]
    | succ i =>
      rw [List.getElem?_cons_succ] at h
      have := ih i h
      rw [List.flatMap_cons]
      have e : (tkCells a).length = 3 := rfl
      rw [List.getElem?_append_right (by omega), List.getElem?_append_right (by omega), List.getElem?_append_right (by omega), e]
      have e1 : (i + 1) * 3 - 3 = i * 3 := by omega
      have e2 : (i + 1) * 3 + 1 - 3 = i * 3 + 1 := by omega
      have e3 : (i + 1) * 3 + 2 - 3 = i * 3 + 2 := by omega
      rw [e1, e2, e3]
      exact this
theorem PW.list {w : World} {B pb : Nat} {v : Value} {ts : List Tk} {i d : Nat} (h : PW w B pb v ts i d) :
    (v = .slice none 0 0 ∧ ts = []) ∨ ∃ g cap, v = .slice (some ⟨g, 0, none⟩) ts.length cap ∧ B ≤ g ∧ ts.length ≤ cap ∧ ∀ (j : Nat) (t : Tk), ts[j]? = some t →
      w.cell? ⟨g, j * 3, none⟩ = some (.int .i64 t.k) ∧ w.cell? ⟨g, j * 3 + 1, none⟩ = some (.string ⟨t.x.toArray⟩) ∧ w.cell? ⟨g, j * 3 + 2, none⟩ = some (.int .i64 t.p) := by
  have ho := h.own
  rcases ho.2 with ⟨hv, hn⟩ | ⟨g, cap, cur, hv, hg, hh, hnc, hcm, hcs, htake⟩
  · exact Or.inl ⟨hv, List.length_eq_zero_iff.1 hn⟩
  · refine Or.inr ⟨g, cap, hv, hg, hnc, fun j t hj => ?_⟩
    rw [hv] at ho
    have hjl : j < ts.length := (List.getElem?_eq_some_iff.1 hj).1
    obtain ⟨f0, f1, f2⟩ := flat_get ts j t hj
    exact ⟨by rw [ho.cellAt (j * 3) (by omega)]; exact f0, by rw [ho.cellAt (j * 3 + 1) (by omega)]; exact f1, by rw [ho.cellAt (j * 3 + 2) (by omega)]; exact f2⟩
set_option maxHeartbeats 1000000 in
theorem kind_any (w : World) (B pb : Nat) (v : Value) (ts : List Tk) (i d : Nat) (h : Hid (PW w B pb v ts i d)) :
    Calls Tryz.prog 156 #[.pointer (some ⟨pb, 0, none⟩)] w fun e w' => e = .returned (.int .i64 (kindAt ts i)) ∧ ∃ n, w' = w.drewN n := by
  have c0 := h.out.c0
  have c1 := h.out.c1
  have hle := h.out.le
  have hsm := h.out.small
  rcases h.out.list with ⟨rfl, rfl⟩ | ⟨g, cap, rfl, hg, hcap, hc⟩
  · have hi : i = 0 := by simpa using hle
    subst hi
    go_enter Tryz.func156, Tryz.ntmps156
    go_wp2
    go_quiet (fail)
    go_wp2
    go_ret
    exact ⟨rfl, _, rfl⟩
  · by_cases hlt : i < ts.length
    · obtain ⟨t, ht⟩ : ∃ t, ts[i]? = some t := ⟨_, List.getElem?_eq_getElem hlt⟩
      obtain ⟨k0, _, _⟩ := hc i t ht
      have hk : Hid (kindAt ts i = t.k) := by unfold Hid kindAt; rw [ht]
      have hlti : (i : Int) < (ts.length : Int) := by omega
      clear hc ht
      go_enter Tryz.func156, Tryz.ntmps156
      go_wp2
      go_quiet (fail)
      go_wp2
      go_quiet (fail)
      go_wp2
      go_ret
      rw [hk.out]
      exact ⟨rfl, _, by rw [World.drewN_drewN]⟩
    · have hlti : ¬ (i : Int) < (ts.length : Int) := by omega
      have hk : Hid (kindAt ts i = 0) := by unfold Hid kindAt; rw [List.getElem?_eq_none (by omega)]
      clear hc
      go_enter Tryz.func156, Tryz.ntmps156
      go_wp2
      go_quiet (fail)
      go_wp2
      go_ret
      rw [hk.out]
      exact ⟨rfl, _, rfl⟩
section
variable {w : World} {B pb : Nat} {v : Value} {ts : List Tk} {i d : Nat}
theorem PW.of_heap (h : PW w B pb v ts i d) {w' : World} (e : w'.heap = w.heap) : PW w' B pb v ts i d :=
  ⟨by rw [e]; exact h.blk, by have := h.own; unfold World.ownsRow at this ⊢; rw [e]; exact this, h.low, h.apart, h.le, h.small, h.deep⟩
theorem PW.drewN (h : PW w B pb v ts i d) (n : Nat) : PW (w.drewN n) B pb v ts i d := h.of_heap rfl
theorem PW.lt (h : PW w B pb v ts i d) : pb < w.heap.size := lt_of_block h.blk
theorem PW.alloc (h : PW w B pb v ts i d) (o : Obj) : PW (w.alloc o) B pb v ts i d :=
  ⟨by rw [Below.heap_alloc w o pb h.lt]; exact h.blk, h.own.alloc o, h.low, h.apart, h.le, h.small, h.deep⟩
theorem three_setCell {w : World} {b : Nat} {x y z u : Value} {t : TypeId} (h : w.heap[b]? = some (.cells #[x, y, z] t (0, 0))) :
    (w.setCell ⟨b, 1, none⟩ u).heap[b]? = some (.cells #[x, u, z] t (0, 0)) ∧ (w.setCell ⟨b, 2, none⟩ u).heap[b]? = some (.cells #[x, y, u] t (0, 0)) := by
  have hlt := lt_of_block h
  have h' : w.heap[b] = .cells #[x, y, z] t (0, 0) := by simpa [Array.getElem?_eq_getElem hlt] using h
  constructor
  · show (w.heap.modify b _)[b]? = _
    rw [Array.getElem?_eq_getElem (by simpa using hlt), Array.getElem_modify_self, h']
    rfl
  · show (w.heap.modify b _)[b]? = _
    rw [Array.getElem?_eq_getElem (by simpa using hlt), Array.getElem_modify_self, h']
    rfl
theorem PW.next (h : PW w B pb v ts i d) (j : Nat) (hj : j ≤ ts.length) : PW (w.setCell ⟨pb, 1, none⟩ (.int .i64 j)) B pb v ts j d :=
  ⟨(three_setCell h.blk).1, ownsRow_setCell_other h.own h.apart _, h.low, h.apart, hj, h.small, h.deep⟩
theorem PW.depth (h : PW w B pb v ts i d) (j : Nat) (hj : j ≤ 8) : PW (w.setCell ⟨pb, 2, none⟩ (.int .i64 j)) B pb v ts i j :=
  ⟨(three_setCell h.blk).2, ownsRow_setCell_other h.own h.apart _, h.low, h.apart, h.le, h.small, hj⟩
end
theorem kindAt_lt {ts : List Tk} {i : Nat} (h : kindAt ts i ≠ 0) : i < ts.length := by
  by_cases hl : i < ts.length
  · exact hl
  · exact absurd (by unfold kindAt; rw [List.getElem?_eq_none (by omega)]) h
def KL (w : World) (kb : Nat) (ks : List Int) : Prop := ∀ (j : Nat) (q : Int), ks[j]? = some q → w.cell? ⟨kb, j, none⟩ = some (.int .i64 q)
def tkB (ks : List Int) (q : Int) : Bool := decide (q ∈ ks)
def tkI (ks : List Int) (q : Int) (i : Nat) : Nat := if q ∈ ks then i + 1 else i
set_option maxHeartbeats 1000000 in
theorem take_any (w : World) (B pb : Nat) (v : Value) (ts : List Tk) (i d kb : Nat) (ks : List Int) (h : Hid (PW w B pb v ts i d)) (hk : Hid (KL w kb ks)) (hkl : ks.length ≤ 3) (h0 : Hid (¬ (0 : Int) ∈ ks)) :
    Calls Tryz.prog 123 #[.pointer (some ⟨pb, 0, none⟩), .slice (some ⟨kb, 0, none⟩) ks.length ks.length] w fun e w' => e = .returned (.bool (tkB ks (kindAt ts i))) ∧ Below B w w' ∧
      PW w' B pb v ts (tkI ks (kindAt ts i) i) d := by
  have hle := h.out.le
  have hsm := h.out.small
  go_enter Tryz.func123, Tryz.ntmps123
  go_wp2_with fail
  go_loopw [9] (fun x wr => ∃ (k n : Nat), k ≤ ks.length ∧ x = .int .i64 k ∧ Hid (wr = w.drewN n) ∧ Hid (¬ kindAt ts i ∈ ks.take k)) (fun x _ => ks.length - (intOf x).toNat)
  case atStart => exact ⟨0, 0, by omega, rfl, rfl, by unfold Hid; simp⟩
  case round =>
    obtain ⟨k, n, hkk, rfl, hwr, hno⟩ := hrel
    have hpw : Hid (PW wr B pb v ts i d) := by unfold Hid; rw [hwr.out]; exact h.out.drewN n
    by_cases hlt : k < ks.length
    · obtain ⟨q, hq⟩ : ∃ q, ks[k]? = some q := ⟨_, List.getElem?_eq_getElem hlt⟩
      have hc : wr.cell? ⟨kb, k, none⟩ = some (.int .i64 q) := by rw [hwr.out]; exact hk.out k q hq
      have hlti : (k : Int) < (ks.length : Int) := by omega
      have HQ : Hid _ := hq
      clear hq
      by_cases hkq : kindAt ts i = q
      · have h1 : (kindAt ts i == q) = true := by simpa using hkq
        have h2 : Hid (kindAt ts i = q) := hkq
        clear hkq
        have c1 := hpw.out.c1
        have f1 := hpw.out.free 1
        have hil : i < ts.length := kindAt_lt (by rw [h2.out]; intro hz; exact h0.out (by rw [← hz]; exact List.mem_of_getElem? HQ.out))
        have hin : Hid (kindAt ts i ∈ ks) := by unfold Hid; rw [h2.out]; exact List.mem_of_getElem? HQ.out
        go_wp2_with (go_at_call 156; refine (kind_any _ B pb v ts i d hpw).mono ?_; rintro e w' ⟨rfl, m, rfl⟩)
        go_ret
        rw [show tkB ks (kindAt ts i) = true from decide_eq_true hin.out, show tkI ks (kindAt ts i) i = i + 1 from if_pos hin.out]
        refine ⟨rfl, ?_, ?_⟩
        · rw [hwr.out]; exact (below_drewN (below_drewN (Below.refl _ _) n) m).setCell h.out.low _
        · exact (hpw.out.drewN m).next (i + 1) (by omega)
      · have h1 : (kindAt ts i == q) = false := by simpa using hkq
        have h2 : Hid (kindAt ts i ≠ q) := hkq
        clear hkq
        go_wp2_with (go_at_call 156; refine (kind_any _ B pb v ts i d hpw).mono ?_; rintro e w' ⟨rfl, m, rfl⟩)
        go_roundw
        case rel =>
          refine ⟨k + 1, n + m, by omega, by go_num, ?_, ?_⟩
          · unfold Hid; rw [hwr.out, World.drewN_drewN]
          · unfold Hid
            rw [List.take_add_one, HQ.out]
            simp only [Option.toList_some, List.mem_append, List.mem_singleton, not_or]
            exact ⟨hno.out, h2.out⟩
        case measure => simp [intOf]; omega
    · have hlti : ¬ (k : Int) < (ks.length : Int) := by omega
      go_wp2_with fail
      go_ret
      have hn2 : ¬ kindAt ts i ∈ ks := by
        have := hno.out
        rw [List.take_of_length_le (by omega)] at this
        exact this
      rw [show tkB ks (kindAt ts i) = false from decide_eq_false hn2, show tkI ks (kindAt ts i) i = i from if_neg hn2, hwr.out]
      exact ⟨rfl, below_drewN (Below.refl _ _) n, h.out.drewN n⟩
end Go.Proofs.YtlpmmmmniojflaaGreatDoor
/- The program's package values, walked. -/
set_option linter.unusedVariables false
set_option linter.unusedSimpArgs false
namespace Go.Proofs.YtlpmmmmniojflaaGreatDoor
open Go.RowKit
def vV (v : V) : Value := .agg #[.int .i64 v.k, .int .i64 v.n, .string v.s]
def Gives (fn : Nat) (args : Array Value) (v : Value) : Prop := ∀ w : World, Calls Tryz.prog fn args w fun e w' => e = .returned v ∧ Below w.heap.size w w'
theorem bal {w w' : World} (h : Below w.heap.size w w') (o : Obj) : Below w.heap.size w (w'.alloc o) := h.alloc h.size o
theorem bl1 (w : World) (o : Obj) : Below w.heap.size w (w.alloc o) := (Below.refl _ _).alloc (Nat.le_refl _) _
theorem bl2 (w : World) (o p : Obj) : Below w.heap.size w ((w.alloc o).alloc p) := (bl1 w o).alloc (by simp) _
theorem bl3 (w : World) (o p q : Obj) : Below w.heap.size w (((w.alloc o).alloc p).alloc q) := (bl2 w o p).alloc (by simp; omega) _
set_option maxHeartbeats 1000000 in
theorem int_w (n : Int) : Gives 204 #[.int .i64 n] (vV (vI n)) := by
  intro w
  unfold vV vI eB
  go_enter Tryz.func204, Tryz.ntmps204
  go_wp2_with fail
  go_returns
  exact ⟨rfl, bl1 _ _⟩
set_option maxHeartbeats 1000000 in
theorem error_w (n : Int) : Gives 203 #[.int .i64 n] (vV (vE n)) := by
  intro w
  unfold vV vE eB
  go_enter Tryz.func203, Tryz.ntmps203
  go_wp2_with fail
  go_returns
  exact ⟨rfl, bl1 _ _⟩
set_option maxHeartbeats 1000000 in
theorem text_w (s : ByteArray) : Gives 256 #[.string s] (vV (vT s)) := by
  intro w
  unfold vV vT
  go_enter Tryz.func256, Tryz.ntmps256
  go_wp2_with fail
  go_returns
  exact ⟨rfl, bl1 _ _⟩
set_option maxHeartbeats 1000000 in
theorem bool_w (b : Bool) : Gives 226 #[.bool b] (vV (vB b)) := by
  intro w
  unfold vV vB eB
  cases b
  all_goals
    go_enter Tryz.func226, Tryz.ntmps226
    go_wp2_with fail
    go_returns
    exact ⟨rfl, bl1 _ _⟩
set_option maxHeartbeats 1000000 in
theorem cycle_w : Gives 177 #[] (vV cyc) := by
  intro w
  unfold vV cyc vE eB
  go_enter Tryz.func177, Tryz.ntmps177
  go_wp2
  go_returns
  exact ⟨rfl, bl2 _ _ _⟩
theorem num_in {n s : Int} (hs : wrap64 n = s) (h : -9223372036854775808 ≤ n ∧ n ≤ 9223372036854775807) : vNum n = vI s := by
  have : s = n := by unfold wrap64 at hs; omega
  unfold vNum inR; rw [if_pos (decide_eq_true h), this]
theorem num_out {n : Int} (h : ¬ (-9223372036854775808 ≤ n ∧ n ≤ 9223372036854775807)) : vNum n = vE 1 := by
  unfold vNum inR; rw [if_neg (by rw [decide_eq_true_iff]; exact h)]
end Go.Proofs.YtlpmmmmniojflaaGreatDoor
