/- Texts put together. -/
import Derived.Test.YtlpmmmmniojflaaGreatDoorQ10
import Derived.Test.YtlpmmmmniojflaaGreatDoorQ13
import Derived.Lib.AppendIntMem
import Derived.Test.YtlpmmmmniojflaaGreatDoorQ11
import Derived.Test.YtlpmmmmniojflaaGreatDoorQ08
import Derived.Test.YtlpmmmmniojflaaGreatDoorQ09
import Derived.Test.YtlpmmmmniojflaaGreatDoorQ12
/- The statement's own small functions: 'Feed.next', 'num', 'name', 'few', 'pick'. -/
namespace Go.Proofs.YtlpmmmmniojflaaGreatDoor
open Go.RowKit
structure FD (w : World) (B fb : Nat) (fd : List UInt8) : Prop where
  blk : ∃ (raw : ByteArray) (at_ : Nat), w.heap[fb]? = some (.cells #[.string raw, .int .i64 at_] 30 (0, 0)) ∧ at_ ≤ raw.size ∧ raw.size ≤ 9223372036854775806 ∧ raw.data.toList.drop at_ = fd
  low : B ≤ fb
theorem FD.lt {w : World} {B fb : Nat} {fd : List UInt8} (h : FD w B fb fd) : fb < w.heap.size := by
  obtain ⟨_, _, h, _⟩ := h.blk
  exact lt_of_block h
theorem FD.size {w : World} {B fb : Nat} {fd : List UInt8} (h : FD w B fb fd) : B ≤ w.heap.size := Nat.le_of_lt (Nat.lt_of_le_of_lt h.low h.lt)
theorem FD.below {w w' : World} {B fb : Nat} {fd : List UInt8} (h : FD w B fb fd) (hb : Below w.heap.size w w') : FD w' B fb fd := by
  have hl := h.lt
  obtain ⟨raw, at_, h1, h2⟩ := h.blk
  exact ⟨⟨raw, at_, by rw [hb.block fb hl]; exact h1, h2⟩, h.low⟩
theorem FD.of_heap {w w' : World} {B fb : Nat} {fd : List UInt8} (h : FD w B fb fd) (e : w'.heap = w.heap) : FD w' B fb fd := by
  obtain ⟨raw, at_, h1, h2⟩ := h.blk
  exact ⟨⟨raw, at_, by rw [e]; exact h1, h2⟩, h.low⟩
theorem two_setCell {w : World} {b : Nat} {x y u : Value} {t : TypeId} (h : w.heap[b]? = some (.cells #[x, y] t (0, 0))) : (w.setCell ⟨b, 1, none⟩ u).heap[b]? = some (.cells #[x, u] t (0, 0)) := by
  have hlt := lt_of_block h
  have h' : w.heap[b] = .cells #[x, y] t (0, 0) := by simpa [Array.getElem?_eq_getElem hlt] using h
  show (w.heap.modify b _)[b]? = _
  rw [Array.getElem?_eq_getElem (by simpa using hlt), Array.getElem_modify_self, h']
  rfl
theorem gb_refl (w : World) (row : Option Nat) : w.grownBy w row := ⟨rfl, rfl, rfl, Nat.le_refl _, fun _ _ _ => rfl⟩
theorem gb_trans {a b c : World} {row : Option Nat} (h : a.grownBy b row) (k : b.grownBy c row) : a.grownBy c row :=
  ⟨k.os.trans h.os, k.tape.trans h.tape, k.output.trans h.output, Nat.le_trans h.size k.size, fun i hi hr => (k.block i (Nat.lt_of_lt_of_le hi h.size) hr).trans (h.block i hi hr)⟩
theorem gb_below {a b : World} {row : Option Nat} (h : Below a.heap.size a b) : a.grownBy b row := ⟨h.os, h.tape, h.output, h.size, fun k hk _ => h.block k hk⟩
theorem below_gb {B fb : Nat} {a w w' : World} (h : Below B a w) (hg : w.grownBy w' (some fb)) (hB : B ≤ w.heap.size) (hf : B ≤ fb) : Below B a w' := h.grown hg hB fun k hk => by cases hk; exact hf
theorem gb_drewN (w : World) (n : Nat) (row : Option Nat) : w.grownBy (w.drewN n) row := ⟨rfl, rfl, rfl, Nat.le_refl _, fun _ _ _ => rfl⟩
theorem gb_setCell (w : World) (b o : Nat) (u : Value) : w.grownBy (w.setCell ⟨b, o, none⟩ u) (some b) :=
  ⟨rfl, rfl, rfl, by simp [World.setCell], fun k _ hk => Below.heap_setCell w ⟨b, o, none⟩ u k (fun e => hk (by rw [e]))⟩
set_option maxHeartbeats 1000000 in
theorem next_any (n : Nat) (hn0 : 0 < n) (hn : n ≤ 1000) (w : World) (B fb : Nat) (fd : List UInt8) (h : Hid (FD w B fb fd)) :
    Calls Tryz.prog 17 #[.pointer (some ⟨fb, 0, none⟩), .int .i64 n] w fun e w' => e = .returned (.int .i64 (nx n fd).1) ∧ w.grownBy w' (some fb) ∧ FD w' B fb (nx n fd).2 := by
  obtain ⟨raw, at_, hbk, hat, hraw, hfd⟩ := h.out.blk
  have c0 : w.cell? ⟨fb, 0, none⟩ = some (.string raw) := by simp [World.cell?, hbk]
  have c1 : w.cell? ⟨fb, 1, none⟩ = some (.int .i64 at_) := by simp [World.cell?, hbk]
  have f1 : w.frozen? ⟨fb, 1, none⟩ = false := by simp [World.frozen?, hbk]
  have HBK : Hid _ := hbk
  have HFD : Hid _ := hfd
  clear hbk hfd
  by_cases hlt : at_ < raw.size
  · have hlti : ¬ (raw.size : Int) ≤ (at_ : Int) := by omega
    have hlt2 : (at_ : Int) < (raw.size : Int) := by omega
    have HN : Hid (nx n fd = (raw[at_].toNat % n, raw.data.toList.drop (at_ + 1))) := by
      unfold Hid; rw [← HFD.out, drop_at raw at_ hlt]; rfl
    go_enter Tryz.func17, Tryz.ntmps17
    go_wp2
    go_quiet (fail)
    go_wp2
    go_quiet (fail)
    generalize hc : wrap64 (raw[at_].toNat : Int) = cc
    have HC : Hid (cc = (raw[at_].toNat : Int)) := by
      unfold Hid; rw [← hc]; have := raw[at_].toNat_lt; unfold wrap64; omega
    have hcc0 : 0 ≤ cc := by have := HC.out; omega
    have hcc1 : cc ≤ 255 := by have := HC.out; have := raw[at_].toNat_lt; omega
    clear hc
    go_wp2
    go_ret
    rw [HN.out]
    refine ⟨ret_int ?_, ?_, ?_⟩
    · have h1 := HC.out
      rw [h1]
      simp
    · exact gb_trans (gb_drewN w _ _) (gb_setCell _ fb 1 _)
    · refine ⟨⟨raw, at_ + 1, ?_, by omega, hraw, rfl⟩, h.out.low⟩
      exact two_setCell (w := w.drewN _) HBK.out
  · have hlti : (raw.size : Int) ≤ (at_ : Int) := by omega
    have HN : Hid (nx n fd = (0, [])) := by
      unfold Hid
      rw [← HFD.out, List.drop_of_length_le (by rw [len_eq]; omega)]
      rfl
    go_enter Tryz.func17, Tryz.ntmps17
    go_wp2
    go_quiet (fail)
    go_wp2
    go_ret
    rw [HN.out]
    refine ⟨rfl, gb_drewN w _ _, ?_⟩
    exact ⟨⟨raw, at_, HBK.out, hat, hraw, by rw [List.drop_of_length_le (by rw [len_eq]; omega)]⟩, h.out.low⟩
def nmT (n : Nat) : List UInt8 := [UInt8.ofNat (65 + n % 6), UInt8.ofNat (49 + n / 6)]
theorem nm_run (n : Nat) (hn : n < 48) (w : World) :
    (convert 118 9 (.slice (some ⟨w.heap.size, 0, none⟩) 2 2)).run Tryz.prog (w.alloc (.cells #[.int .u8 (65 + (n : Int) % 6), .int .u8 (49 + (n : Int) / 6)] 5)) = .ok (.string ⟨(nmT n).toArray⟩) (w.alloc (.cells #[.int .u8 (65 + (n : Int) % 6), .int .u8 (49 + (n : Int) / 6)] 5)) := by
  refine run_convert_bytes_back (P := Tryz.prog) (w.alloc (.cells #[.int .u8 (65 + (n : Int) % 6), .int .u8 (49 + (n : Int) / 6)] 5)) 118 9 5 ⟨w.heap.size, 0, none⟩ 2 (nmT n) Tryz.underlying118 Tryz.underlying5 Tryz.underlying9 fun j hj => ?_
  have h0 : (UInt8.ofNat (65 + n % 6)).toNat = 65 + n % 6 := by rw [UInt8.toNat_ofNat']; omega
  have h1 : (UInt8.ofNat (49 + n / 6)).toNat = 49 + n / 6 := by rw [UInt8.toNat_ofNat']; omega
  match j, hj with
  | 0, _ =>
    show _ = some (Value.int .u8 ((UInt8.ofNat (65 + n % 6)).toNat : Int))
    rw [h0]
    simp [Addr.add]
  | 1, _ =>
    show _ = some (Value.int .u8 ((UInt8.ofNat (49 + n / 6)).toNat : Int))
    rw [h1]
    simp [Addr.add]
set_option maxHeartbeats 1000000 in
set_option maxRecDepth 100000 in
theorem name_any (n : Nat) (hn : n < 48) (w : World) : Calls Tryz.prog 24 #[.int .i64 n] w fun e w' => e = .returned (.string ⟨(nmT n).toArray⟩) ∧ Below w.heap.size w w' := by
  have hr := nm_run n hn w
  go_enter Tryz.func24, Tryz.ntmps24
  go_wp2_with fail
  go_ret
  exact ⟨rfl, (Below.refl _ _).alloc (Nat.le_refl _) _⟩
set_option maxHeartbeats 1000000 in
theorem few_any (w : World) (B fb : Nat) (fd : List UInt8) (h : Hid (FD w B fb fd)) :
    Calls Tryz.prog 40 #[.pointer (some ⟨fb, 0, none⟩)] w fun e w' => e = .returned (.string ⟨(nmT (nx 12 fd).1).toArray⟩) ∧ w.grownBy w' (some fb) ∧ FD w' B fb (nx 12 fd).2 := by
  have hl : Hid _ := nx_lt 12 (by omega) fd
  go_enter Tryz.func40, Tryz.ntmps40
  go_wp2_with fail
  refine (next_any 12 (by omega) (by omega) _ B fb fd h).mono ?_
  rintro e w1 ⟨rfl, hb1, hf1⟩
  have HB : Hid _ := hb1
  have HF : Hid _ := hf1
  clear hb1 hf1
  go_wp2_with fail
  refine (name_any _ (by have := hl.out; omega) _).mono ?_
  rintro e w2 ⟨rfl, hb2⟩
  go_wp2_with fail
  go_ret
  exact ⟨rfl, gb_trans HB.out (gb_below hb2), HF.out.below hb2⟩
theorem below_grow (B : Nat) (w : World) (hB : B ≤ w.heap.size) (k : Nat) (os : Array Obj) : Below B w (Go.Sort.grow (w.drewN k) os) :=
  Lib.below_grow B w hB k os
def Amb (w : World) : Prop := ErrVar w ∧ Lib.TabIs Tryz.prog w "internal/strconv.uint64pow10" .u64 Lib.pow10Tab ∧ SynVar w
theorem num_any (n : Nat) (hn : n < 1000) (w : World) (hA : Amb w) : Calls Tryz.prog 23 #[.int .i64 n] w fun e w' => e = .returned (.string ⟨(Lib.decDigits n).toArray⟩) ∧ Below w.heap.size w w' := by
  have hA2 : Hid _ := hA
  go_enter Tryz.func23, Tryz.ntmps23
  go_wp2_with fail
  refine (Tryz.strconv_Itoa n (by omega) (by omega) _ hA2.out.2.1).mono ?_
  rintro e w1 ⟨rfl, k, os, rfl⟩
  go_wp2_with fail
  go_ret
  have e : Lib.itoa (n : Int) = Lib.decDigits n := by unfold Lib.itoa; rw [if_neg (by omega)]; simp
  rw [e]
  exact ⟨rfl, below_grow _ w (Nat.le_refl _) k os⟩
theorem var_keeps {w w' : World} {n : String} {cs : Array Value} (hv : w.var? Tryz.prog n = some cs) (hb : Below w.heap.size w w') : w'.var? Tryz.prog n = some cs := by
  cases hg : Tryz.prog.globalNamed n with
  | none => unfold World.var? at hv; rw [hg] at hv; simp at hv
  | some g =>
    have hlt : g < w.heap.size := by
      unfold World.var? at hv
      simp only [hg, Option.bind_some] at hv
      by_cases h1 : g < w.heap.size
      · exact h1
      · rw [Array.getElem?_eq_none (by omega)] at hv
        simp at hv
    exact var?_below hb hg hlt hv
theorem Amb.below {w w' : World} (h : Amb w) (hb : Below w.heap.size w w') : Amb w' := by
  obtain ⟨h1, h2, tp, p, h3⟩ := h
  exact ⟨h1.below hb, var_keeps h2 hb, tp, p, var_keeps h3 hb⟩
end Go.Proofs.YtlpmmmmniojflaaGreatDoor
/- The sheet's own 'check', of any edit; Formula. -/
set_option linter.unusedVariables false
set_option linter.unusedSimpArgs false
namespace Go.Proofs.YtlpmmmmniojflaaGreatDoor
open Go.RowKit
theorem results_tmp4 {fn : Func} {t u v z : Tmp} (h : fn.results = #[.tmp t, .tmp u, .tmp v, .tmp z]) (tmps : Array Value) (P : Program) (w : World) :
    (results fn tmps).run P w = .ok (.tuple #[tmps.getD t undef, tmps.getD u undef, tmps.getD v undef, tmps.getD z undef]) w := by
  simp [results, h]
structure Ck where
  e : Int
  p : Nat
  c : Nat
  t : ByteArray
def ckN (bd : Nat → Int × Int) (c : Nat) (tx : ByteArray) : Ck :=
  match numT (rd tx.data.toList).ts with
  | some n => if n < (bd c).1 ∨ (bd c).2 < n then ⟨5, 0, 0, eB⟩ else ⟨0, 0, c, ⟨(plT tx.data.toList).toArray⟩⟩
  | none => ⟨0, 0, c, ⟨(plT tx.data.toList).toArray⟩⟩
def ckP (bd : Nat → Int × Int) (cl tx : ByteArray) : Ck :=
  match cellN cl.data.toList with
  | none => ⟨4, 0, 0, eB⟩
  | some c => if tx = eB then ⟨0, 0, c, eB⟩ else if (rd tx.data.toList).e ≠ 0 then ⟨(rd tx.data.toList).e, (rd tx.data.toList).p, 0, eB⟩ else ckN bd c tx
theorem rd_place (l : List UInt8) : (rd l).e = 0 → (rd l).p = 0 := by
  unfold rd
  split
  · simp
  · unfold rdA
    split
    · simp
    · split
      · simp
      · unfold rdP
        split
        · simp
        · split <;> simp
set_option maxHeartbeats 1000000 in
theorem refuses_w (w : World) (lo hi n : Int) : Calls Tryz.prog 80 #[.agg #[.int .i64 lo, .int .i64 hi], .int .i64 n] w fun e w' => e = .returned (.bool (decide (n < lo) || decide (hi < n))) ∧ Below w.heap.size w w' := by
  by_cases h1 : n < lo
  · go_enter Tryz.func80, Tryz.ntmps80
    go_wp2_with fail
    go_ret
    exact ⟨ret_bool (by simp [h1]), bl1 _ _⟩
  · by_cases h2 : hi < n
    · go_enter Tryz.func80, Tryz.ntmps80
      go_wp2_with fail
      go_ret
      exact ⟨ret_bool (by simp [h2]), bl1 _ _⟩
    · go_enter Tryz.func80, Tryz.ntmps80
      go_wp2_with fail
      go_ret
      exact ⟨ret_bool (by simp [h1, h2]), bl1 _ _⟩
theorem num_some {s : ByteArray} {c : Nat} (h : cellN s.data.toList = some c) (w : World) : Calls Tryz.prog 44 #[.string s] w fun e w' => e = .returned (.tuple #[.int .i64 c, .bool true]) ∧ ∃ n, w' = w.drewN n := by
  have := number_cell s w
  rw [cn_cellN, h] at this
  exact this
theorem num_none {s : ByteArray} (h : cellN s.data.toList = none) (w : World) : Calls Tryz.prog 44 #[.string s] w fun e w' => e = .returned (.tuple #[.int .i64 0, .bool false]) ∧ ∃ n, w' = w.drewN n := by
  have := number_cell s w
  rw [cn_cellN, h] at this
  exact this
section
variable {fs : Nat → ByteArray} {bd : Nat → Int × Int} {k : Kp}
set_option maxHeartbeats 1000000 in
theorem formula_some (W : World) (x : Nat) (h : SR W x fs bd k) (s : ByteArray) (c : Nat) (hs : cellN s.data.toList = some c) :
    Calls Tryz.prog 21 #[.pointer (some ⟨x, 0, none⟩), .string s] W fun e w' => e = .returned (.tuple #[.string (fs c), .int .i64 0]) ∧ Below W.heap.size W w' := by
  have hc := cellN_lt hs
  have H1 : Hid (W.cell? ⟨x, c, none⟩ = some (.string (fs c))) := h.fs c hc
  have HS : Hid _ := hs
  clear h hs
  go_enter Tryz.func21, Tryz.ntmps21
  go_wp2_with fail
  refine (num_some HS.out _).mono ?_
  rintro e w1 ⟨rfl, n, hw⟩
  have h2 : w1.cell? ⟨x, c, none⟩ = some (.string (fs c)) := by rw [hw]; exact H1.out
  have hb : Hid (Below W.heap.size W w1) := by unfold Hid; rw [hw]; exact below_drewN (Below.refl _ _) n
  clear hw H1
  go_wp2_with fail
  go_ret2
  exact ⟨rfl, hb.out⟩
set_option maxHeartbeats 2000000 in
theorem check_any' (W : World) (x : Nat) (cl tx : ByteArray) (hSR : Hid (SR W x fs bd k)) (hA : Hid (Amb W)) (hl : tx.size ≤ maxLen) :
    Calls Tryz.prog 56 #[.pointer (some ⟨x, 0, none⟩), .agg #[.string cl, .string tx]] W fun e w' => e = .returned (.tuple #[.int .i64 (ckP bd cl tx).c, .string (ckP bd cl tx).t, .int .i64 (ckP bd cl tx).e, .int .i64 (ckP bd cl tx).p]) ∧ Below W.heap.size W w' := by
  cases hcl : cellN cl.data.toList with
  | none =>
    have HF : Hid (ckP bd cl tx = ⟨4, 0, 0, eB⟩) := by unfold Hid ckP; rw [hcl]
    have HS : Hid _ := hcl
    clear hcl
    go_enter Tryz.func56, Tryz.ntmps56
    go_wp2_with fail
    refine (num_none HS.out _).mono ?_
    rintro e w1 ⟨rfl, n, hw⟩
    have HB1 : Hid (Below W.heap.size W w1) := by unfold Hid; rw [hw]; exact below_drewN (bl1 _ _) n
    clear hw
    go_wp2_with fail
    refine bodyPost_ret (results_tmp4 rfl _ _ _) rfl ?_
    rw [HF.out]
    exact ⟨rfl, HB1.out⟩
  | some c =>
    have hc := cellN_lt hcl
    have HS : Hid _ := hcl
    by_cases h0 : tx = eB
    · have HF : Hid (ckP bd cl tx = ⟨0, 0, c, eB⟩) := by unfold Hid ckP; rw [hcl]; simp only; rw [if_pos h0]
      clear hcl
      subst h0
      unfold eB
      go_enter Tryz.func56, Tryz.ntmps56
      go_wp2_with fail
      refine (num_some HS.out _).mono ?_
      rintro e w1 ⟨rfl, n, hw⟩
      have HB1 : Hid (Below W.heap.size W w1) := by unfold Hid; rw [hw]; exact below_drewN (bl1 _ _) n
      have hc1 : w1.cell? ⟨W.heap.size, 1, none⟩ = some (.string ⟨#[]⟩) := by
        rw [hw]
        show (W.alloc _).cell? _ = _
        rw [cell_of_row _ W.heap.size 1 _ 68 (0, 0) (heap_alloc_new W _)]
        rfl
      clear hw
      go_wp2_with fail
      refine bodyPost_ret (results_tmp4 rfl _ _ _) rfl ?_
      unfold eB at HF
      rw [HF.out]
      exact ⟨rfl, HB1.out⟩
    · have hse : tx.toList.isEmpty = false := by
        rw [← decide_eq_emptyBytes]
        exact decide_eq_false h0
      have HF : Hid (ckP bd cl tx = if (rd tx.data.toList).e ≠ 0 then ⟨(rd tx.data.toList).e, (rd tx.data.toList).p, 0, eB⟩ else ckN bd c tx) := by unfold Hid ckP; rw [hcl]; simp only; rw [if_neg h0]
      have HN : Hid (ckN bd c tx = match numT (rd tx.data.toList).ts with
        | some n => if n < (bd c).1 ∨ (bd c).2 < n then ⟨5, 0, 0, eB⟩ else ⟨0, 0, c, ⟨(plT tx.data.toList).toArray⟩⟩
        | none => ⟨0, 0, c, ⟨(plT tx.data.toList).toArray⟩⟩) := rfl
      have HSm : Hid _ := rd_small tx.data.toList
      have HL : Hid _ := rd_len tx.data.toList
      have HP2 : Hid (plT tx.data.toList = if (rd tx.data.toList).e = 0 then (rd tx.data.toList).ts.flatMap ptk else []) := rfl
      have HML : Hid (tx.size ≤ maxLen) := hl
      clear hcl h0 hl
      go_enter Tryz.func56, Tryz.ntmps56
      go_wp2_with fail
      refine (num_some HS.out _).mono ?_
      rintro e w1 ⟨rfl, n, hw⟩
      have HB1 : Hid (Below W.heap.size W w1) := by unfold Hid; rw [hw]; exact below_drewN (bl1 _ _) n
      have hc1 : w1.cell? ⟨W.heap.size, 1, none⟩ = some (.string tx) := by
        rw [hw]
        show (W.alloc _).cell? _ = _
        rw [cell_of_row _ W.heap.size 1 _ 68 (0, 0) (heap_alloc_new W _)]
        rfl
      clear hw
      have HE1 : Hid (ErrVar w1) := (hA.out.below HB1.out).1
      go_wp2_with fail
      refine (read_any tx _ HE1 HML.out).mono ?_
      rintro e w2 ⟨hb2, v, rfl, _, hown⟩
      obtain ⟨⟨e, p, ts⟩, hR⟩ : ∃ R, rd tx.data.toList = R := ⟨_, rfl⟩
      have HZ : Hid ((rd tx.data.toList).e = 0 → (rd tx.data.toList).p = 0) := rd_place _
      rw [hR] at hown HSm HL HP2 HF HN HZ ⊢
      clear hR
      simp only at hown HSm HL HP2 HF HN HZ ⊢
      have HB2 : Hid (Below W.heap.size W w2) := HB1.out.trans (hb2.mono HB1.out.size)
      by_cases he : e = 0
      · subst he
        have hz := HZ.out rfl
        subst hz
        have HP3 : Hid (plT tx.data.toList = ts.flatMap ptk) := by unfold Hid; rw [HP2.out, if_pos rfl]
        have HF2 : Hid (ckP bd cl tx = match numT ts with
          | some n => if n < (bd c).1 ∨ (bd c).2 < n then ⟨5, 0, 0, eB⟩ else ⟨0, 0, c, ⟨(plT tx.data.toList).toArray⟩⟩
          | none => ⟨0, 0, c, ⟨(plT tx.data.toList).toArray⟩⟩) := by unfold Hid; rw [HF.out, if_neg (by simp), HN.out]
        obtain ⟨ao, cp, hv⟩ : ∃ ao cp, v = .slice ao ts.length cp := by
          rcases hown.2 with ⟨hv, hn0⟩ | ⟨g, cap, cur, hv, _⟩
          · exact ⟨none, 0, by rw [hv, hn0]⟩
          · exact ⟨_, _, hv⟩
        subst hv
        have HO : Hid (w2.ownsRow w1.heap.size 142 3 (.slice ao ts.length cp) ts.length (ts.flatMap tkCells)) := hown
        have HA2 : Hid (Amb w2) := hA.out.below HB2.out
        clear hown hb2 HZ HF HN HP2
        go_wp2_with fail
        refine (numx_any _ _ ts (ownsRow_TL HO.out) (by have := HL.out; omega) (fun t h => Nat.le_trans (HSm.out t h) (by omega)) HA2.out.1 HA2.out.2.2).mono ?_
        rintro e w3 ⟨rfl, hb3⟩
        have HB3 : Hid (Below W.heap.size W w3) := HB2.out.trans (hb3.mono HB2.out.size)
        have HO3 : Hid (w3.ownsRow w1.heap.size 142 3 (.slice ao ts.length cp) ts.length (ts.flatMap tkCells)) := owns_below HO.out hb3
        obtain ⟨hlo, hhi⟩ := (hSR.out.below HB3.out).bnd c hc
        clear hb3 HO HA2
        cases hn : numT ts with
        | none =>
          have HF3 : Hid (ckP bd cl tx = ⟨0, 0, c, ⟨(ts.flatMap ptk).toArray⟩⟩) := by unfold Hid; rw [HF2.out, hn, HP3.out]
          clear hlo hhi hn HF2
          go_wp2_with fail
          refine (plain_any _ _ ts (ownsRow_TL HO3.out) (by have := HL.out; omega) (fun t h => Nat.le_trans (HSm.out t h) (by omega))).mono ?_
          rintro e w4 ⟨rfl, hb4⟩
          have HB4 : Hid (Below W.heap.size W w4) := HB3.out.trans (hb4.mono HB3.out.size)
          clear hb4
          go_wp2_with fail
          refine bodyPost_ret (results_tmp4 rfl _ _ _) rfl ?_
          rw [HF3.out]
          exact ⟨rfl, HB4.out⟩
        | some q =>
          have HF3 : Hid (ckP bd cl tx = if q < (bd c).1 ∨ (bd c).2 < q then ⟨5, 0, 0, eB⟩ else ⟨0, 0, c, ⟨(ts.flatMap ptk).toArray⟩⟩) := by unfold Hid; rw [HF2.out, hn, HP3.out]
          clear hn HF2
          go_wp2_with fail
          refine (refuses_w _ (bd c).1 (bd c).2 q).mono ?_
          rintro e w4 ⟨rfl, hb4⟩
          have HB4 : Hid (Below W.heap.size W w4) := HB3.out.trans (hb4.mono HB3.out.size)
          have HO4 : Hid (w4.ownsRow w1.heap.size 142 3 (.slice ao ts.length cp) ts.length (ts.flatMap tkCells)) := owns_below HO3.out hb4
          clear hb4 hlo hhi HO3
          by_cases hr : q < (bd c).1 ∨ (bd c).2 < q
          · have hd : (decide (q < (bd c).1) || decide ((bd c).2 < q)) = true := by simpa using hr
            have HF4 : Hid (ckP bd cl tx = ⟨5, 0, 0, eB⟩) := by unfold Hid; rw [HF3.out, if_pos hr]
            rw [hd]
            clear hr HF3 hd
            go_wp2_with fail
            refine bodyPost_ret (results_tmp4 rfl _ _ _) rfl ?_
            rw [HF4.out]
            exact ⟨rfl, HB4.out⟩
          · have hd : (decide (q < (bd c).1) || decide ((bd c).2 < q)) = false := by simpa using hr
            have HF4 : Hid (ckP bd cl tx = ⟨0, 0, c, ⟨(ts.flatMap ptk).toArray⟩⟩) := by unfold Hid; rw [HF3.out, if_neg hr]
            rw [hd]
            clear hr HF3 hd
            go_wp2_with fail
            refine (plain_any _ _ ts (ownsRow_TL HO4.out) (by have := HL.out; omega) (fun t h => Nat.le_trans (HSm.out t h) (by omega))).mono ?_
            rintro e w5 ⟨rfl, hb5⟩
            have HB5 : Hid (Below W.heap.size W w5) := HB4.out.trans (hb5.mono HB4.out.size)
            clear hb5
            go_wp2_with fail
            refine bodyPost_ret (results_tmp4 rfl _ _ _) rfl ?_
            rw [HF4.out]
            exact ⟨rfl, HB5.out⟩
      · have he' : (e != 0) = true := by simpa using he
        have HF2 : Hid (ckP bd cl tx = ⟨e, p, 0, eB⟩) := by unfold Hid; rw [HF.out, if_pos he]
        clear he hown hb2 HZ HF HN HP2
        go_wp2_with fail
        refine bodyPost_ret (results_tmp4 rfl _ _ _) rfl ?_
        rw [HF2.out]
        exact ⟨rfl, HB2.out⟩
end
end Go.Proofs.YtlpmmmmniojflaaGreatDoor
/- The machine in memory, whole; what its small functions do to it. -/
set_option linter.unusedVariables false
set_option linter.unusedSimpArgs false
namespace Go.Proofs.YtlpmmmmniojflaaGreatDoor
open Go.RowKit
def GS (w : World) (own : Nat → Nat) (b o cg : Nat) (l : List (Nat × Nat)) : Prop := ∃ v, w.cell? ⟨b, o + 6, none⟩ = some v ∧ SlC w own b cg 315 2 v l.length (l.flatMap gC)
structure MR (w : World) (own : Nat → Nat) (b o cv cg : Nat) (m : Mc) (st : Nat) (nd : Nd) : Prop where
  blk : Blk w b o
  code : ∃ v, w.cell? ⟨b, o, none⟩ = some v ∧ SlC w own b 0 303 6 v m.code.length (m.code.flatMap insC)
  at' : w.cell? ⟨b, o + 1, none⟩ = some (.int .i64 m.at')
  st : w.cell? ⟨b, o + 2, none⟩ = some (.int .i64 st)
  nc : w.cell? ⟨b, o + 3, none⟩ = some (.int .i64 nd.c)
  na : w.cell? ⟨b, o + 4, none⟩ = some (.bool nd.a)
  vals : VS w own b o cv m.vals
  gds : GS w own b o cg m.gd
structure Cols (cv cg : Nat) : Prop where
  v : cv ≠ 0
  g : cg ≠ 0
  vg : cv ≠ cg
def mC (cv cg : Nat) (c : Nat) : Prop := c = cv ∨ c = cg
section
variable {w w' W : World} {own own' : Nat → Nat} {b o cv cg st : Nat} {m : Mc} {nd : Nd} {C : Nat → Prop} {lo hi : Nat}
theorem Blk.get (h : Blk w b o) : ∃ cs t, w.heap[b]? = some (.cells cs t (0, 0)) := by obtain ⟨cs, t, h, _⟩ := h; exact ⟨cs, t, h⟩
theorem VS.chg {l : List V} (h : VS w own b o cv l) (hB : Blk w b o) (g : Chg own C b lo hi w w') (hr : o + 5 < lo ∨ hi ≤ o + 5) (hc : ¬ C cv) (ho : ∀ k, k < w.heap.size → own' k = own k) : VS w' own' b o cv l := by
  obtain ⟨v, h1, h2⟩ := h
  obtain ⟨cs, t, hb⟩ := hB.get
  have h3 := h2.own ho
  have := h2.chg g hc
  exact ⟨v, by rw [g.cell hb (by omega)]; exact h1, this.sl, h3.col⟩
theorem GS.chg {l : List (Nat × Nat)} (h : GS w own b o cg l) (hB : Blk w b o) (g : Chg own C b lo hi w w') (hr : o + 6 < lo ∨ hi ≤ o + 6) (hc : ¬ C cg) (ho : ∀ k, k < w.heap.size → own' k = own k) : GS w' own' b o cg l := by
  obtain ⟨v, h1, h2⟩ := h
  obtain ⟨cs, t, hb⟩ := hB.get
  have h3 := h2.own ho
  have := h2.chg g hc
  exact ⟨v, by rw [g.cell hb (by omega)]; exact h1, this.sl, h3.col⟩
theorem MR.codeChg (h : MR w own b o cv cg m st nd) (g : Chg own C b lo hi w w') (hr : o < lo ∨ hi ≤ o) (hc : ¬ C 0) (ho : ∀ k, k < w.heap.size → own' k = own k) : ∃ v, w'.cell? ⟨b, o, none⟩ = some v ∧ SlC w' own' b 0 303 6 v m.code.length (m.code.flatMap insC) := by
  obtain ⟨v, h1, h2⟩ := h.code
  obtain ⟨cs, t, hb⟩ := h.blk.get
  have h3 := h2.own ho
  have := h2.chg g hc
  exact ⟨v, by rw [g.cell hb (by omega)]; exact h1, this.sl, h3.col⟩
theorem MR.far (h : MR w own b o cv cg m st nd) (g : Chg own C b lo hi w w') (hr : o + 7 ≤ lo ∨ hi ≤ o) (h0 : ¬ C 0) (hv : ¬ C cv) (hg : ¬ C cg) (ho : ∀ k, k < w.heap.size → own' k = own k) : MR w' own' b o cv cg m st nd := by
  obtain ⟨cs, t, hb⟩ := h.blk.get
  exact { blk := h.blk.chg g, code := h.codeChg g (by omega) h0 ho, at' := by rw [g.cell hb (by omega)]; exact h.at', st := by rw [g.cell hb (by omega)]; exact h.st, nc := by rw [g.cell hb (by omega)]; exact h.nc, na := by rw [g.cell hb (by omega)]; exact h.na, vals := h.vals.chg h.blk g (by omega) hv ho, gds := h.gds.chg h.blk g (by omega) hg ho }
theorem MR.below (h : MR w own b o cv cg m st nd) (hb : Below w.heap.size w w') (ho : ∀ k, k < w.heap.size → own' k = own k) : MR w' own' b o cv cg m st nd :=
  h.far (C := fun _ => False) (lo := 0) (hi := 0) (Chg.below hb h.blk.lt) (by omega) (fun h => h) (fun h => h) (fun h => h) ho
theorem MR.setV (h : MR w own b o cv cg m st nd) (hC : Cols cv cg) (g : Chg own (fun c => c = cv) b (o + 5) (o + 6) w w') (ho : ∀ k, k < w.heap.size → own' k = own k) {l : List V} (hv : VS w' own' b o cv l) : MR w' own' b o cv cg { m with vals := l } st nd := by
  obtain ⟨cs, t, hb⟩ := h.blk.get
  exact { blk := h.blk.chg g, code := h.codeChg g (by omega) (fun e => hC.v e.symm) ho, at' := by rw [g.cell hb (by omega)]; exact h.at', st := by rw [g.cell hb (by omega)]; exact h.st, nc := by rw [g.cell hb (by omega)]; exact h.nc, na := by rw [g.cell hb (by omega)]; exact h.na, vals := hv, gds := h.gds.chg h.blk g (by omega) (fun e => hC.vg e.symm) ho }
theorem MR.setG (h : MR w own b o cv cg m st nd) (hC : Cols cv cg) (g : Chg own (fun c => c = cg) b (o + 6) (o + 7) w w') (ho : ∀ k, k < w.heap.size → own' k = own k) {l : List (Nat × Nat)} (hv : GS w' own' b o cg l) : MR w' own' b o cv cg { m with gd := l } st nd := by
  obtain ⟨cs, t, hb⟩ := h.blk.get
  exact { blk := h.blk.chg g, code := h.codeChg g (by omega) (fun e => hC.g e.symm) ho, at' := by rw [g.cell hb (by omega)]; exact h.at', st := by rw [g.cell hb (by omega)]; exact h.st, nc := by rw [g.cell hb (by omega)]; exact h.nc, na := by rw [g.cell hb (by omega)]; exact h.na, vals := h.vals.chg h.blk g (by omega) hC.vg ho, gds := hv }
theorem MR.setS (h : MR w own b o cv cg m st nd) (hC : Cols cv cg) (g : Chg own (fun _ => False) b (o + 1) (o + 5) w w') (ho : ∀ k, k < w.heap.size → own' k = own k) {p st' : Nat} {nd' : Nd} (h1 : w'.cell? ⟨b, o + 1, none⟩ = some (.int .i64 p)) (h2 : w'.cell? ⟨b, o + 2, none⟩ = some (.int .i64 st')) (h3 : w'.cell? ⟨b, o + 3, none⟩ = some (.int .i64 nd'.c)) (h4 : w'.cell? ⟨b, o + 4, none⟩ = some (.bool nd'.a)) : MR w' own' b o cv cg { m with at' := p } st' nd' := by
  exact { blk := h.blk.chg g, code := h.codeChg g (by omega) (fun h => h) ho, at' := h1, st := h2, nc := h3, na := h4, vals := h.vals.chg h.blk g (by omega) (fun h => h) ho, gds := h.gds.chg h.blk g (by omega) (fun h => h) ho }
def MStep (w : World) (own : Nat → Nat) (b o cv cg : Nat) (w' : World) (m : Mc) (st : Nat) (nd : Nd) : Prop := ∃ own', (∀ k, k < w.heap.size → own' k = own k) ∧ MR w' own' b o cv cg m st nd ∧ Chg own (mC cv cg) b o (o + 7) w w'
theorem MStep.trans {w1 w2 : World} {m1 m2 : Mc} {s1 s2 : Nat} {n1 n2 : Nd} (h : MStep w own b o cv cg w1 m1 s1 n1) (g : ∀ own1, MR w1 own1 b o cv cg m1 s1 n1 → MStep w1 own1 b o cv cg w2 m2 s2 n2) : MStep w own b o cv cg w2 m2 s2 n2 := by
  obtain ⟨o1, e1, m1, c1⟩ := h
  obtain ⟨o2, e2, m2, c2⟩ := g o1 m1
  exact ⟨o2, fun k hk => (e2 k (Nat.lt_of_lt_of_le hk c1.size)).trans (e1 k hk), m2, c1.trans c2 e1⟩
theorem MStep.comp {w2 w3 : World} {own2 : Nat → Nat} {m1 : Mc} {s1 : Nat} {n1 : Nd} (e2 : ∀ k, k < w.heap.size → own2 k = own k) (g2 : Chg own (mC cv cg) b o (o + 7) w w2) (h : MStep w2 own2 b o cv cg w3 m1 s1 n1) : MStep w own b o cv cg w3 m1 s1 n1 := by
  obtain ⟨o3, e3, m3, c3⟩ := h
  exact ⟨o3, fun k hk => (e3 k (Nat.lt_of_lt_of_le hk g2.size)).trans (e2 k hk), m3, g2.trans c3 e2⟩
theorem MStep.below {m1 : Mc} {s1 : Nat} {n1 : Nd} (hb : b < w.heap.size) (h : Below w.heap.size w W) (g : MStep W own b o cv cg w' m1 s1 n1) : MStep w own b o cv cg w' m1 s1 n1 := by
  obtain ⟨o1, e1, m1, c1⟩ := g
  exact ⟨o1, fun k hk => e1 k (Nat.lt_of_lt_of_le hk h.size), m1, (Chg.below h hb).trans c1 (fun _ _ => rfl)⟩
theorem MStep.then {w1 w2 : World} {m1 : Mc} {s1 : Nat} {n1 : Nd} (h : MStep w own b o cv cg w1 m1 s1 n1) (g : Below w1.heap.size w1 w2) : MStep w own b o cv cg w2 m1 s1 n1 := by
  obtain ⟨o1, e1, m1, c1⟩ := h
  exact ⟨o1, e1, m1.below g (fun _ _ => rfl), c1.trans (own' := o1) (Chg.below g m1.blk.lt) e1⟩
theorem MStep.take {y : V} {l : List V} (h : MR w own b o cv cg m st nd) (hC : Cols cv cg) (hv : VS w' own b o cv l) (g : Chg own (fun _ => False) b (o + 5) (o + 6) w w') : MStep w own b o cv cg w' { m with vals := l } st nd :=
  ⟨own, fun _ _ => rfl, h.setV hC (g.mono (fun _ h => h.elim) (Nat.le_refl _) (Nat.le_refl _)) (fun _ _ => rfl) hv, g.mono (fun _ h => h.elim) (by omega) (by omega)⟩
theorem MStep.put' {l : List V} (h : MR w own b o cv cg m st nd) (hC : Cols cv cg) (ho : ∀ k, k < w.heap.size → own' k = own k) (hv : VS w' own' b o cv l) (g : Chg own (fun c => c = cv) b (o + 5) (o + 6) w w') : MStep w own b o cv cg w' { m with vals := l } st nd :=
  ⟨own', ho, h.setV hC g ho hv, g.mono (fun _ h => .inl h) (by omega) (by omega)⟩
theorem MStep.state (h : MR w own b o cv cg m st nd) (hC : Cols cv cg) (g : Chg own (fun _ => False) b (o + 1) (o + 5) w w') {p st' : Nat} {nd' : Nd} (h1 : w'.cell? ⟨b, o + 1, none⟩ = some (.int .i64 p)) (h2 : w'.cell? ⟨b, o + 2, none⟩ = some (.int .i64 st')) (h3 : w'.cell? ⟨b, o + 3, none⟩ = some (.int .i64 nd'.c)) (h4 : w'.cell? ⟨b, o + 4, none⟩ = some (.bool nd'.a)) : MStep w own b o cv cg w' { m with at' := p } st' nd' :=
  ⟨own, fun _ _ => rfl, h.setS hC g (fun _ _ => rfl) h1 h2 h3 h4, g.mono (fun _ h => h.elim) (by omega) (by omega)⟩
theorem Blk.set (h : Blk w b o) (j : Nat) (v : Value) : Blk (w.setCell ⟨b, j, none⟩ v) b o := by
  obtain ⟨cs, t, h1, h2⟩ := h
  exact ⟨_, t, rset h1, by rw [Array.size_setIfInBounds]; exact h2⟩
theorem Blk.al (h : Blk w b o) (z : Obj) : Blk (w.alloc z) b o := by
  obtain ⟨cs, t, h1, h2⟩ := h
  exact ⟨cs, t, rold h1 _, h2⟩
theorem Blk.drew (h : Blk w b o) : Blk w.drew b o := h
theorem Blk.cset (h : Blk w b o) {j : Nat} (hj : j < o + 7) (v : Value) : (w.setCell ⟨b, j, none⟩ v).cell? ⟨b, j, none⟩ = some v := by
  obtain ⟨cs, t, h1, h2⟩ := h
  rw [cell_of_row _ b j _ t (0, 0) (rset h1), Array.getElem?_setIfInBounds_self_of_lt (by omega)]
theorem Blk.coff (h : Blk w b o) {i j : Nat} (hj : i ≠ j) (v : Value) : (w.setCell ⟨b, j, none⟩ v).cell? ⟨b, i, none⟩ = w.cell? ⟨b, i, none⟩ := by
  obtain ⟨cs, t, h1, h2⟩ := h
  rw [cell_of_row _ b i _ t (0, 0) (rset h1), cell_of_row _ b i _ t (0, 0) h1, Array.getElem?_setIfInBounds_ne (fun e => hj e.symm)]
def ext (own : Nat → Nat) (n : Nat) : Nat → Nat := fun k => if k < n then own k else 0
theorem ext_old {n : Nat} : ∀ k, k < n → ext own n k = own k := fun k hk => if_pos hk
theorem ext_new {n k : Nat} (h : n ≤ k) : ext own n k = 0 := if_neg (by omega)
end
set_option maxHeartbeats 1000000 in
theorem mtake (w : World) (own : Nat → Nat) (b o cv cg : Nat) (m : Mc) (st : Nat) (nd : Nd) (l : List V) (y : V) (hC : Hid (Cols cv cg)) (hM : Hid (MR w own b o cv cg m st nd)) (hl : m.vals = l ++ [y]) :
    Calls Tryz.prog 223 #[.pointer (some ⟨b, o, none⟩)] w fun e w' => e = .returned (vV y) ∧ Hid (MStep w own b o cv cg w' { m with vals := l } st nd) :=
  (take_w w own b o cv l y hM.out.blk (by have := hM.out.vals; rw [hl] at this; exact this)).mono fun e w' ⟨h1, h2, h3⟩ => ⟨h1, MStep.take (y := y) hM.out hC.out h2.out h3.out⟩
theorem mput (w : World) (own : Nat → Nat) (b o cv cg : Nat) (m : Mc) (st : Nat) (nd : Nd) (y : V) (hC : Hid (Cols cv cg)) (hM : Hid (MR w own b o cv cg m st nd)) (hl : m.vals.length ≤ 100000) :
    Calls Tryz.prog 205 #[.pointer (some ⟨b, o, none⟩), vV y] w fun e w' => e = .returned (.tuple #[]) ∧ Hid (MStep w own b o cv cg w' (m.push y) st nd) :=
  (put_w w own b o cv m.vals y hM.out.blk hM.out.vals hl).mono fun e w' ⟨h1, h2⟩ => by
    obtain ⟨own', g1, g2, g3⟩ := h2.out
    exact ⟨h1, MStep.put' hM.out hC.out g1 g2 g3⟩
set_option maxHeartbeats 1000000 in
theorem mread (w : World) (own : Nat → Nat) (b o cv cg : Nat) (m : Mc) (st : Nat) (nd nd' : Nd) (hC : Hid (Cols cv cg)) (hM : Hid (MR w own b o cv cg m st nd)) :
    Calls Tryz.prog 220 #[.pointer (some ⟨b, o, none⟩), .agg #[.int .i64 nd'.c, .bool nd'.a]] w fun e w' => e = .returned (.tuple #[]) ∧ Hid (MStep w own b o cv cg w' m 1 nd') := by
  have h1 := hM.out.st
  have h2 := hM.out.nc
  have h3 := hM.out.na
  have hb := hM.out.blk.lt
  have f1 := hM.out.blk.frozen (o + 2)
  have f2 := hM.out.blk.frozen (o + 3)
  have f3 := hM.out.blk.frozen (o + 4)
  have n1 : b ≠ w.heap.size := by omega
  have n2 : w.heap.size ≠ b := by omega
  go_enter Tryz.func220, Tryz.ntmps220
  go_wp2_with fail
  refine bodyPost_end (results_none rfl _ _ _) rfl ⟨rfl, ?_⟩
  have hB := hM.out.blk
  have hB1 := hB.set (o + 3) (.int .i64 nd'.c)
  have hB2 := hB1.set (o + 3 + 1) (.bool nd'.a)
  have hg : Chg own (fun _ => False) b (o + 1) (o + 5) w ((((w.setCell ⟨b, o + 3, none⟩ (.int .i64 nd'.c)).setCell ⟨b, o + 3 + 1, none⟩ (.bool nd'.a)).setCell ⟨b, o + 2, none⟩ (.int .i64 1)).alloc (Obj.cells #[Value.int IntKind.i64 nd'.c, Value.bool nd'.a] 178)) :=
    ((((Chg.refl _ _ _ _ _ _).put (by omega) (by omega) _).put (by omega) (by omega) _).put (by omega) (by omega) _).al hb _
  exact MStep.state (p := m.at') hM.out hC.out hg
    (al (by rw [hB2.coff (by omega), hB1.coff (by omega), hB.coff (by omega)]; exact hM.out.at') _)
    (al (hB2.cset (by omega) _) _)
    (al (by rw [hB2.coff (by omega), hB1.coff (by omega)]; exact hB.cset (by omega) _) _)
    (al (by rw [hB2.coff (by omega)]; exact hB1.cset (by omega) _) _)
set_option maxHeartbeats 2000000 in
theorem mrn_type (w : World) (own : Nat → Nat) (b o cv cg : Nat) (m : Mc) (st : Nat) (nd : Nd) (l : List V) (y : V) (hC : Hid (Cols cv cg)) (hM : Hid (MR w own b o cv cg m st nd)) (hl : Hid (m.vals = l ++ [y])) (hn : Hid (m.vals.length ≤ 100000)) (h3 : y.k ≠ 3) :
    Calls Tryz.prog 221 #[.pointer (some ⟨b, o, none⟩)] w fun e w' => e = .returned (.tuple #[]) ∧ Hid (MStep w own b o cv cg w' { m with vals := l ++ [vE 4] } st nd) := by
  have hb : Hid (b < w.heap.size) := hM.out.blk.lt
  have hln : Hid (l.length ≤ 100000) := by have := hn.out; rw [hl.out] at this; simp at this; unfold Hid; omega
  have h3' : (y.k != 3) = true := by simpa using h3
  clear h3
  go_enter Tryz.func221, Tryz.ntmps221
  go_wp2_with fail
  refine (mtake _ own b o cv cg m st nd l y hC hM hl.out).mono ?_
  rintro e w1 ⟨rfl, h1⟩
  unfold vV
  go_wp2_with fail
  refine (error_w 4 _).mono ?_
  rintro e w2 ⟨rfl, hb2⟩
  have H2 : Hid (MStep w own b o cv cg w2 { m with vals := l } st nd) := h1.out.then ((bl1 _ _).trans (hb2.mono (by simp)))
  clear hb2
  go_wp2_with fail
  obtain ⟨own2, e2, M2, g2⟩ := H2.out
  have E2 : Hid _ := e2
  have G2 : Hid _ := g2
  have HM2 : Hid _ := M2
  clear e2 M2 g2
  refine (mput _ own2 b o cv cg { m with vals := l } st nd (vE 4) hC HM2 hln.out).mono ?_
  rintro e wp2 ⟨rfl, hp2⟩
  have HF : Hid (MStep w own b o cv cg wp2 { m with vals := l ++ [vE 4] } st nd) := MStep.comp E2.out G2.out hp2.out
  clear hp2
  go_wp2_with fail
  refine bodyPost_ret (results_none rfl _ _ _) rfl ?_
  exact ⟨rfl, HF⟩
set_option maxHeartbeats 2000000 in
theorem mrn_ref (w : World) (own : Nat → Nat) (b o cv cg : Nat) (m : Mc) (st : Nat) (nd : Nd) (l : List V) (y : V) (hC : Hid (Cols cv cg)) (hM : Hid (MR w own b o cv cg m st nd)) (hl : Hid (m.vals = l ++ [y])) (hn : Hid (m.vals.length ≤ 100000)) (h3 : y.k = 3) (hN : Hid (cellN y.s.data.toList = none)) :
    Calls Tryz.prog 221 #[.pointer (some ⟨b, o, none⟩)] w fun e w' => e = .returned (.tuple #[]) ∧ Hid (MStep w own b o cv cg w' { m with vals := l ++ [vE 3] } st nd) := by
  have hb : Hid (b < w.heap.size) := hM.out.blk.lt
  have hln : Hid (l.length ≤ 100000) := by have := hn.out; rw [hl.out] at this; simp at this; unfold Hid; omega
  have h3' : (y.k != 3) = false := by simpa using h3
  clear h3
  go_enter Tryz.func221, Tryz.ntmps221
  go_wp2_with fail
  refine (mtake _ own b o cv cg m st nd l y hC hM hl.out).mono ?_
  rintro e w1 ⟨rfl, h1⟩
  unfold vV
  go_wp2_with fail
  refine (num_none hN.out _).mono ?_
  rintro e w2 ⟨rfl, nq, hw2⟩
  have H2 : Hid (MStep w own b o cv cg w2 { m with vals := l } st nd) := by unfold Hid; rw [hw2]; exact h1.out.then (below_drewN (bl1 _ _) nq)
  clear hw2
  go_wp2_with fail
  refine (error_w 3 _).mono ?_
  rintro e w3 ⟨rfl, hb3⟩
  have H3 : Hid (MStep w own b o cv cg w3 { m with vals := l } st nd) := H2.out.then hb3
  clear hb3
  go_wp2_with fail
  obtain ⟨own3, e3, M3, g3⟩ := H3.out
  have E3 : Hid _ := e3
  have G3 : Hid _ := g3
  have HM3 : Hid _ := M3
  clear e3 M3 g3
  refine (mput _ own3 b o cv cg { m with vals := l } st nd (vE 3) hC HM3 hln.out).mono ?_
  rintro e wp3 ⟨rfl, hp3⟩
  have HF : Hid (MStep w own b o cv cg wp3 { m with vals := l ++ [vE 3] } st nd) := MStep.comp E3.out G3.out hp3.out
  clear hp3
  go_wp2_with fail
  refine bodyPost_ret (results_none rfl _ _ _) rfl ?_
  exact ⟨rfl, HF⟩
set_option maxHeartbeats 2000000 in
theorem mrn_ok (w : World) (own : Nat → Nat) (b o cv cg : Nat) (m : Mc) (st : Nat) (nd : Nd) (l : List V) (y : V) (hC : Hid (Cols cv cg)) (hM : Hid (MR w own b o cv cg m st nd)) (hl : Hid (m.vals = l ++ [y])) (hn : Hid (m.vals.length ≤ 100000)) (h3 : y.k = 3) (c : Nat) (hN : Hid (cellN y.s.data.toList = some c)) :
    Calls Tryz.prog 221 #[.pointer (some ⟨b, o, none⟩)] w fun e w' => e = .returned (.tuple #[]) ∧ Hid (MStep w own b o cv cg w' { m with vals := l } 1 ⟨c, false⟩) := by
  have hb : Hid (b < w.heap.size) := hM.out.blk.lt
  have hln : Hid (l.length ≤ 100000) := by have := hn.out; rw [hl.out] at this; simp at this; unfold Hid; omega
  have h3' : (y.k != 3) = false := by simpa using h3
  clear h3
  go_enter Tryz.func221, Tryz.ntmps221
  go_wp2_with fail
  refine (mtake _ own b o cv cg m st nd l y hC hM hl.out).mono ?_
  rintro e w1 ⟨rfl, h1⟩
  unfold vV
  go_wp2_with fail
  refine (num_some hN.out _).mono ?_
  rintro e w2 ⟨rfl, nq, hw2⟩
  have H2 : Hid (MStep w own b o cv cg w2 { m with vals := l } st nd) := by unfold Hid; rw [hw2]; exact h1.out.then (below_drewN (bl1 _ _) nq)
  clear hw2
  go_wp2_with fail
  obtain ⟨own2, e2, M2, g2⟩ := H2.out
  have E2 : Hid _ := e2
  have G2 : Hid _ := g2
  have HM2 : Hid _ := M2
  clear e2 M2 g2
  refine (mread _ own2 b o cv cg { m with vals := l } st nd ⟨c, false⟩ hC HM2).mono ?_
  rintro e w3 ⟨rfl, h3⟩
  have HF : Hid (MStep w own b o cv cg w3 { m with vals := l } 1 ⟨c, false⟩) := MStep.comp E2.out G2.out h3.out
  clear h3
  go_wp2_with fail
  refine bodyPost_end (results_none rfl _ _ _) rfl ?_
  exact ⟨rfl, HF⟩
end Go.Proofs.YtlpmmmmniojflaaGreatDoor
