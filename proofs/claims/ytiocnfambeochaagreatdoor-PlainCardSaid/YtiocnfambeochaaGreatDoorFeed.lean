/- The statement's own small functions: 'Feed.next', 'num', 'name', 'few', 'pick'. -/
import Derived.Test.YtiocnfambeochaaGreatDoorNum
import Derived.Test.YtiocnfambeochaaGreatDoorOdd
import Derived.Lib.AppendIntMem
namespace Go.Proofs.YtiocnfambeochaaGreatDoor
open Go.RowKit

/-- The feed lies at block fb; the bytes fd are left of it. -/
structure FD (w : World) (B fb : Nat) (fd : List UInt8) : Prop where
  blk : ∃ (raw : ByteArray) (at_ : Nat), w.heap[fb]? = some (.cells #[.string raw, .int .i64 at_] 30 (0, 0)) ∧ at_ ≤ raw.size ∧ raw.size ≤ 9223372036854775806 ∧ raw.data.toList.drop at_ = fd
  low : B ≤ fb
theorem FD.lt {w : World} {B fb : Nat} {fd : List UInt8} (h : FD w B fb fd) : fb < w.heap.size := by
  obtain ⟨_, _, h, _⟩ := h.blk
  exact lt_of_block h
theorem FD.size {w : World} {B fb : Nat} {fd : List UInt8} (h : FD w B fb fd) : B ≤ w.heap.size := Nat.le_of_lt (Nat.lt_of_le_of_lt h.low h.lt)
theorem FD.below {w w' : World} {B fb : Nat} {fd : List UInt8} (h : FD w B fb fd) (hb : Below w.heap.size w w') : FD w' B fb fd := by
  have hl := h.lt
  obtain ⟨raw, at_, h1, h2⟩ := h.blk
  exact ⟨⟨raw, at_, by rw [hb.block fb hl]; exact h1, h2⟩, h.low⟩
theorem FD.of_heap {w w' : World} {B fb : Nat} {fd : List UInt8} (h : FD w B fb fd) (e : w'.heap = w.heap) : FD w' B fb fd := by
  obtain ⟨raw, at_, h1, h2⟩ := h.blk
  exact ⟨⟨raw, at_, by rw [e]; exact h1, h2⟩, h.low⟩

theorem two_setCell {w : World} {b : Nat} {x y u : Value} {t : TypeId} (h : w.heap[b]? = some (.cells #[x, y] t (0, 0))) : (w.setCell ⟨b, 1, none⟩ u).heap[b]? = some (.cells #[x, u] t (0, 0)) := by
  have hlt := lt_of_block h
  have h' : w.heap[b] = .cells #[x, y] t (0, 0) := by simpa [Array.getElem?_eq_getElem hlt] using h
  show (w.heap.modify b _)[b]? = _
  rw [Array.getElem?_eq_getElem (by simpa using hlt), Array.getElem_modify_self, h']
  rfl

theorem gb_refl (w : World) (row : Option Nat) : w.grownBy w row := ⟨rfl, rfl, rfl, Nat.le_refl _, fun _ _ _ => rfl⟩
theorem gb_trans {a b c : World} {row : Option Nat} (h : a.grownBy b row) (k : b.grownBy c row) : a.grownBy c row :=
  ⟨k.os.trans h.os, k.tape.trans h.tape, k.output.trans h.output, Nat.le_trans h.size k.size, fun i hi hr => (k.block i (Nat.lt_of_lt_of_le hi h.size) hr).trans (h.block i hi hr)⟩
theorem gb_below {a b : World} {row : Option Nat} (h : Below a.heap.size a b) : a.grownBy b row := ⟨h.os, h.tape, h.output, h.size, fun k hk _ => h.block k hk⟩
theorem below_gb {B fb : Nat} {a w w' : World} (h : Below B a w) (hg : w.grownBy w' (some fb)) (hB : B ≤ w.heap.size) (hf : B ≤ fb) : Below B a w' := h.grown hg hB fun k hk => by cases hk; exact hf
theorem gb_drewN (w : World) (n : Nat) (row : Option Nat) : w.grownBy (w.drewN n) row := ⟨rfl, rfl, rfl, Nat.le_refl _, fun _ _ _ => rfl⟩
theorem gb_setCell (w : World) (b o : Nat) (u : Value) : w.grownBy (w.setCell ⟨b, o, none⟩ u) (some b) :=
  ⟨rfl, rfl, rfl, by simp [World.setCell], fun k _ hk => Below.heap_setCell w ⟨b, o, none⟩ u k (fun e => hk (by rw [e]))⟩

set_option maxHeartbeats 1000000 in
theorem next_any (n : Nat) (hn0 : 0 < n) (hn : n ≤ 1000) (w : World) (B fb : Nat) (fd : List UInt8) (h : Hid (FD w B fb fd)) :
    Calls Tryz.prog 17 #[.pointer (some ⟨fb, 0, none⟩), .int .i64 n] w fun e w' => e = .returned (.int .i64 (nx n fd).1) ∧ w.grownBy w' (some fb) ∧ FD w' B fb (nx n fd).2 := by
  obtain ⟨raw, at_, hbk, hat, hraw, hfd⟩ := h.out.blk
  have c0 : w.cell? ⟨fb, 0, none⟩ = some (.string raw) := by simp [World.cell?, hbk]
  have c1 : w.cell? ⟨fb, 1, none⟩ = some (.int .i64 at_) := by simp [World.cell?, hbk]
  have f1 : w.frozen? ⟨fb, 1, none⟩ = false := by simp [World.frozen?, hbk]
  have HBK : Hid _ := hbk
  have HFD : Hid _ := hfd
  clear hbk hfd
  by_cases hlt : at_ < raw.size
  · have hlti : ¬ (raw.size : Int) ≤ (at_ : Int) := by omega
    have hlt2 : (at_ : Int) < (raw.size : Int) := by omega
    have HN : Hid (nx n fd = (raw[at_].toNat % n, raw.data.toList.drop (at_ + 1))) := by
      unfold Hid; rw [← HFD.out, drop_at raw at_ hlt]; rfl
    go_enter Tryz.func17, Tryz.ntmps17
    go_wp2
    go_quiet (fail)
    go_wp2
    go_quiet (fail)
    generalize hc : wrap64 (raw[at_].toNat : Int) = cc
    have HC : Hid (cc = (raw[at_].toNat : Int)) := by
      unfold Hid; rw [← hc]; have := raw[at_].toNat_lt; unfold wrap64; omega
    have hcc0 : 0 ≤ cc := by have := HC.out; omega
    have hcc1 : cc ≤ 255 := by have := HC.out; have := raw[at_].toNat_lt; omega
    clear hc
    go_wp2
    go_ret
    rw [HN.out]
    refine ⟨ret_int ?_, ?_, ?_⟩
    · have h1 := HC.out
      rw [h1]
      simp
    · exact gb_trans (gb_drewN w _ _) (gb_setCell _ fb 1 _)
    · refine ⟨⟨raw, at_ + 1, ?_, by omega, hraw, rfl⟩, h.out.low⟩
      exact two_setCell (w := w.drewN _) HBK.out
  · have hlti : (raw.size : Int) ≤ (at_ : Int) := by omega
    have HN : Hid (nx n fd = (0, [])) := by
      unfold Hid
      rw [← HFD.out, List.drop_of_length_le (by rw [len_eq]; omega)]
      rfl
    go_enter Tryz.func17, Tryz.ntmps17
    go_wp2
    go_quiet (fail)
    go_wp2
    go_ret
    rw [HN.out]
    refine ⟨rfl, gb_drewN w _ _, ?_⟩
    exact ⟨⟨raw, at_, HBK.out, hat, hraw, by rw [List.drop_of_length_le (by rw [len_eq]; omega)]⟩, h.out.low⟩

def nmT (n : Nat) : List UInt8 := [UInt8.ofNat (65 + n % 6), UInt8.ofNat (49 + n / 6)]
theorem nm_run (n : Nat) (hn : n < 48) (w : World) :
    (convert 118 9 (.slice (some ⟨w.heap.size, 0, none⟩) 2 2)).run Tryz.prog (w.alloc (.cells #[.int .u8 (65 + (n : Int) % 6), .int .u8 (49 + (n : Int) / 6)] 5)) = .ok (.string ⟨(nmT n).toArray⟩) (w.alloc (.cells #[.int .u8 (65 + (n : Int) % 6), .int .u8 (49 + (n : Int) / 6)] 5)) := by
  refine run_convert_bytes_back (P := Tryz.prog) (w.alloc (.cells #[.int .u8 (65 + (n : Int) % 6), .int .u8 (49 + (n : Int) / 6)] 5)) 118 9 5 ⟨w.heap.size, 0, none⟩ 2 (nmT n) Tryz.underlying118 Tryz.underlying5 Tryz.underlying9 fun j hj => ?_
  have h0 : (UInt8.ofNat (65 + n % 6)).toNat = 65 + n % 6 := by rw [UInt8.toNat_ofNat']; omega
  have h1 : (UInt8.ofNat (49 + n / 6)).toNat = 49 + n / 6 := by rw [UInt8.toNat_ofNat']; omega
  match j, hj with
  | 0, _ =>
    show _ = some (Value.int .u8 ((UInt8.ofNat (65 + n % 6)).toNat : Int))
    rw [h0]
    simp [Addr.add]
  | 1, _ =>
    show _ = some (Value.int .u8 ((UInt8.ofNat (49 + n / 6)).toNat : Int))
    rw [h1]
    simp [Addr.add]
set_option maxHeartbeats 1000000 in
set_option maxRecDepth 100000 in
theorem name_any (n : Nat) (hn : n < 48) (w : World) : Calls Tryz.prog 24 #[.int .i64 n] w fun e w' => e = .returned (.string ⟨(nmT n).toArray⟩) ∧ Below w.heap.size w w' := by
  have hr := nm_run n hn w
  go_enter Tryz.func24, Tryz.ntmps24
  go_wp2_with fail
  go_ret
  exact ⟨rfl, (Below.refl _ _).alloc (Nat.le_refl _) _⟩

set_option maxHeartbeats 1000000 in
theorem few_any (w : World) (B fb : Nat) (fd : List UInt8) (h : Hid (FD w B fb fd)) :
    Calls Tryz.prog 40 #[.pointer (some ⟨fb, 0, none⟩)] w fun e w' => e = .returned (.string ⟨(nmT (nx 12 fd).1).toArray⟩) ∧ w.grownBy w' (some fb) ∧ FD w' B fb (nx 12 fd).2 := by
  have hl : Hid _ := nx_lt 12 (by omega) fd
  go_enter Tryz.func40, Tryz.ntmps40
  go_wp2_with fail
  refine (next_any 12 (by omega) (by omega) _ B fb fd h).mono ?_
  rintro e w1 ⟨rfl, hb1, hf1⟩
  have HB : Hid _ := hb1
  have HF : Hid _ := hf1
  clear hb1 hf1
  go_wp2_with fail
  refine (name_any _ (by have := hl.out; omega) _).mono ?_
  rintro e w2 ⟨rfl, hb2⟩
  go_wp2_with fail
  go_ret
  exact ⟨rfl, gb_trans HB.out (gb_below hb2), HF.out.below hb2⟩

theorem below_grow (B : Nat) (w : World) (hB : B ≤ w.heap.size) (k : Nat) (os : Array Obj) : Below B w (Go.Sort.grow (w.drewN k) os) :=
  Lib.below_grow B w hB k os
/-- What the walks ask of the library's variables. -/
def Amb (w : World) : Prop := ErrVar w ∧ Lib.TabIs Tryz.prog w "internal/strconv.uint64pow10" .u64 Lib.pow10Tab ∧ SynVar w
theorem num_any (n : Nat) (hn : n < 1000) (w : World) (hA : Amb w) : Calls Tryz.prog 23 #[.int .i64 n] w fun e w' => e = .returned (.string ⟨(Lib.decDigits n).toArray⟩) ∧ Below w.heap.size w w' := by
  have hA2 : Hid _ := hA
  go_enter Tryz.func23, Tryz.ntmps23
  go_wp2_with fail
  refine (Tryz.strconv_Itoa n (by omega) (by omega) _ hA2.out.2.1).mono ?_
  rintro e w1 ⟨rfl, k, os, rfl⟩
  go_wp2_with fail
  go_ret
  have e : Lib.itoa (n : Int) = Lib.decDigits n := by unfold Lib.itoa; rw [if_neg (by omega)]; simp
  rw [e]
  exact ⟨rfl, below_grow _ w (Nat.le_refl _) k os⟩

theorem var_keeps {w w' : World} {n : String} {cs : Array Value} (hv : w.var? Tryz.prog n = some cs) (hb : Below w.heap.size w w') : w'.var? Tryz.prog n = some cs := by
  cases hg : Tryz.prog.globalNamed n with
  | none => unfold World.var? at hv; rw [hg] at hv; simp at hv
  | some g =>
    have hlt : g < w.heap.size := by
      unfold World.var? at hv
      simp only [hg, Option.bind_some] at hv
      by_cases h1 : g < w.heap.size
      · exact h1
      · rw [Array.getElem?_eq_none (by omega)] at hv
        simp at hv
    exact var?_below hb hg hlt hv
theorem Amb.below {w w' : World} (h : Amb w) (hb : Below w.heap.size w w') : Amb w' := by
  obtain ⟨h1, h2, tp, p, h3⟩ := h
  exact ⟨h1.below hb, var_keeps h2 hb, tp, p, var_keeps h3 hb⟩
end Go.Proofs.YtiocnfambeochaaGreatDoor
