/- Texts put together. -/
import Derived.Test.YtiocnfambeochaaGreatDoorQ15
import Derived.Test.YtiocnfambeochaaGreatDoorQ11
import Derived.Lib.AppendIntMem
import Derived.Test.YtiocnfambeochaaGreatDoorQ13
import Derived.Test.YtiocnfambeochaaGreatDoorQ08
import Derived.Test.YtiocnfambeochaaGreatDoorQ10
import Derived.Test.YtiocnfambeochaaGreatDoorQ14
/- Plain mathematics: a text with its blanks struck and others put in has the same tokens. -/
namespace Go.Proofs.YtiocnfambeochaaGreatDoor

def nq (c : Int) : Bool := decide (c ≠ 34)
def isBr (c : UInt8) : Bool := c == 40 || c == 41 || c == 44 || c == 43

/-- The statement's own way: texts stay, blanks go, behind some signs two blanks come in, as the raw bytes say. -/
def oddF : Nat → List UInt8 → List UInt8 → List UInt8 × List UInt8
  | 0, _, fd => ([], fd)
  | _ + 1, [], fd => ([], fd)
  | n + 1, c :: r, fd =>
    if c = 34 then (34 :: (r.take (spn nq r + 1) ++ (oddF n (r.drop (spn nq r + 1)) fd).1), (oddF n (r.drop (spn nq r + 1)) fd).2)
    else if isBr c = true then (c :: ((if (nx 3 fd).1 = 1 then [32, 32] else []) ++ (oddF n r (nx 3 fd).2).1), (oddF n r (nx 3 fd).2).2)
    else if c = 32 then oddF n r fd
    else (c :: (oddF n r fd).1, (oddF n r fd).2)

/-- The text of a token: a text, one sign, or letters and digits. -/
def OX (x : List UInt8) : Prop := (∃ r, x = 34 :: (r ++ [34]) ∧ ∀ a ∈ r, nq (a.toNat : Int) = true) ∨ (∃ c, x = [c] ∧ c ≠ 34 ∧ c ≠ 32) ∨ (∀ c ∈ x, ldB (c.toNat : Int) = true)

theorem spn_full (p : Int → Bool) (l : List UInt8) (h : spn p l = l.length) : ∀ c ∈ l, p (c.toNat : Int) = true := by
  have := spn_take p l
  rw [h, List.take_length] at this
  exact this
theorem dg_ld {c : Int} (h : dgB c = true) : ldB c = true := by unfold ldB; rw [h]; simp

theorem ox_of_to {k : Int} {x : List UInt8} (h : TO k x) : OX x := by
  obtain ⟨c, r, hc, h32⟩ := h.head
  have ht := h.tok [] (fun _ => rfl)
  have hk := h.k0
  rw [List.append_nil] at ht
  subst hc
  rw [tok1_cons] at ht
  by_cases hd : dgB (c.toNat : Int) = true
  · rw [if_pos hd] at ht
    refine Or.inr (Or.inr fun a ha => ?_)
    have hs : spn dgB (c :: r) = (c :: r).length := by
      unfold numI at ht
      split at ht
      · simp only [Prod.mk.injEq] at ht; exact absurd ht.1.symm hk
      · split at ht
        · simp only [Prod.mk.injEq] at ht; exact absurd ht.1.symm hk
        · simp only [Prod.mk.injEq] at ht; exact ht.2
    exact dg_ld (spn_full dgB _ hs a ha)
  rw [if_neg hd] at ht
  by_cases hl : ltB (c.toNat : Int) = true
  · rw [if_pos hl] at ht
    refine Or.inr (Or.inr fun a ha => ?_)
    have hs : spn ldB (c :: r) = (c :: r).length := by
      unfold wdI at ht
      split at ht
      · simp only [Prod.mk.injEq] at ht; exact absurd ht.1.symm hk
      · simp only [Prod.mk.injEq] at ht; exact ht.2
    exact spn_full ldB _ hs a ha
  rw [if_neg hl] at ht
  by_cases hq : c = 34
  · rw [if_pos hq] at ht
    subst hq
    refine Or.inl ?_
    unfold qtT qtI at ht
    rw [List.drop_succ_cons, List.drop_zero] at ht
    split at ht
    · rename_i hh
      simp only [Prod.mk.injEq, List.length_cons] at ht
      have hlen : r.length = spn pbB r + 1 := by omega
      have hr : r = r.take (spn pbB r) ++ [34] := by
        conv => lhs; rw [← List.take_append_drop (spn pbB r) r]
        congr 1
        rw [List.drop_eq_getElem_cons (by omega), List.drop_of_length_le (by omega)]
        have := hh.1
        rw [List.getElem?_eq_getElem (by omega), Option.some.injEq] at this
        rw [this]
      refine ⟨r.take (spn pbB r), by rw [← hr], fun a ha => ?_⟩
      have := spn_take pbB r a ha
      unfold pbB at this
      unfold nq
      simp only [decide_eq_true_eq] at this ⊢
      exact this.2.2
    · simp only [Prod.mk.injEq] at ht; exact absurd ht.1.symm hk
  rw [if_neg hq] at ht
  simp only [Prod.mk.injEq, List.length_cons] at ht
  have : r = [] := List.length_eq_zero_iff.1 (by omega)
  subst this
  exact Or.inr (Or.inl ⟨c, rfl, hq, h32⟩)

theorem ld_plain {c : UInt8} (h : ldB (c.toNat : Int) = true) : c ≠ 34 ∧ isBr c = false ∧ c ≠ 32 := by
  refine ⟨fun e => ?_, ?_, fun e => ?_⟩
  · rw [e] at h; revert h; decide
  · unfold isBr
    have : ∀ a : UInt8, ldB (a.toNat : Int) = false → (c == a) = false := fun a ha => by
      rw [beq_eq_false_iff_ne]; intro e; rw [e] at h; rw [ha] at h; cases h
    rw [this 40 (by decide), this 41 (by decide), this 44 (by decide), this 43 (by decide)]; rfl
  · rw [e] at h; revert h; decide

theorem odd_ld : ∀ (x rest fd : List UInt8) (n : Nat), (∀ c ∈ x, ldB (c.toNat : Int) = true) → (x ++ rest).length ≤ n → ∃ m, rest.length ≤ m ∧ oddF n (x ++ rest) fd = (x ++ (oddF m rest fd).1, (oddF m rest fd).2)
  | [], rest, fd, n, _, hn => ⟨n, hn, rfl⟩
  | c :: r, rest, fd, n, h, hn => by
    simp only [List.cons_append, List.length_cons] at hn
    obtain ⟨k, rfl⟩ : ∃ k, n = k + 1 := ⟨n - 1, by omega⟩
    obtain ⟨m, hm, e⟩ := odd_ld r rest fd k (fun a ha => h a (List.mem_cons_of_mem _ ha)) (by omega)
    obtain ⟨h1, h2, h3⟩ := ld_plain (h c List.mem_cons_self)
    refine ⟨m, hm, ?_⟩
    rw [List.cons_append, oddF, if_neg h1, h2, if_neg (by simp), if_neg h3, e]
    rfl

theorem odd_tok (x rest fd : List UInt8) (n : Nat) (h : OX x) (hn : (x ++ rest).length ≤ n) : ∃ m b fd', rest.length ≤ m ∧ oddF n (x ++ rest) fd = (x ++ (List.replicate b 32 ++ (oddF m rest fd').1), (oddF m rest fd').2) := by
  rcases h with ⟨r, rfl, hr⟩ | ⟨c, rfl, h34, h32⟩ | h
  · have e0 : 34 :: (r ++ [34]) ++ rest = 34 :: (r ++ 34 :: rest) := by simp
    rw [e0] at hn ⊢
    simp only [List.length_cons, List.length_append] at hn
    obtain ⟨k, rfl⟩ : ∃ k, n = k + 1 := ⟨n - 1, by omega⟩
    have hsp : spn nq (r ++ 34 :: rest) = r.length := spn_all nq r (34 :: rest) hr (show nq _ = false by decide)
    refine ⟨k, 0, fd, by omega, ?_⟩
    have e1 : (r ++ 34 :: rest).take (r.length + 1) = r ++ [34] := by
      rw [List.take_append, List.take_of_length_le (by omega)]; simp
    have e2 : (r ++ 34 :: rest).drop (r.length + 1) = rest := by
      rw [List.drop_append, List.drop_of_length_le (by omega)]; simp
    rw [oddF, if_pos rfl, hsp, e1, e2]
    simp
  · simp only [List.singleton_append, List.length_cons] at hn
    obtain ⟨k, rfl⟩ : ∃ k, n = k + 1 := ⟨n - 1, by omega⟩
    rw [List.singleton_append, oddF, if_neg h34]
    by_cases hb : isBr c = true
    · rw [if_pos hb]
      by_cases hx : (nx 3 fd).1 = 1
      · rw [if_pos hx]; exact ⟨k, 2, (nx 3 fd).2, by omega, rfl⟩
      · rw [if_neg hx]; exact ⟨k, 0, (nx 3 fd).2, by omega, rfl⟩
    · rw [if_neg hb, if_neg h32]; exact ⟨k, 0, fd, by omega, rfl⟩
  · obtain ⟨m, hm, e⟩ := odd_ld x rest fd n h hn
    exact ⟨m, 0, fd, hm, by rw [e]; simp⟩

theorem odd_blanks : ∀ (a : Nat) (rest fd : List UInt8) (n : Nat), (List.replicate a 32 ++ rest).length ≤ n → ∃ m, rest.length ≤ m ∧ oddF n (List.replicate a 32 ++ rest) fd = oddF m rest fd
  | 0, rest, fd, n, hn => ⟨n, by simpa using hn, rfl⟩
  | a + 1, rest, fd, n, hn => by
    simp only [List.replicate_succ, List.cons_append, List.length_cons] at hn
    obtain ⟨k, rfl⟩ : ∃ k, n = k + 1 := ⟨n - 1, by omega⟩
    obtain ⟨m, hm, e⟩ := odd_blanks a rest fd k (by omega)
    refine ⟨m, hm, ?_⟩
    rw [List.replicate_succ, List.cons_append, oddF, if_neg (by decide), if_neg (by decide), if_pos rfl, e]

theorem odd_spell : ∀ (g : List Tk) (fd : List UInt8) (n : Nat), Good g → (g.flatMap ptk).length ≤ n → ∃ bl : List (Tk × Nat), bl.map (·.1) = g ∧ (oddF n (g.flatMap ptk) fd).1 = spell bl
  | [], fd, n, _, _ => ⟨[], rfl, by cases n <;> rfl⟩
  | t :: r, fd, n, h, hn => by
    obtain ⟨h1, h2, _, h4⟩ := h
    obtain ⟨a, b, _, e⟩ := ptk_parts t h2
    have e1 : (t :: r).flatMap ptk = List.replicate a 32 ++ (t.x ++ (List.replicate b 32 ++ r.flatMap ptk)) := by rw [List.flatMap_cons, e]; simp
    rw [e1] at hn ⊢
    obtain ⟨m1, hm1, e2⟩ := odd_blanks a _ fd n hn
    obtain ⟨m2, c, fd2, hm2, e3⟩ := odd_tok t.x _ fd m1 (ox_of_to h1) hm1
    obtain ⟨m3, hm3, e4⟩ := odd_blanks b _ fd2 m2 hm2
    obtain ⟨bl, e5, e6⟩ := odd_spell r fd2 m3 h4 hm3
    refine ⟨(t, c) :: bl, by simp [e5], ?_⟩
    rw [e2, e3, e4]
    simp only [spell]
    rw [e6]

/-- What the statement says of the pure side: the formula has its plain form, which is its own, with blanks more or less too. -/
theorem made_plain (deep : Nat) (hd : deep ≤ 8) (fd : List UInt8) (hl : ((gen deep fd).1.flatMap ptk).length ≤ 120) :
    (rd ((gen deep fd).1.flatMap ptk)).e = 0 ∧ (rd ((gen deep fd).1.flatMap ptk)).p = 0 ∧ plT ((gen deep fd).1.flatMap ptk) = (gen deep fd).1.flatMap ptk := by
  have h := (gen_fg deep fd).1
  exact plain_made _ _ (sc_plain _ h.good) (h.is.more hd) (ck_end h.ck) hl
theorem made_odd (deep : Nat) (hd : deep ≤ 8) (fd fd2 : List UInt8) (n : Nat) (hn : ((gen deep fd).1.flatMap ptk).length ≤ n) (hl : (32 :: (oddF n ((gen deep fd).1.flatMap ptk) fd2).1).length ≤ 120) :
    (rd (32 :: (oddF n ((gen deep fd).1.flatMap ptk) fd2).1)).e = 0 ∧ (rd (32 :: (oddF n ((gen deep fd).1.flatMap ptk) fd2).1)).p = 0 ∧ plT (32 :: (oddF n ((gen deep fd).1.flatMap ptk) fd2).1) = (gen deep fd).1.flatMap ptk := by
  have h := (gen_fg deep fd).1
  obtain ⟨bl, e1, e2⟩ := odd_spell _ fd2 n h.good hn
  have hsc : SC (32 :: (oddF n ((gen deep fd).1.flatMap ptk) fd2).1) (kxs (gen deep fd).1) := by
    rw [e2]
    have := sc_spell bl (by rw [e1]; exact h.good)
    rw [e1] at this
    exact sc_blank this
  exact plain_made _ _ hsc (h.is.more hd) (ck_end h.ck) hl
end Go.Proofs.YtiocnfambeochaaGreatDoor

/- The statement's own small functions: 'Feed.next', 'num', 'name', 'few', 'pick'. -/
namespace Go.Proofs.YtiocnfambeochaaGreatDoor
open Go.RowKit

/-- The feed lies at block fb; the bytes fd are left of it. -/
structure FD (w : World) (B fb : Nat) (fd : List UInt8) : Prop where
  blk : ∃ (raw : ByteArray) (at_ : Nat), w.heap[fb]? = some (.cells #[.string raw, .int .i64 at_] 30 (0, 0)) ∧ at_ ≤ raw.size ∧ raw.size ≤ 9223372036854775806 ∧ raw.data.toList.drop at_ = fd
  low : B ≤ fb
theorem FD.lt {w : World} {B fb : Nat} {fd : List UInt8} (h : FD w B fb fd) : fb < w.heap.size := by
  obtain ⟨_, _, h, _⟩ := h.blk
  exact lt_of_block h
theorem FD.size {w : World} {B fb : Nat} {fd : List UInt8} (h : FD w B fb fd) : B ≤ w.heap.size := Nat.le_of_lt (Nat.lt_of_le_of_lt h.low h.lt)
theorem FD.below {w w' : World} {B fb : Nat} {fd : List UInt8} (h : FD w B fb fd) (hb : Below w.heap.size w w') : FD w' B fb fd := by
  have hl := h.lt
  obtain ⟨raw, at_, h1, h2⟩ := h.blk
  exact ⟨⟨raw, at_, by rw [hb.block fb hl]; exact h1, h2⟩, h.low⟩
theorem FD.of_heap {w w' : World} {B fb : Nat} {fd : List UInt8} (h : FD w B fb fd) (e : w'.heap = w.heap) : FD w' B fb fd := by
  obtain ⟨raw, at_, h1, h2⟩ := h.blk
  exact ⟨⟨raw, at_, by rw [e]; exact h1, h2⟩, h.low⟩

theorem two_setCell {w : World} {b : Nat} {x y u : Value} {t : TypeId} (h : w.heap[b]? = some (.cells #[x, y] t (0, 0))) : (w.setCell ⟨b, 1, none⟩ u).heap[b]? = some (.cells #[x, u] t (0, 0)) := by
  have hlt := lt_of_block h
  have h' : w.heap[b] = .cells #[x, y] t (0, 0) := by simpa [Array.getElem?_eq_getElem hlt] using h
  show (w.heap.modify b _)[b]? = _
  rw [Array.getElem?_eq_getElem (by simpa using hlt), Array.getElem_modify_self, h']
  rfl

theorem gb_refl (w : World) (row : Option Nat) : w.grownBy w row := ⟨rfl, rfl, rfl, Nat.le_refl _, fun _ _ _ => rfl⟩
theorem gb_trans {a b c : World} {row : Option Nat} (h : a.grownBy b row) (k : b.grownBy c row) : a.grownBy c row :=
  ⟨k.os.trans h.os, k.tape.trans h.tape, k.output.trans h.output, Nat.le_trans h.size k.size, fun i hi hr => (k.block i (Nat.lt_of_lt_of_le hi h.size) hr).trans (h.block i hi hr)⟩
theorem gb_below {a b : World} {row : Option Nat} (h : Below a.heap.size a b) : a.grownBy b row := ⟨h.os, h.tape, h.output, h.size, fun k hk _ => h.block k hk⟩
theorem below_gb {B fb : Nat} {a w w' : World} (h : Below B a w) (hg : w.grownBy w' (some fb)) (hB : B ≤ w.heap.size) (hf : B ≤ fb) : Below B a w' := h.grown hg hB fun k hk => by cases hk; exact hf
theorem gb_drewN (w : World) (n : Nat) (row : Option Nat) : w.grownBy (w.drewN n) row := ⟨rfl, rfl, rfl, Nat.le_refl _, fun _ _ _ => rfl⟩
theorem gb_setCell (w : World) (b o : Nat) (u : Value) : w.grownBy (w.setCell ⟨b, o, none⟩ u) (some b) :=
  ⟨rfl, rfl, rfl, by simp [World.setCell], fun k _ hk => Below.heap_setCell w ⟨b, o, none⟩ u k (fun e => hk (by rw [e]))⟩

set_option maxHeartbeats 1000000 in
theorem next_any (n : Nat) (hn0 : 0 < n) (hn : n ≤ 1000) (w : World) (B fb : Nat) (fd : List UInt8) (h : Hid (FD w B fb fd)) :
    Calls Tryz.prog 17 #[.pointer (some ⟨fb, 0, none⟩), .int .i64 n] w fun e w' => e = .returned (.int .i64 (nx n fd).1) ∧ w.grownBy w' (some fb) ∧ FD w' B fb (nx n fd).2 := by
  obtain ⟨raw, at_, hbk, hat, hraw, hfd⟩ := h.out.blk
  have c0 : w.cell? ⟨fb, 0, none⟩ = some (.string raw) := by simp [World.cell?, hbk]
  have c1 : w.cell? ⟨fb, 1, none⟩ = some (.int .i64 at_) := by simp [World.cell?, hbk]
  have f1 : w.frozen? ⟨fb, 1, none⟩ = false := by simp [World.frozen?, hbk]
  have HBK : Hid _ := hbk
  have HFD : Hid _ := hfd
  clear hbk hfd
  by_cases hlt : at_ < raw.size
  · have hlti : ¬ (raw.size : Int) ≤ (at_ : Int) := by omega
    have hlt2 : (at_ : Int) < (raw.size : Int) := by omega
    have HN : Hid (nx n fd = (raw[at_].toNat % n, raw.data.toList.drop (at_ + 1))) := by
      unfold Hid; rw [← HFD.out, drop_at raw at_ hlt]; rfl
    go_enter Tryz.func17, Tryz.ntmps17
    go_wp2
    go_quiet (fail)
    go_wp2
    go_quiet (fail)
    generalize hc : wrap64 (raw[at_].toNat : Int) = cc
    have HC : Hid (cc = (raw[at_].toNat : Int)) := by
      unfold Hid; rw [← hc]; have := raw[at_].toNat_lt; unfold wrap64; omega
    have hcc0 : 0 ≤ cc := by have := HC.out; omega
    have hcc1 : cc ≤ 255 := by have := HC.out; have := raw[at_].toNat_lt; omega
    clear hc
    go_wp2
    go_ret
    rw [HN.out]
    refine ⟨ret_int ?_, ?_, ?_⟩
    · have h1 := HC.out
      rw [h1]
      simp
    · exact gb_trans (gb_drewN w _ _) (gb_setCell _ fb 1 _)
    · refine ⟨⟨raw, at_ + 1, ?_, by omega, hraw, rfl⟩, h.out.low⟩
      exact two_setCell (w := w.drewN _) HBK.out
  · have hlti : (raw.size : Int) ≤ (at_ : Int) := by omega
    have HN : Hid (nx n fd = (0, [])) := by
      unfold Hid
      rw [← HFD.out, List.drop_of_length_le (by rw [len_eq]; omega)]
      rfl
    go_enter Tryz.func17, Tryz.ntmps17
    go_wp2
    go_quiet (fail)
    go_wp2
    go_ret
    rw [HN.out]
    refine ⟨rfl, gb_drewN w _ _, ?_⟩
    exact ⟨⟨raw, at_, HBK.out, hat, hraw, by rw [List.drop_of_length_le (by rw [len_eq]; omega)]⟩, h.out.low⟩

def nmT (n : Nat) : List UInt8 := [UInt8.ofNat (65 + n % 6), UInt8.ofNat (49 + n / 6)]
theorem nm_run (n : Nat) (hn : n < 48) (w : World) :
    (convert 118 9 (.slice (some ⟨w.heap.size, 0, none⟩) 2 2)).run Tryz.prog (w.alloc (.cells #[.int .u8 (65 + (n : Int) % 6), .int .u8 (49 + (n : Int) / 6)] 5)) = .ok (.string ⟨(nmT n).toArray⟩) (w.alloc (.cells #[.int .u8 (65 + (n : Int) % 6), .int .u8 (49 + (n : Int) / 6)] 5)) := by
  refine run_convert_bytes_back (P := Tryz.prog) (w.alloc (.cells #[.int .u8 (65 + (n : Int) % 6), .int .u8 (49 + (n : Int) / 6)] 5)) 118 9 5 ⟨w.heap.size, 0, none⟩ 2 (nmT n) Tryz.underlying118 Tryz.underlying5 Tryz.underlying9 fun j hj => ?_
  have h0 : (UInt8.ofNat (65 + n % 6)).toNat = 65 + n % 6 := by rw [UInt8.toNat_ofNat']; omega
  have h1 : (UInt8.ofNat (49 + n / 6)).toNat = 49 + n / 6 := by rw [UInt8.toNat_ofNat']; omega
  match j, hj with
  | 0, _ =>
    show _ = some (Value.int .u8 ((UInt8.ofNat (65 + n % 6)).toNat : Int))
    rw [h0]
    simp [Addr.add]
  | 1, _ =>
    show _ = some (Value.int .u8 ((UInt8.ofNat (49 + n / 6)).toNat : Int))
    rw [h1]
    simp [Addr.add]
set_option maxHeartbeats 1000000 in
set_option maxRecDepth 100000 in
theorem name_any (n : Nat) (hn : n < 48) (w : World) : Calls Tryz.prog 24 #[.int .i64 n] w fun e w' => e = .returned (.string ⟨(nmT n).toArray⟩) ∧ Below w.heap.size w w' := by
  have hr := nm_run n hn w
  go_enter Tryz.func24, Tryz.ntmps24
  go_wp2_with fail
  go_ret
  exact ⟨rfl, (Below.refl _ _).alloc (Nat.le_refl _) _⟩

set_option maxHeartbeats 1000000 in
theorem few_any (w : World) (B fb : Nat) (fd : List UInt8) (h : Hid (FD w B fb fd)) :
    Calls Tryz.prog 40 #[.pointer (some ⟨fb, 0, none⟩)] w fun e w' => e = .returned (.string ⟨(nmT (nx 12 fd).1).toArray⟩) ∧ w.grownBy w' (some fb) ∧ FD w' B fb (nx 12 fd).2 := by
  have hl : Hid _ := nx_lt 12 (by omega) fd
  go_enter Tryz.func40, Tryz.ntmps40
  go_wp2_with fail
  refine (next_any 12 (by omega) (by omega) _ B fb fd h).mono ?_
  rintro e w1 ⟨rfl, hb1, hf1⟩
  have HB : Hid _ := hb1
  have HF : Hid _ := hf1
  clear hb1 hf1
  go_wp2_with fail
  refine (name_any _ (by have := hl.out; omega) _).mono ?_
  rintro e w2 ⟨rfl, hb2⟩
  go_wp2_with fail
  go_ret
  exact ⟨rfl, gb_trans HB.out (gb_below hb2), HF.out.below hb2⟩

theorem below_grow (B : Nat) (w : World) (hB : B ≤ w.heap.size) (k : Nat) (os : Array Obj) : Below B w (Go.Sort.grow (w.drewN k) os) :=
  Lib.below_grow B w hB k os
/-- What the walks ask of the library's variables. -/
def Amb (w : World) : Prop := ErrVar w ∧ Lib.TabIs Tryz.prog w "internal/strconv.uint64pow10" .u64 Lib.pow10Tab ∧ SynVar w
theorem num_any (n : Nat) (hn : n < 1000) (w : World) (hA : Amb w) : Calls Tryz.prog 23 #[.int .i64 n] w fun e w' => e = .returned (.string ⟨(Lib.decDigits n).toArray⟩) ∧ Below w.heap.size w w' := by
  have hA2 : Hid _ := hA
  go_enter Tryz.func23, Tryz.ntmps23
  go_wp2_with fail
  refine (Tryz.strconv_Itoa n (by omega) (by omega) _ hA2.out.2.1).mono ?_
  rintro e w1 ⟨rfl, k, os, rfl⟩
  go_wp2_with fail
  go_ret
  have e : Lib.itoa (n : Int) = Lib.decDigits n := by unfold Lib.itoa; rw [if_neg (by omega)]; simp
  rw [e]
  exact ⟨rfl, below_grow _ w (Nat.le_refl _) k os⟩

theorem var_keeps {w w' : World} {n : String} {cs : Array Value} (hv : w.var? Tryz.prog n = some cs) (hb : Below w.heap.size w w') : w'.var? Tryz.prog n = some cs := by
  cases hg : Tryz.prog.globalNamed n with
  | none => unfold World.var? at hv; rw [hg] at hv; simp at hv
  | some g =>
    have hlt : g < w.heap.size := by
      unfold World.var? at hv
      simp only [hg, Option.bind_some] at hv
      by_cases h1 : g < w.heap.size
      · exact h1
      · rw [Array.getElem?_eq_none (by omega)] at hv
        simp at hv
    exact var?_below hb hg hlt hv
theorem Amb.below {w w' : World} (h : Amb w) (hb : Below w.heap.size w w') : Amb w' := by
  obtain ⟨h1, h2, tp, p, h3⟩ := h
  exact ⟨h1.below hb, var_keeps h2 hb, tp, p, var_keeps h3 hb⟩
end Go.Proofs.YtiocnfambeochaaGreatDoor

/- The sheet's own 'check', of any edit; Formula. -/
set_option linter.unusedVariables false
set_option linter.unusedSimpArgs false
namespace Go.Proofs.YtiocnfambeochaaGreatDoor
open Go.RowKit

theorem results_tmp4 {fn : Func} {t u v z : Tmp} (h : fn.results = #[.tmp t, .tmp u, .tmp v, .tmp z]) (tmps : Array Value) (P : Program) (w : World) :
    (results fn tmps).run P w = .ok (.tuple #[tmps.getD t undef, tmps.getD u undef, tmps.getD v undef, tmps.getD z undef]) w := by
  simp [results, h]
/-- What comes of an edit: its error, its place; or the cell and its text. -/
structure Ck where
  e : Int
  p : Nat
  c : Nat
  t : ByteArray
def ckN (bd : Nat → Int × Int) (c : Nat) (tx : ByteArray) : Ck :=
  match numT (rd tx.data.toList).ts with
  | some n => if n < (bd c).1 ∨ (bd c).2 < n then ⟨5, 0, 0, eB⟩ else ⟨0, 0, c, ⟨(plT tx.data.toList).toArray⟩⟩
  | none => ⟨0, 0, c, ⟨(plT tx.data.toList).toArray⟩⟩
def ckP (bd : Nat → Int × Int) (cl tx : ByteArray) : Ck :=
  match cellN cl.data.toList with
  | none => ⟨4, 0, 0, eB⟩
  | some c => if tx = eB then ⟨0, 0, c, eB⟩ else if (rd tx.data.toList).e ≠ 0 then ⟨(rd tx.data.toList).e, (rd tx.data.toList).p, 0, eB⟩ else ckN bd c tx
theorem rd_place (l : List UInt8) : (rd l).e = 0 → (rd l).p = 0 := by
  unfold rd
  split
  · simp
  · unfold rdA
    split
    · simp
    · split
      · simp
      · unfold rdP
        split
        · simp
        · split <;> simp
set_option maxHeartbeats 1000000 in
theorem refuses_w (w : World) (lo hi n : Int) : Calls Tryz.prog 80 #[.agg #[.int .i64 lo, .int .i64 hi], .int .i64 n] w fun e w' => e = .returned (.bool (decide (n < lo) || decide (hi < n))) ∧ Below w.heap.size w w' := by
  by_cases h1 : n < lo
  · go_enter Tryz.func80, Tryz.ntmps80
    go_wp2_with fail
    go_ret
    exact ⟨ret_bool (by simp [h1]), bl1 _ _⟩
  · by_cases h2 : hi < n
    · go_enter Tryz.func80, Tryz.ntmps80
      go_wp2_with fail
      go_ret
      exact ⟨ret_bool (by simp [h2]), bl1 _ _⟩
    · go_enter Tryz.func80, Tryz.ntmps80
      go_wp2_with fail
      go_ret
      exact ⟨ret_bool (by simp [h1, h2]), bl1 _ _⟩
theorem num_some {s : ByteArray} {c : Nat} (h : cellN s.data.toList = some c) (w : World) : Calls Tryz.prog 44 #[.string s] w fun e w' => e = .returned (.tuple #[.int .i64 c, .bool true]) ∧ ∃ n, w' = w.drewN n := by
  have := number_cell s w
  rw [cn_cellN, h] at this
  exact this
theorem num_none {s : ByteArray} (h : cellN s.data.toList = none) (w : World) : Calls Tryz.prog 44 #[.string s] w fun e w' => e = .returned (.tuple #[.int .i64 0, .bool false]) ∧ ∃ n, w' = w.drewN n := by
  have := number_cell s w
  rw [cn_cellN, h] at this
  exact this

section
variable {fs : Nat → ByteArray} {bd : Nat → Int × Int} {k : Kp}
set_option maxHeartbeats 1000000 in
theorem formula_some (W : World) (x : Nat) (h : SR W x fs bd k) (s : ByteArray) (c : Nat) (hs : cellN s.data.toList = some c) :
    Calls Tryz.prog 21 #[.pointer (some ⟨x, 0, none⟩), .string s] W fun e w' => e = .returned (.tuple #[.string (fs c), .int .i64 0]) ∧ Below W.heap.size W w' := by
  have hc := cellN_lt hs
  have H1 : Hid (W.cell? ⟨x, c, none⟩ = some (.string (fs c))) := h.fs c hc
  have HS : Hid _ := hs
  clear h hs
  go_enter Tryz.func21, Tryz.ntmps21
  go_wp2_with fail
  refine (num_some HS.out _).mono ?_
  rintro e w1 ⟨rfl, n, hw⟩
  have h2 : w1.cell? ⟨x, c, none⟩ = some (.string (fs c)) := by rw [hw]; exact H1.out
  have hb : Hid (Below W.heap.size W w1) := by unfold Hid; rw [hw]; exact below_drewN (Below.refl _ _) n
  clear hw H1
  go_wp2_with fail
  go_ret2
  exact ⟨rfl, hb.out⟩
set_option maxHeartbeats 1000000 in
theorem formula_none (W : World) (x : Nat) (s : ByteArray) (hs : cellN s.data.toList = none) :
    Calls Tryz.prog 21 #[.pointer (some ⟨x, 0, none⟩), .string s] W fun e w' => e = .returned (.tuple #[.string ⟨#[]⟩, .int .i64 4]) ∧ Below W.heap.size W w' := by
  have HS : Hid _ := hs
  clear hs
  go_enter Tryz.func21, Tryz.ntmps21
  go_wp2_with fail
  refine (num_none HS.out _).mono ?_
  rintro e w1 ⟨rfl, n, hw⟩
  have hb : Hid (Below W.heap.size W w1) := by unfold Hid; rw [hw]; exact below_drewN (Below.refl _ _) n
  clear hw
  go_wp2_with fail
  go_ret2
  exact ⟨rfl, hb.out⟩

set_option maxHeartbeats 2000000 in
theorem check_any' (W : World) (x : Nat) (cl tx : ByteArray) (hSR : Hid (SR W x fs bd k)) (hA : Hid (Amb W)) (hl : tx.size ≤ maxLen) :
    Calls Tryz.prog 56 #[.pointer (some ⟨x, 0, none⟩), .agg #[.string cl, .string tx]] W fun e w' => e = .returned (.tuple #[.int .i64 (ckP bd cl tx).c, .string (ckP bd cl tx).t, .int .i64 (ckP bd cl tx).e, .int .i64 (ckP bd cl tx).p]) ∧ Below W.heap.size W w' := by
  cases hcl : cellN cl.data.toList with
  | none =>
    have HF : Hid (ckP bd cl tx = ⟨4, 0, 0, eB⟩) := by unfold Hid ckP; rw [hcl]
    have HS : Hid _ := hcl
    clear hcl
    go_enter Tryz.func56, Tryz.ntmps56
    go_wp2_with fail
    refine (num_none HS.out _).mono ?_
    rintro e w1 ⟨rfl, n, hw⟩
    have HB1 : Hid (Below W.heap.size W w1) := by unfold Hid; rw [hw]; exact below_drewN (bl1 _ _) n
    clear hw
    go_wp2_with fail
    refine bodyPost_ret (results_tmp4 rfl _ _ _) rfl ?_
    rw [HF.out]
    exact ⟨rfl, HB1.out⟩
  | some c =>
    have hc := cellN_lt hcl
    have HS : Hid _ := hcl
    by_cases h0 : tx = eB
    · have HF : Hid (ckP bd cl tx = ⟨0, 0, c, eB⟩) := by unfold Hid ckP; rw [hcl]; simp only; rw [if_pos h0]
      clear hcl
      subst h0
      unfold eB
      go_enter Tryz.func56, Tryz.ntmps56
      go_wp2_with fail
      refine (num_some HS.out _).mono ?_
      rintro e w1 ⟨rfl, n, hw⟩
      have HB1 : Hid (Below W.heap.size W w1) := by unfold Hid; rw [hw]; exact below_drewN (bl1 _ _) n
      have hc1 : w1.cell? ⟨W.heap.size, 1, none⟩ = some (.string ⟨#[]⟩) := by
        rw [hw]
        show (W.alloc _).cell? _ = _
        rw [cell_of_row _ W.heap.size 1 _ 68 (0, 0) (heap_alloc_new W _)]
        rfl
      clear hw
      go_wp2_with fail
      refine bodyPost_ret (results_tmp4 rfl _ _ _) rfl ?_
      unfold eB at HF
      rw [HF.out]
      exact ⟨rfl, HB1.out⟩
    · have hse : tx.toList.isEmpty = false := by
        rw [← decide_eq_emptyBytes]
        exact decide_eq_false h0
      have HF : Hid (ckP bd cl tx = if (rd tx.data.toList).e ≠ 0 then ⟨(rd tx.data.toList).e, (rd tx.data.toList).p, 0, eB⟩ else ckN bd c tx) := by unfold Hid ckP; rw [hcl]; simp only; rw [if_neg h0]
      have HN : Hid (ckN bd c tx = match numT (rd tx.data.toList).ts with
        | some n => if n < (bd c).1 ∨ (bd c).2 < n then ⟨5, 0, 0, eB⟩ else ⟨0, 0, c, ⟨(plT tx.data.toList).toArray⟩⟩
        | none => ⟨0, 0, c, ⟨(plT tx.data.toList).toArray⟩⟩) := rfl
      have HSm : Hid _ := rd_small tx.data.toList
      have HL : Hid _ := rd_len tx.data.toList
      have HP2 : Hid (plT tx.data.toList = if (rd tx.data.toList).e = 0 then (rd tx.data.toList).ts.flatMap ptk else []) := rfl
      have HML : Hid (tx.size ≤ maxLen) := hl
      clear hcl h0 hl
      go_enter Tryz.func56, Tryz.ntmps56
      go_wp2_with fail
      refine (num_some HS.out _).mono ?_
      rintro e w1 ⟨rfl, n, hw⟩
      have HB1 : Hid (Below W.heap.size W w1) := by unfold Hid; rw [hw]; exact below_drewN (bl1 _ _) n
      have hc1 : w1.cell? ⟨W.heap.size, 1, none⟩ = some (.string tx) := by
        rw [hw]
        show (W.alloc _).cell? _ = _
        rw [cell_of_row _ W.heap.size 1 _ 68 (0, 0) (heap_alloc_new W _)]
        rfl
      clear hw
      have HE1 : Hid (ErrVar w1) := (hA.out.below HB1.out).1
      go_wp2_with fail
      refine (read_any tx _ HE1 HML.out).mono ?_
      rintro e w2 ⟨hb2, v, rfl, _, hown⟩
      obtain ⟨⟨e, p, ts⟩, hR⟩ : ∃ R, rd tx.data.toList = R := ⟨_, rfl⟩
      have HZ : Hid ((rd tx.data.toList).e = 0 → (rd tx.data.toList).p = 0) := rd_place _
      rw [hR] at hown HSm HL HP2 HF HN HZ ⊢
      clear hR
      simp only at hown HSm HL HP2 HF HN HZ ⊢
      have HB2 : Hid (Below W.heap.size W w2) := HB1.out.trans (hb2.mono HB1.out.size)
      by_cases he : e = 0
      · subst he
        have hz := HZ.out rfl
        subst hz
        have HP3 : Hid (plT tx.data.toList = ts.flatMap ptk) := by unfold Hid; rw [HP2.out, if_pos rfl]
        have HF2 : Hid (ckP bd cl tx = match numT ts with
          | some n => if n < (bd c).1 ∨ (bd c).2 < n then ⟨5, 0, 0, eB⟩ else ⟨0, 0, c, ⟨(plT tx.data.toList).toArray⟩⟩
          | none => ⟨0, 0, c, ⟨(plT tx.data.toList).toArray⟩⟩) := by unfold Hid; rw [HF.out, if_neg (by simp), HN.out]
        obtain ⟨ao, cp, hv⟩ : ∃ ao cp, v = .slice ao ts.length cp := by
          rcases hown.2 with ⟨hv, hn0⟩ | ⟨g, cap, cur, hv, _⟩
          · exact ⟨none, 0, by rw [hv, hn0]⟩
          · exact ⟨_, _, hv⟩
        subst hv
        have HO : Hid (w2.ownsRow w1.heap.size 142 3 (.slice ao ts.length cp) ts.length (ts.flatMap tkCells)) := hown
        have HA2 : Hid (Amb w2) := hA.out.below HB2.out
        clear hown hb2 HZ HF HN HP2
        go_wp2_with fail
        refine (numx_any _ _ ts (ownsRow_TL HO.out) (by have := HL.out; omega) (fun t h => Nat.le_trans (HSm.out t h) (by omega)) HA2.out.1 HA2.out.2.2).mono ?_
        rintro e w3 ⟨rfl, hb3⟩
        have HB3 : Hid (Below W.heap.size W w3) := HB2.out.trans (hb3.mono HB2.out.size)
        have HO3 : Hid (w3.ownsRow w1.heap.size 142 3 (.slice ao ts.length cp) ts.length (ts.flatMap tkCells)) := owns_below HO.out hb3
        obtain ⟨hlo, hhi⟩ := (hSR.out.below HB3.out).bnd c hc
        clear hb3 HO HA2
        cases hn : numT ts with
        | none =>
          have HF3 : Hid (ckP bd cl tx = ⟨0, 0, c, ⟨(ts.flatMap ptk).toArray⟩⟩) := by unfold Hid; rw [HF2.out, hn, HP3.out]
          clear hlo hhi hn HF2
          go_wp2_with fail
          refine (plain_any _ _ ts (ownsRow_TL HO3.out) (by have := HL.out; omega) (fun t h => Nat.le_trans (HSm.out t h) (by omega))).mono ?_
          rintro e w4 ⟨rfl, hb4⟩
          have HB4 : Hid (Below W.heap.size W w4) := HB3.out.trans (hb4.mono HB3.out.size)
          clear hb4
          go_wp2_with fail
          refine bodyPost_ret (results_tmp4 rfl _ _ _) rfl ?_
          rw [HF3.out]
          exact ⟨rfl, HB4.out⟩
        | some q =>
          have HF3 : Hid (ckP bd cl tx = if q < (bd c).1 ∨ (bd c).2 < q then ⟨5, 0, 0, eB⟩ else ⟨0, 0, c, ⟨(ts.flatMap ptk).toArray⟩⟩) := by unfold Hid; rw [HF2.out, hn, HP3.out]
          clear hn HF2
          go_wp2_with fail
          refine (refuses_w _ (bd c).1 (bd c).2 q).mono ?_
          rintro e w4 ⟨rfl, hb4⟩
          have HB4 : Hid (Below W.heap.size W w4) := HB3.out.trans (hb4.mono HB3.out.size)
          have HO4 : Hid (w4.ownsRow w1.heap.size 142 3 (.slice ao ts.length cp) ts.length (ts.flatMap tkCells)) := owns_below HO3.out hb4
          clear hb4 hlo hhi HO3
          by_cases hr : q < (bd c).1 ∨ (bd c).2 < q
          · have hd : (decide (q < (bd c).1) || decide ((bd c).2 < q)) = true := by simpa using hr
            have HF4 : Hid (ckP bd cl tx = ⟨5, 0, 0, eB⟩) := by unfold Hid; rw [HF3.out, if_pos hr]
            rw [hd]
            clear hr HF3 hd
            go_wp2_with fail
            refine bodyPost_ret (results_tmp4 rfl _ _ _) rfl ?_
            rw [HF4.out]
            exact ⟨rfl, HB4.out⟩
          · have hd : (decide (q < (bd c).1) || decide ((bd c).2 < q)) = false := by simpa using hr
            have HF4 : Hid (ckP bd cl tx = ⟨0, 0, c, ⟨(ts.flatMap ptk).toArray⟩⟩) := by unfold Hid; rw [HF3.out, if_neg hr]
            rw [hd]
            clear hr HF3 hd
            go_wp2_with fail
            refine (plain_any _ _ ts (ownsRow_TL HO4.out) (by have := HL.out; omega) (fun t h => Nat.le_trans (HSm.out t h) (by omega))).mono ?_
            rintro e w5 ⟨rfl, hb5⟩
            have HB5 : Hid (Below W.heap.size W w5) := HB4.out.trans (hb5.mono HB4.out.size)
            clear hb5
            go_wp2_with fail
            refine bodyPost_ret (results_tmp4 rfl _ _ _) rfl ?_
            rw [HF4.out]
            exact ⟨rfl, HB5.out⟩
      · have he' : (e != 0) = true := by simpa using he
        have HF2 : Hid (ckP bd cl tx = ⟨e, p, 0, eB⟩) := by unfold Hid; rw [HF.out, if_pos he]
        clear he hown hb2 HZ HF HN HP2
        go_wp2_with fail
        refine bodyPost_ret (results_tmp4 rfl _ _ _) rfl ?_
        rw [HF2.out]
        exact ⟨rfl, HB2.out⟩
end
end Go.Proofs.YtiocnfambeochaaGreatDoor
