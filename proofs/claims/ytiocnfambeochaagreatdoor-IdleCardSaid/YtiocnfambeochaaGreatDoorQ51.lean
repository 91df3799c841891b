/- Texts put together. -/
import Derived.Test.YtiocnfambeochaaGreatDoorQ50
/- The statement's own 'batch', walked. -/
set_option linter.unusedVariables false
set_option linter.unusedSimpArgs false
namespace Go.Proofs.YtiocnfambeochaaGreatDoor
open Go.RowKit

theorem info68b : (Tryz.prog.info? 68).map (fun i => (i.zero, i.size, i.bytes)) = some (some (.agg #[.string ⟨#[]⟩, .string ⟨#[]⟩]), 2, 32) := by kernel_rfl
theorem gb_new {a b c : World} {fb : Nat} {row : Option Nat} (h : a.grownBy b (some fb)) (hg : b.grownBy c row) (hrow : ∀ g, row = some g → a.heap.size ≤ g) : a.grownBy c (some fb) :=
  ⟨hg.os.trans h.os, hg.tape.trans h.tape, hg.output.trans h.output, Nat.le_trans h.size hg.size, fun i hi hr => (hg.block i (Nat.lt_of_lt_of_le hi h.size) (fun e => absurd (hrow i e.symm) (Nat.not_le_of_lt hi))).trans (h.block i hi hr)⟩
theorem FD.kept {w w' : World} {B fb : Nat} {fd : List UInt8} (h : FD w B fb fd) (e : w'.heap[fb]? = w.heap[fb]?) : FD w' B fb fd := by
  obtain ⟨raw, at_, h1, h2⟩ := h.blk
  exact ⟨⟨raw, at_, by rw [e]; exact h1, h2⟩, h.low⟩
theorem FD.grown {w w' : World} {B fb : Nat} {fd : List UInt8} {row : Option Nat} (h : FD w B fb fd) (hg : w.grownBy w' row) (hrow : row ≠ some fb) : FD w' B fb fd := h.kept (hg.block fb h.lt (fun e => hrow e.symm))
theorem two_cells {w : World} {b : Nat} {x y : Value} {t : TypeId} (h : w.heap[b]? = some (.cells #[x, y] t (0, 0))) : w.cell? ⟨b, 0, none⟩ = some x ∧ w.cell? ⟨b, 1, none⟩ = some y ∧ w.frozen? ⟨b, 0, none⟩ = false ∧ w.frozen? ⟨b, 1, none⟩ = false :=
  ⟨by simp [World.cell?, h], by simp [World.cell?, h], by simp [World.frozen?, h], by simp [World.frozen?, h]⟩
theorem btSum {m k : Nat} (h : 1 + k = m) (hk : k < 4) : IntKind.i64.wrap (1 + (k : Int)) = (m : Int) ∧ wrap64 (1 + (k : Int)) = (m : Int) := ⟨by rw [IntKind.wrap_i64]; omega, by unfold wrap64; omega⟩
theorem btPrev {m k : Nat} (h : m = k + 1) (hk : m ≤ 4) : IntKind.i64.wrap ((m : Int) - 1) = (k : Int) ∧ wrap64 ((m : Int) - 1) = (k : Int) ∧ (0 : Int) < (m : Int) := ⟨by rw [IntKind.wrap_i64]; omega, by unfold wrap64; omega, by omega⟩
theorem pos_c {k : Nat} (h : k ≠ 0) : (0 : Int) < (k : Int) := by omega
theorem len_small {n : Nat} (h : n ≤ 4) : n + 1 ≤ maxLen ∧ (n + 1) * 32 ≤ 140737488355328 := by unfold maxLen; omega
/-- So far in a batch. -/
structure BtS (w0 w : World) (fb : Nat) (fd : List UInt8) (wr : World) (v : Value) (m : Nat) (es : List (ByteArray × ByteArray)) (f : List UInt8) : Prop where
  mB : m ≤ 4
  nB : es.length ≤ 4
  eB' : es ++ bL m f = bB fd
  sB : Slc wr 68 2 v es.length (es.flatMap edC)
  oB : ∀ g, v.ownBlock = some g → w.heap.size ≤ g
  gB : w.grownBy wr (some fb)
  fB : FD wr w0.heap.size fb f
theorem BtS.lt {w0 w : World} {fb : Nat} {fd : List UInt8} {wr : World} {v : Value} {m : Nat} {es : List (ByteArray × ByteArray)} {f : List UInt8} (h : BtS w0 w fb fd wr v m es f) (hf : fb < w.heap.size) {w1 : World} (h1 : wr.grownBy w1 (some fb)) : Slc w1 68 2 v es.length (es.flatMap edC) :=
  h.sB.grown h1 (by
    cases hv : v.ownBlock with
    | none => exact .inl rfl
    | some g => exact .inr (fun e => by cases e; exact absurd (h.oB fb hv) (Nat.not_le_of_lt hf)))
/-- One more edit. -/
theorem BtS.next {w0 w : World} {fb : Nat} {fd : List UInt8} {wr : World} {v v' : Value} {m : Nat} {es : List (ByteArray × ByteArray)} {f : List UInt8} (h : BtS w0 w fb fd wr v (m + 1) es f) (hf : fb < w.heap.size) {w4 w8 : World} (h4 : wr.grownBy w4 (some fb)) (hF : FD w4 w0.heap.size fb (bE f).2)
    (hs : Slc w8 68 2 v' (es.length + 1) (es.flatMap edC ++ edC (bE f).1)) (hg : w4.grownBy w8 v.ownBlock) (ho : v'.ownBlock = v.ownBlock ∨ ∃ g, v'.ownBlock = some g ∧ w.heap.size ≤ g) : BtS w0 w fb fd w8 v' m (es ++ [(bE f).1]) (bE f).2 := by
  have hrow : ∀ g, v.ownBlock = some g → w.heap.size ≤ g := h.oB
  have hl : (bL (m + 1) f).length = m + 1 := bL_len _ _
  have htot := bB_len fd
  rw [← h.eB', List.length_append, hl] at htot
  refine ⟨by have := h.mB; omega, by rw [List.length_append]; show es.length + 1 ≤ 4; omega, ?_, ?_, ?_, gb_new (gb_trans h.gB h4) hg hrow, hF.grown hg (fun e => absurd (hrow fb e) (Nat.not_le_of_lt hf))⟩
  · rw [← h.eB', List.append_assoc]; rfl
  · rw [List.length_append, List.flatMap_append, List.flatMap_cons, List.flatMap_nil, List.append_nil]; exact hs
  · intro g hv
    rcases ho with e | ⟨g', e, hg'⟩
    · rw [e] at hv; exact hrow g hv
    · rw [e] at hv; cases hv
      exact hg'
set_option maxRecDepth 100000 in
set_option maxHeartbeats 4000000 in
theorem batch_w (w0 w : World) (fb : Nat) (fd : List UInt8) (hA : Hid (Amb w0)) (hb : Hid (Below w0.heap.size w0 w)) (hF : Hid (FD w w0.heap.size fb fd)) :
    Calls Tryz.prog 51 #[.pointer (some ⟨fb, 0, none⟩)] w fun e w' => ∃ v, e = .returned v ∧ Hid (Slc w' 68 2 v (bB fd).length ((bB fd).flatMap edC) ∧ (∀ g, v.ownBlock = some g → w.heap.size ≤ g) ∧ w.grownBy w' (some fb)) := by
  obtain ⟨i0, hi, hz0, hz1, hz2⟩ := info_parts info68b
  have HFB : Hid (fb < w.heap.size) := hF.out.lt
  have HBL : Hid (w0.heap.size ≤ fb) := hF.out.low
  obtain ⟨k, hk⟩ : ∃ k, (nx 4 fd).1 = k := ⟨_, rfl⟩
  obtain ⟨m0, hm0⟩ : ∃ m, 1 + k = m := ⟨_, rfl⟩
  have hk4 : k < 4 := by rw [← hk]; exact nx_lt 4 (by omega) fd
  have HK : Hid ((nx 4 fd).1 = k) := hk
  have HM0 : Hid (m0 ≤ 4 ∧ bL m0 (nx 4 fd).2 = bB fd) := ⟨by omega, by unfold bB; rw [hk, hm0]⟩
  obtain ⟨s1, s2⟩ := btSum hm0 hk4
  clear hk hm0 hk4
  go_enter Tryz.func51, Tryz.ntmps51
  go_wp2_with fail
  refine (next_any 4 (by omega) (by omega) _ w0.heap.size fb fd hF).mono ?_
  rintro e w1 ⟨rfl, g1, f1⟩
  rw [HK.out]
  have H1 : Hid (BtS w0 w fb fd w1 (.slice none 0 0) m0 [] (nx 4 fd).2) := ⟨HM0.out.1, Nat.zero_le _, by rw [List.nil_append]; exact HM0.out.2, slc_nil _ _ _, (fun g h => by cases h), g1, f1⟩
  clear g1 f1 HM0
  go_wp2_with fail
  clear s1 s2
  go_loopw [3, 4] (fun v s wr => ∃ (m : Nat) (es : List (ByteArray × ByteArray)) (f : List UInt8), s = .int .i64 m ∧ Hid (BtS w0 w fb fd wr v m es f)) (fun _ s _ => (intOf s).toNat)
  case atStart => exact ⟨m0, [], _, rfl, H1⟩
  case round =>
    obtain ⟨m, es, f, rfl, HS⟩ := hrel
    clear H1
    by_cases hm : m = 0
    · subst hm
      go_wp2_with fail
      go_ret
      have h := HS.out
      have he : es = bB fd := by rw [← h.eB']; show es = es ++ []; rw [List.append_nil]
      exact ⟨_, rfl, by rw [← he]; exact h.sB, h.oB, h.gB⟩
    · obtain ⟨m1, hm1⟩ : ∃ k, m = k + 1 := ⟨m - 1, by omega⟩
      obtain ⟨p1, p2, p3⟩ := btPrev hm1 HS.out.mB
      have HS' := HS
      rw [hm1] at HS'
      obtain ⟨l1, l2⟩ := len_small HS.out.nB
      have HL1 : Hid (es.length + 1 ≤ maxLen) := l1
      have HL2 : Hid ((es.length + 1) * 32 ≤ 140737488355328) := l2
      have HMM : Hid (m = m1 + 1) := hm1
      clear hm hm1 HS l1 l2
      go_wp2_with fail
      refine (few_any wr w0.heap.size fb f HS'.out.fB).mono ?_
      rintro e w2 ⟨rfl, g2, f2⟩
      obtain ⟨cl, hcl⟩ : ∃ cl : ByteArray, ⟨(nmT (nx 12 f).1).toArray⟩ = cl := ⟨_, rfl⟩
      have HCL : Hid (⟨(nmT (nx 12 f).1).toArray⟩ = cl) := hcl
      rw [hcl]
      have HG2 : Hid (wr.grownBy w2 (some fb)) := g2
      have HF2 : Hid (FD w2 w0.heap.size fb (nx 12 f).2) := f2
      clear g2 f2 hcl
      go_wp2_with fail
      have HQ3 : Hid ((w2.alloc (.cells #[.string cl, .string ⟨#[]⟩] 68)).heap[w2.heap.size]? = some (.cells #[.string cl, .string ⟨#[]⟩] 68 (0, 0))) := rnew _ _ _
      have HG3 : Hid (wr.grownBy (w2.alloc (.cells #[.string cl, .string ⟨#[]⟩] 68)) (some fb)) := gb_al _ HG2.out
      have HF3 : Hid (FD (w2.alloc (.cells #[.string cl, .string ⟨#[]⟩] 68)) w0.heap.size fb (nx 12 f).2) := HF2.out.below (bl1 _ _)
      have HLT : Hid (w2.heap.size < (w2.alloc (.cells #[.string cl, .string ⟨#[]⟩] 68)).heap.size) := (Array.getElem?_eq_some_iff.1 HQ3.out).1
      have HNE : Hid (fb < w2.heap.size) := HF2.out.lt
      have HWB : Hid (wr.heap.size ≤ w2.heap.size) := HG2.out.size
      clear HG2 HF2
      generalize w2.alloc (.cells #[.string cl, .string ⟨#[]⟩] 68) = w3 at *
      generalize w2.heap.size = bk at *
      refine (next_any 6 (by omega) (by omega) _ w0.heap.size fb (nx 12 f).2 HF3).mono ?_
      rintro e w4 ⟨rfl, g4, f4⟩
      obtain ⟨kk, hkk⟩ : ∃ kk, (nx 6 (nx 12 f).2).1 = kk := ⟨_, rfl⟩
      have HKK : Hid ((nx 6 (nx 12 f).2).1 = kk) := hkk
      rw [hkk]
      have HG4 : Hid (wr.grownBy w4 (some fb)) := gb_trans HG3.out g4
      have HF4 : Hid (FD w4 w0.heap.size fb (nx 6 (nx 12 f).2).2) := f4
      have HQ4 : Hid (w4.heap[bk]? = some (.cells #[.string cl, .string ⟨#[]⟩] 68 (0, 0))) := by
        unfold Hid
        rw [g4.block bk HLT.out (fun e => by cases e; exact absurd HNE.out (Nat.lt_irrefl _))]; exact HQ3.out
      clear g4 f4 hkk HG3 HF3 HQ3 HLT
      by_cases hk0 : kk = 0
      · subst hk0
        have HE : Hid ((bE f).1 = (cl, eB) ∧ (bE f).2 = (nx 6 (nx 12 f).2).2) := by unfold Hid bE; rw [if_pos HKK.out, ← HCL.out]; exact ⟨rfl, rfl⟩
        obtain ⟨c0, c1, c2, c3⟩ := two_cells HQ4.out
        go_wp2_with (at_builtin; go_must (refine wpList_append_sl (w := _) rfl _ _ 23 rfl 68 i0 _ 2 32 Tryz.underlying23 hi hz0 hz1 hz2 rfl _ _ _ rfl ((HS'.out.lt HFB.out HG4.out).al _) ⟨w4.heap.size, 0, none⟩ 1 1 [.string cl, .string ⟨#[]⟩] rfl (by decide) rfl ?c1 ?c2 ?c3 ?c4 ?_))
        case c1 =>
          intro j u hj
          match j, hj with
          | 0, hj => simp at hj; subst hj; simp [Addr.add]
          | 1, hj => simp at hj; subst hj; simp [Addr.add]
          | j + 2, hj => simp at hj
        case c2 =>
          intro u hu
          simp only [List.mem_cons, List.not_mem_nil, or_false] at hu
          rcases hu with rfl | rfl <;> rfl
        case c3 => exact HL1.out
        case c4 => exact HL2.out
        intro v' w8 hs8 hg8 ho8
        have HN : Hid (BtS w0 w fb fd w8 v' m1 (es ++ [(bE f).1]) (bE f).2) := HS'.out.next HFB.out (gb_al _ HG4.out) (by rw [HE.out.2]; exact HF4.out.below (bl1 _ _)) (by rw [HE.out.1]; exact hs8) hg8 (by
          rcases ho8 with ⟨e, _⟩ | ⟨e, _⟩
          · exact .inl e
          · exact .inr ⟨_, e, Nat.le_succ_of_le (Nat.le_trans HS'.out.gB.size HG4.out.size)⟩)
        clear hs8 hg8 ho8 c0 c1 c2 c3 HQ4
        go_wp2_with fail
        exact ⟨⟨m1, _, _, rfl, HN⟩, by rw [HMM.out]; show (intOf (.int .i64 (m1 : Int))).toNat < (intOf (.int .i64 ((m1 + 1 : Nat) : Int))).toNat; simp [intOf]⟩
      · have hkp := pos_c hk0
        obtain ⟨dp, hdp⟩ : ∃ d, (nx 3 (nx 6 (nx 12 f).2).2).1 = d := ⟨_, rfl⟩
        have HDP : Hid ((nx 3 (nx 6 (nx 12 f).2).2).1 = dp) := hdp
        have HD2 : Hid (dp ≤ 2) := by unfold Hid; rw [← hdp]; have := nx_lt 3 (by omega) (nx 6 (nx 12 f).2).2; omega
        have HE : Hid ((bE f).1 = (cl, gT dp (nx 3 (nx 6 (nx 12 f).2).2).2) ∧ (bE f).2 = (gen dp (nx 3 (nx 6 (nx 12 f).2).2).2).2) := by unfold Hid bE; rw [if_neg (by rw [HKK.out]; exact hk0), hdp, ← HCL.out]; exact ⟨rfl, rfl⟩
        clear hdp hk0
        go_wp2_with fail
        refine (next_any 3 (by omega) (by omega) _ w0.heap.size fb (nx 6 (nx 12 f).2).2 HF4).mono ?_
        rintro e w5 ⟨rfl, g5, f5⟩
        rw [HDP.out]
        have HG5 : Hid (wr.grownBy w5 (some fb)) := gb_trans HG4.out g5
        have HF5 : Hid (FD w5 w0.heap.size fb (nx 3 (nx 6 (nx 12 f).2).2).2) := f5
        have HQ5 : Hid (w5.heap[bk]? = some (.cells #[.string cl, .string ⟨#[]⟩] 68 (0, 0))) := by
          unfold Hid
          rw [g5.block bk (Array.getElem?_eq_some_iff.1 HQ4.out).1 (fun e => by cases e; exact absurd HNE.out (Nat.lt_irrefl _))]; exact HQ4.out
        clear g5 f5 HG4 HF4 HQ4
        generalize (nx 3 (nx 6 (nx 12 f).2).2).2 = f6 at *
        go_wp2_with fail
        refine (fml_all dp HD2.out w0 _ fb f6 hA.out (below_gb hb.out (gb_trans HS'.out.gB HG5.out) (Nat.le_of_lt (Nat.lt_of_le_of_lt HBL.out HFB.out)) HBL.out) HF5.out).mono ?_
        rintro e w6 ⟨rfl, g6, f6'⟩
        obtain ⟨tx, htx⟩ : ∃ tx : ByteArray, ⟨(rnd (gen dp f6).1).toArray⟩ = tx := ⟨_, rfl⟩
        have HTX : Hid (gT dp f6 = tx) := htx
        rw [htx]
        have HG6 : Hid (wr.grownBy w6 (some fb)) := gb_trans HG5.out g6
        have HF6 : Hid (FD w6 w0.heap.size fb (gen dp f6).2) := f6'
        have HQ6 : Hid (w6.heap[bk]? = some (.cells #[.string cl, .string ⟨#[]⟩] 68 (0, 0))) := by
          unfold Hid
          rw [g6.block bk (Array.getElem?_eq_some_iff.1 HQ5.out).1 (fun e => by cases e; exact absurd HNE.out (Nat.lt_irrefl _))]; exact HQ5.out
        clear g6 f6' htx HG5 HF5 HQ5
        obtain ⟨c0, c1, c2, c3⟩ := two_cells HQ6.out
        obtain ⟨d0, d1, d2, d3⟩ := two_cells (two_setCell (u := .string tx) HQ6.out)
        have HG7 : Hid (wr.grownBy (w6.setCell ⟨bk, 1, none⟩ (.string tx)) (some fb)) := gb_new HG6.out (gb_setCell w6 bk 1 (.string tx)) (fun g hg => by cases hg; exact HWB.out)
        have HS7 : Hid (Slc (w6.setCell ⟨bk, 1, none⟩ (.string tx)) 68 2 u3 es.length (es.flatMap edC)) := HS'.out.lt HFB.out HG7.out
        have HF7 : Hid (FD (w6.setCell ⟨bk, 1, none⟩ (.string tx)) w0.heap.size fb (gen dp f6).2) := HF6.out.kept (Below.heap_setCell _ _ _ _ (Nat.ne_of_lt HNE.out))
        have hsz7 : (w6.setCell ⟨bk, 1, none⟩ (.string tx)).heap.size = w6.heap.size := by simp
        obtain ⟨e0, e1, _, _⟩ := two_cells (rnew (w6.setCell ⟨bk, 1, none⟩ (.string tx)) #[.string cl, .string tx] 68)
        rw [hsz7] at e0 e1
        have HE0 : Hid _ := e0
        have HE1 : Hid _ := e1
        clear HG6 HF6 HQ6 e0 e1
        go_wp2_with (at_builtin; go_must (refine wpList_append_sl (w := _) rfl _ _ 23 rfl 68 i0 _ 2 32 Tryz.underlying23 hi hz0 hz1 hz2 rfl _ _ _ rfl (HS7.out.al _) ⟨w6.heap.size, 0, none⟩ 1 1 [.string cl, .string tx] rfl (by decide) rfl ?c1 ?c2 ?c3 ?c4 ?_))
        case c1 =>
          intro j u hj
          match j, hj with
          | 0, hj => simp at hj; subst hj; exact HE0.out
          | 1, hj => simp at hj; subst hj; exact HE1.out
          | j + 2, hj => simp at hj
        case c2 =>
          intro u hu
          simp only [List.mem_cons, List.not_mem_nil, or_false] at hu
          rcases hu with rfl | rfl <;> rfl
        case c3 => exact HL1.out
        case c4 => exact HL2.out
        intro v' w8 hs8 hg8 ho8
        have HN : Hid (BtS w0 w fb fd w8 v' m1 (es ++ [(bE f).1]) (bE f).2) := HS'.out.next HFB.out (gb_al _ HG7.out) (by rw [HE.out.2]; exact HF7.out.below (bl1 _ _)) (by rw [HE.out.1, HTX.out]; exact hs8) hg8 (by
          rcases ho8 with ⟨e, _⟩ | ⟨e, _⟩
          · exact .inl e
          · exact .inr ⟨_, e, Nat.le_succ_of_le (Nat.le_trans HS'.out.gB.size (by have := HG7.out.size; rw [hsz7] at this; exact this))⟩)
        clear hs8 hg8 ho8 c0 c1 c2 c3 d0 d1 d2 d3 hsz7
        go_wp2_with fail
        exact ⟨⟨m1, _, _, rfl, HN⟩, by rw [HMM.out]; show (intOf (.int .i64 (m1 : Int))).toNat < (intOf (.int .i64 ((m1 + 1 : Nat) : Int))).toNat; simp [intOf]⟩
end Go.Proofs.YtiocnfambeochaaGreatDoor

/- The statement's own 'play', walked. -/
set_option linter.unusedVariables false
set_option linter.unusedSimpArgs false
namespace Go.Proofs.YtiocnfambeochaaGreatDoor
open Go.RowKit

/-- A slice of the caller's, with these strings. -/
def RawS (w : World) (v : Value) (l : List ByteArray) : Prop :=
  (v = .slice none 0 0 ∧ l = []) ∨ ∃ a cap, v = .slice (some a) l.length cap ∧ l.length ≤ cap ∧ l.length ≤ maxLen ∧ ∀ i s, l[i]? = some s → w.cell? (a.add i) = some (.string s) ∧ s.size ≤ 9223372036854775806
def HowS (w : World) (v : Value) (l : List Int) : Prop :=
  (v = .slice none 0 0 ∧ l = []) ∨ ∃ a cap, v = .slice (some a) l.length cap ∧ l.length ≤ cap ∧ l.length ≤ maxLen ∧ ∀ i s, l[i]? = some s → w.cell? (a.add i) = some (.int .i64 s) ∧ I64 s
/-- What a play makes of the formulas. -/
def plF : List ByteArray → (Nat → ByteArray) → Nat → ByteArray
  | [], fs => fs
  | s :: l, fs => plF l (if (edR bd0 0 (bB s.data.toList) fs).e = 0 then (edR bd0 0 (bB s.data.toList) fs).fs else fs)
theorem pl_one (s : ByteArray) (fs : Nat → ByteArray) : PlayR fs (if (edR bd0 0 (bB s.data.toList) fs).e = 0 then (edR bd0 0 (bB s.data.toList) fs).fs else fs) := by
  rcases ed_batch (bB s.data.toList) 0 fs (bL_ok _ _) with ⟨g1, g2⟩ | g
  · rw [if_pos g1]; exact g2
  · rw [if_neg (by rw [g]; decide)]; exact PlayR.refl fs
theorem pl_r : ∀ (l : List ByteArray) (fs : Nat → ByteArray), PlayR fs (plF l fs)
  | [], fs => PlayR.refl fs
  | s :: l, fs => (pl_one s fs).trans (pl_r l _)
theorem pl_app : ∀ (l : List ByteArray) (s : ByteArray) (fs : Nat → ByteArray), plF (l ++ [s]) fs = (if (edR bd0 0 (bB s.data.toList) (plF l fs)).e = 0 then (edR bd0 0 (bB s.data.toList) (plF l fs)).fs else plF l fs)
  | [], s, fs => rfl
  | a :: l, s, fs => pl_app l s _
theorem bB_sizes (fd : List UInt8) : ∀ e ∈ bB fd, e.2.size ≤ maxLen := fun e he => by
  obtain ⟨c, _, _, h⟩ := bL_ok _ _ e he
  rcases h with h | ⟨d, f, hd, h⟩
  · rw [h]; exact Nat.zero_le _
  · rw [h]; have := gT_size d f hd; unfold maxLen; omega
theorem plNums {i : Nat} (h : i < 20) : IntKind.i64.wrap ((i : Int) + 1) = (i : Int) + 1 ∧ wrap64 ((i : Int) + 1) = (i : Int) + 1 ∧ (i : Int) < 20 ∧ 0 ≤ (i : Int) := ⟨by rw [IntKind.wrap_i64]; omega, by unfold wrap64; omega, by omega, by omega⟩
theorem pl_meas {i : Nat} (h : i < 20) : (100 - ((i + 1 : Nat) : Int)).toNat < (100 - (i : Int)).toNat := by omega
theorem fd_new {w0 w : World} (hb : Below w0.heap.size w0 w) {s : ByteArray} (hs : s.size ≤ 9223372036854775806) : FD (w.alloc (.cells #[.string s, .int .i64 0] 30)) w0.heap.size w.heap.size s.data.toList :=
  ⟨⟨s, 0, rnew _ _ _, Nat.zero_le _, hs, by rw [List.drop_zero]⟩, hb.size⟩
section
variable {E : Env} {w0 w w' : World} {x : Nat} {fl fs : Nat → ByteArray} {k k' : Kp}
/-- Behind an Edit of a batch. -/
theorem ShS.batch (h : ShS E w0 w x fl fs k) {s : ByteArray} (h1 : (edR bd0 0 (bB s.data.toList) fs).e ≠ 0 → Below w.heap.size w w') (h2 : (edR bd0 0 (bB s.data.toList) fs).e = 0 → Only x w w' ∧ SR w' x (edR bd0 0 (bB s.data.toList) fs).fs bd0 k) :
    ShS E w0 w' x fl (if (edR bd0 0 (bB s.data.toList) fs).e = 0 then (edR bd0 0 (bB s.data.toList) fs).fs else fs) k := by
  have hp := pl_one s fs
  by_cases he : (edR bd0 0 (bB s.data.toList) fs).e = 0
  · rw [if_pos he] at hp ⊢
    obtain ⟨g1, g2⟩ := h2 he
    exact ⟨h.bel' g1, h.xB, g2, h.kinv, hp.ft h.ft⟩
  · rw [if_neg he]
    exact h.below (h1 he)
end
theorem takes_next {l : List ByteArray} {i : Nat} {s : ByteArray} (h : l[i]? = some s) : l.take (i + 1) = l.take i ++ [s] := by rw [List.take_add_one, h]; rfl
/-- So far in a play. -/
structure PlS (E : Env) (w0 wa w : World) (x : Nat) (l : List ByteArray) (hs : List Int) (fl0 fs0 : Nat → ByteArray) (k0 : Kp) (i : Nat) : Prop where
  ex : ∃ fl k, ShS E w0 w x fl (plF (l.take i) fs0) k ∧ (hs = [] → fl = fl0 ∧ k = k0) ∧ Only x wa w
/-- Behind an Edit nothing but the sheet has changed. -/
theorem ed_only {x : Nat} {w w' : World} {R : Er} {P : Prop} (h1 : R.e ≠ 0 → Below w.heap.size w w') (h2 : R.e = 0 → Only x w w' ∧ P) : Only x w w' := by
  by_cases he : R.e = 0
  · exact (h2 he).1
  · exact Below.only (h1 he) x
set_option maxRecDepth 100000 in
set_option maxHeartbeats 4000000 in
theorem play_w {E : Env} (HE : Hid (EnvOK E)) {w0 w : World} (hA : Hid (Amb w0)) {x : Nat} {fl fs : Nat → ByteArray} {k : Kp} (h : Hid (ShS E w0 w x fl fs k)) {vr vh : Value} {l : List ByteArray} {hs : List Int} (hr : Hid (RawS w0 vr l)) (hh : Hid (HowS w0 vh hs)) :
    Calls Tryz.prog 30 #[.pointer (some ⟨x, 0, none⟩), vr, vh] w fun e w' => e = .returned (.bool true) ∧ Hid (∃ fl' k', ShS E w0 w' x fl' (plF (l.take 20) fs) k' ∧ (hs = [] → fl' = fl ∧ k' = k) ∧ Only x w w') := by
  obtain ⟨ar, cr, hvr⟩ : ∃ a c, vr = .slice a l.length c := by
    rcases hr.out with ⟨rfl, rfl⟩ | ⟨a, c, rfl, _⟩
    · exact ⟨none, 0, rfl⟩
    · exact ⟨some a, c, rfl⟩
  obtain ⟨ah, ch, hvh⟩ : ∃ a c, vh = .slice a hs.length c := by
    rcases hh.out with ⟨rfl, rfl⟩ | ⟨a, c, rfl, _⟩
    · exact ⟨none, 0, rfl⟩
    · exact ⟨some a, c, rfl⟩
  subst hvr
  subst hvh
  have H0 : Hid (PlS E w0 w w x l hs fl fs k 0) := ⟨fl, k, h.out, fun _ => ⟨rfl, rfl⟩, Only.refl _ _⟩
  go_enter Tryz.func30, Tryz.ntmps30
  go_wp2_with fail
  go_loopw [7] (fun s wr => ∃ i : Nat, s = .int .i64 i ∧ Hid (i ≤ 20 ∧ i ≤ l.length) ∧ Hid (PlS E w0 w wr x l hs fl fs k i)) (fun s _ => (100 - intOf s).toNat)
  case atStart => exact ⟨0, rfl, ⟨Nat.zero_le _, Nat.zero_le _⟩, H0⟩
  case round =>
    obtain ⟨i, rfl, HI, HP⟩ := hrel
    clear H0 h
    by_cases hi : i < l.length
    · by_cases hi2 : i < 20
      · obtain ⟨n1, n2, n3, n4⟩ := plNums hi2
        have hii := lt_c hi
        obtain ⟨s, hsg⟩ : ∃ s, l[i]? = some s := ⟨_, List.getElem?_eq_getElem hi⟩
        obtain ⟨a, hra, hcap, hlm, hcl⟩ : ∃ a, ar = some a ∧ l.length ≤ cr ∧ l.length ≤ maxLen ∧ ∀ i s, l[i]? = some s → w0.cell? (a.add i) = some (.string s) ∧ s.size ≤ 9223372036854775806 := by
          rcases hr.out with ⟨_, e⟩ | ⟨a, c, e, h1, h2, h4⟩
          · rw [e] at hi; exact absurd hi (Nat.not_lt_zero _)
          · cases e; exact ⟨a, rfl, h1, h2, h4⟩
        subst hra
        obtain ⟨fl1, k1, hsh, hnil, honl⟩ := HP.out.ex
        have HON : Hid (Only x w wr) := honl
        have HSH : Hid (ShS E w0 wr x fl1 (plF (l.take i) fs) k1) := hsh
        have HNL : Hid (hs = [] → fl1 = fl ∧ k1 = k) := hnil
        have HSS : Hid (s.size ≤ 9223372036854775806) := (hcl i s hsg).2
        have hcell : wr.cell? (a.add i) = some (.string s) := by rw [hsh.bel.cell (p := a.add i) (World.block_lt_of_cell? _ _ (hcl i s hsg).1)]; exact (hcl i s hsg).1
        have HTK : Hid (l.take (i + 1) = l.take i ++ [s]) := takes_next hsg
        have HI2 : Hid (i < 20 ∧ i < l.length) := ⟨hi2, hi⟩
        clear hi hi2 HI hsg hsh hnil hcl HP honl
        go_wp2_with fail
        have HFD : Hid (FD (wr.alloc (.cells #[.string s, .int .i64 0] 30)) w0.heap.size wr.heap.size s.data.toList) := fd_new HSH.out.bel HSS.out
        have HB1 : Hid (Below wr.heap.size wr (wr.alloc (.cells #[.string s, .int .i64 0] 30))) := bl1 _ _
        generalize wr.alloc (.cells #[.string s, .int .i64 0] 30) = w1 at *
        refine (batch_w w0 w1 wr.heap.size s.data.toList hA (HSH.out.bel.trans (HB1.out.mono HSH.out.bel.size)) HFD).mono ?_
        rintro e w2 ⟨v, rfl, g2⟩
        have HB2 : Hid (Below wr.heap.size wr w2) := below_gb HB1.out g2.out.2.2 HB1.out.size (Nat.le_refl _)
        have HS2 : Hid (ShS E w0 w2 x fl1 (plF (l.take i) fs) k1) := HSH.out.below HB2.out
        have HO2 : Hid (Only x w w2) := HON.out.trans (Below.only HB2.out x)
        have HSL : Hid (Slc w2 68 2 v (bB s.data.toList).length ((bB s.data.toList).flatMap edC)) := g2.out.1
        clear g2 HFD HB1 HB2 HSH hcell
        go_wp2_with fail
        refine (edit_any w2 x v (bB s.data.toList) HS2.out.sr (hA.out.below HS2.out.bel) HSL (Nat.le_trans (bB_len _) (by decide)) (bB_sizes _)).mono ?_
        rintro e w3 ⟨rfl, g3⟩
        have HS3 : Hid (ShS E w0 w3 x fl1 (plF (l.take (i + 1)) fs) k1) := by
          have h := HS2.out.batch (w' := w3) (s := s) g3.out.1 g3.out.2
          unfold Hid
          rw [HTK.out, pl_app]; exact h
        have hec : (edR bd0 0 (bB s.data.toList) (plF (l.take i) fs)).e = 0 ∨ (edR bd0 0 (bB s.data.toList) (plF (l.take i) fs)).e = 1 := by
          rcases ed_batch (bB s.data.toList) 0 (plF (l.take i) fs) (bL_ok _ _) with ⟨g, _⟩ | g
          · exact .inl g
          · exact .inr g
        have HO3 : Hid (Only x w w3) := HO2.out.trans (ed_only g3.out.1 g3.out.2)
        clear g3 HS2 HSL HO2 HON
        generalize edR bd0 0 (bB s.data.toList) (plF (l.take i) fs) = R at *
        obtain ⟨e, ei, ep, efs⟩ := R
        dsimp only at hec
        by_cases hih : i < hs.length
        · have hihi := lt_c hih
          obtain ⟨ih, hig⟩ : ∃ z, hs[i]? = some z := ⟨_, List.getElem?_eq_getElem hih⟩
          obtain ⟨b, hrb, hcap2, hlm2, hcl2⟩ : ∃ a, ah = some a ∧ hs.length ≤ ch ∧ hs.length ≤ maxLen ∧ ∀ i s, hs[i]? = some s → w0.cell? (a.add i) = some (.int .i64 s) ∧ I64 s := by
            rcases hh.out with ⟨_, e⟩ | ⟨a, c, e, h1, h2, h4⟩
            · rw [e] at hih; exact absurd hih (Nat.not_lt_zero _)
            · cases e; exact ⟨a, rfl, h1, h2, h4⟩
          subst hrb
          have hcell2 : w3.cell? (b.add i) = some (.int .i64 ih) := by rw [HS3.out.bel.cell (p := b.add i) (World.block_lt_of_cell? _ _ (hcl2 i ih hig).1)]; exact (hcl2 i ih hig).1
          have HI64 : Hid (I64 ih) := (hcl2 i ih hig).2
          have HNE : Hid (hs ≠ []) := fun e => by rw [e] at hih; exact absurd hih (Nat.not_lt_zero _)
          clear hih hig hcl2
          by_cases hz : ih = 0
          · subst hz
            rcases hec with rfl | rfl
            all_goals
              go_wp2_with fail
              exact ⟨⟨i + 1, rfl, ⟨HI2.out.1, HI2.out.2⟩, fl1, k1, HS3.out, (fun e => absurd e HNE.out), HO3.out⟩, pl_meas HI2.out.1⟩
          · have hz2 : (ih == 0) = false := by simpa using hz
            rcases hec with rfl | rfl
            all_goals
              go_wp2_with fail
              refine (worked_s HE hA HS3 ih HI64).mono ?_
              rintro e w4 ⟨v4, k4, bg4, rfl, g4⟩
              have HS4 : Hid (ShS E w0 w4 x (plF (l.take (i + 1)) fs) (plF (l.take (i + 1)) fs) k4) := g4.out.1
              have HO4 : Hid (Only x w w4) := HO3.out.trans g4.out.2.2.1
              clear g4
              go_wp2_with fail
              exact ⟨⟨i + 1, rfl, ⟨HI2.out.1, HI2.out.2⟩, _, k4, HS4.out, (fun e => absurd e HNE.out), HO4.out⟩, pl_meas HI2.out.1⟩
        · have hihi := ge_c hih
          clear hih
          rcases hec with rfl | rfl
          all_goals
            go_wp2_with fail
            exact ⟨⟨i + 1, rfl, ⟨HI2.out.1, HI2.out.2⟩, fl1, k1, HS3.out, HNL.out, HO3.out⟩, pl_meas HI2.out.1⟩
      · have hii := lt_c hi
        have hge : ¬ (i : Int) < 20 := ge_c (n := 20) hi2
        have HF : Hid (∃ fl' k', ShS E w0 wr x fl' (plF (l.take 20) fs) k' ∧ (hs = [] → fl' = fl ∧ k' = k) ∧ Only x w wr) := by
          have h := HP.out.ex
          rw [Nat.le_antisymm HI.out.1 (Nat.le_of_not_lt hi2)] at h
          exact h
        clear hi hi2 HI HP
        go_wp2_with fail
        go_ret
        exact ⟨rfl, HF⟩
    · have hge := ge_c hi
      have HF : Hid (∃ fl' k', ShS E w0 wr x fl' (plF (l.take 20) fs) k' ∧ (hs = [] → fl' = fl ∧ k' = k) ∧ Only x w wr) := by
        have h := HP.out.ex
        have e : l.take i = l.take 20 := by
          rw [List.take_of_length_le (Nat.le_of_not_lt hi), List.take_of_length_le (Nat.le_trans (Nat.le_of_not_lt hi) HI.out.1)]
        rw [e] at h
        exact h
      clear hi HI HP
      go_wp2_with fail
      go_ret
      exact ⟨rfl, HF⟩
end Go.Proofs.YtiocnfambeochaaGreatDoor

/- Plain mathematics: what comes of the statement Idle. -/
set_option linter.unusedVariables false
set_option linter.unusedSimpArgs false
namespace Go.Proofs.YtiocnfambeochaaGreatDoor

/-- Which cells a formula of raw bytes may name. -/
def okC (t : Tk) : Bool := decide (t.k ≠ 5) || decide (t.x.getLast? ≠ some 55)
theorem cC_cell {n : Nat} (h : n < 12) : okC (tCell n) = true := by
  have : ∀ n, n < 12 → okC (tCell n) = true := by decide
  exact this n h
theorem cC_ne {t : Tk} (h : t.k ≠ 5) : okC t = true := by
  unfold okC
  rw [decide_eq_true h]; rfl
theorem cC_op (n : Nat) : okC (tOp n) = true := by
  unfold tOp
  repeat' split
  all_goals decide
theorem cC_cmp (n : Nat) : okC (tCmp n) = true := by
  unfold tCmp
  repeat' split
  all_goals decide
theorem cC_ranges (n : Nat) : ∀ t ∈ ranges n, okC t = true := by
  rw [← List.all_eq_true]
  unfold ranges
  repeat' split
  all_goals kernel_rfl
theorem cC_ats (j q : Nat) (hq : q < 12) : ∀ t ∈ ats j q, okC t = true := by
  unfold ats
  split
  · rw [← List.all_eq_true]; kernel_rfl
  · split
    · rw [← List.all_eq_true]; kernel_rfl
    · intro t ht
      rw [List.mem_singleton] at ht
      rw [ht]; exact cC_cell hq
theorem cC_cons {t : Tk} {l : List Tk} (h : okC t = true) (hl : ∀ t ∈ l, okC t = true) : ∀ u ∈ t :: l, okC u = true := by
  intro u hu
  rcases List.mem_cons.1 hu with rfl | hu
  · exact h
  · exact hl u hu
theorem cC_app {a b : List Tk} (ha : ∀ t ∈ a, okC t = true) (hb : ∀ t ∈ b, okC t = true) : ∀ u ∈ a ++ b, okC u = true := by
  intro u hu
  rcases List.mem_append.1 hu with hu | hu
  · exact ha u hu
  · exact hb u hu
theorem cC_nil : ∀ t ∈ ([] : List Tk), okC t = true := fun _ h => by cases h
theorem gen_cells : ∀ (deep : Nat) (fd : List UInt8), ∀ t ∈ (gen deep fd).1, okC t = true
  | 0, fd => by
    unfold gen
    split
    · exact cC_cons (cC_ne (show (1 : Int) ≠ 5 by decide)) cC_nil
    · split
      · exact cC_cons (cC_ne (show (2 : Int) ≠ 5 by decide)) cC_nil
      · split
        · refine cC_cons ?_ cC_nil
          repeat' split
          all_goals decide
        · exact cC_cons (cC_cell (nx_lt 12 (by omega) _)) cC_nil
  | deep + 1, fd => by
    have ih := gen_cells deep
    unfold gen
    split
    · exact cC_cons (by decide) (cC_cons (by decide) (cC_app (cC_app (ih _) (cC_cons (by decide) (cC_app (ih _) (cC_cons (by decide) (ih _))))) (cC_cons (by decide) cC_nil)))
    · split
      · exact cC_cons (by decide) (cC_cons (by decide) (cC_app (cC_ats _ _ (nx_lt 12 (by omega) _)) (cC_cons (by decide) cC_nil)))
      · split
        · exact cC_cons (by decide) (cC_cons (by decide) (cC_app (ih _) (cC_cons (by decide) cC_nil)))
        · split
          · exact cC_ranges _
          · split
            · exact cC_cons (by decide) (cC_app (cC_app (ih _) (cC_cons (cC_cmp _) (ih _))) (cC_cons (by decide) cC_nil))
            · split
              · exact cC_cons (by decide) (cC_cons (cC_cell (nx_lt 12 (by omega) _)) cC_nil)
              · exact cC_app (cC_cons (by decide) (cC_app (ih _) (cC_cons (by decide) cC_nil))) (cC_cons (cC_op _) (cC_cons (by decide) (cC_app (ih _) (cC_cons (by decide) cC_nil))))
/-- A formula of raw bytes that begins with a number is a number. -/
theorem gen_head : ∀ (deep : Nat) (fd : List UInt8), hk (gen deep fd).1 = 1 → (gen deep fd).1.length = 1
  | 0, fd => by
    unfold gen
    repeat' split
    all_goals exact fun _ => rfl
  | deep + 1, fd => by
    unfold gen
    split
    · intro h; exact absurd h (show ¬ (6 : Int) = 1 by decide)
    · split
      · intro h; exact absurd h (show ¬ (7 : Int) = 1 by decide)
      · split
        · intro h; exact absurd h (show ¬ (8 : Int) = 1 by decide)
        · split
          · unfold ranges
            repeat' split
            all_goals first | exact fun h => absurd h (show ¬ (9 : Int) = 1 by decide) | exact fun h => absurd h (show ¬ (10 : Int) = 1 by decide)
          · split
            · intro h; exact absurd h (show ¬ (12 : Int) = 1 by decide)
            · split
              · intro h; exact absurd h (show ¬ (23 : Int) = 1 by decide)
              · intro h; exact absurd h (show ¬ (12 : Int) = 1 by decide)
theorem gen_kx {deep : Nat} {fd l : List UInt8} (hd : deep ≤ 2) (h : rnd (gen deep fd).1 = l) (hl : l.length ≤ 120) : (rdA l).ts.map kxT = (gen deep fd).1.map kxT := by
  have hg := (gen_fg deep fd).1
  have := (plain_toks (rnd (gen deep fd).1) (gen deep fd).1 (sc_plain _ hg.good) (hg.is.more (by omega)) (ck_end hg.ck) (by rw [h]; exact hl)).2.2
  rw [h] at this
  exact this
/-- A text whose tokens name row seven, or are more than one and begin with a number, is none of raw bytes. -/
theorem gen_not {l : List UInt8} (hl : l.length ≤ 120) (hb : ((rdA l).ts.all okC = false) ∨ (hk (rdA l).ts = 1 ∧ (rdA l).ts.length ≠ 1)) {t : ByteArray} (ht : GenT t) : t ≠ ⟨l.toArray⟩ := fun e => by
  obtain ⟨deep, fd, hd, rfl, _⟩ := ht
  have e1 : rnd (gen deep fd).1 = l := by
    have := congrArg (fun b : ByteArray => b.data.toList) e
    simpa [gT] using this
  have hk' := gen_kx hd e1 hl
  rcases hb with hb | ⟨h1, h2⟩
  · have : (rdA l).ts.all okC = true := by
      rw [List.all_eq_true]
      intro t ht
      have hm : kxT t ∈ (gen deep fd).1.map kxT := by rw [← hk']; exact List.mem_map.2 ⟨t, ht, rfl⟩
      obtain ⟨u, hu, e⟩ := List.mem_map.1 hm
      have e1 : u.k = t.k := congrArg Prod.fst e
      have e2 : u.x = t.x := congrArg Prod.snd e
      have := gen_cells deep fd u hu
      unfold okC at this ⊢
      rw [e1, e2] at this
      exact this
    rw [this] at hb; cases hb
  · have hlen : (rdA l).ts.length = (gen deep fd).1.length := by simpa using congrArg List.length hk'
    refine h2 ?_
    rw [hlen]
    refine gen_head deep fd ?_
    rw [← h1]
    cases ha : (rdA l).ts with
    | nil => rw [ha] at h1; exact absurd h1 (by decide)
    | cons a r =>
      rw [ha] at hk'
      cases hg : (gen deep fd).1 with
      | nil => rw [hg] at hk'; cases hk'
      | cons b q =>
        rw [hg] at hk'
        have := (List.cons.inj hk').1
        show b.k = a.k
        exact (congrArg Prod.fst this).symm
def t21 : ByteArray := ⟨#[50, 48, 32, 43, 32, 49]⟩
def tX2 : ByteArray := ⟨#[70, 55, 32, 42, 32, 50]⟩
def tE7 : ByteArray := ⟨#[69, 55]⟩
theorem txt_21 : TxtOK t21 (binA 5 (retA (vI 20)) (retA (vI 1))) := txt_of (l := [50, 48, 32, 43, 32, 49]) (g := [tNum [50, 48]] ++ tOp 0 :: [tNum [49]]) (by kernel_rfl) (by kernel_rfl) (by kernel_rfl) (by kernel_rfl) (by kernel_rfl) (cg_plus (o := tOp 0) (by decide) (cg_n [50, 48] 20 rfl (by omega)) (cg_n [49] 1 rfl (by omega)))
theorem txt_x2 : TxtOK tX2 (binA 7 (rdc 41) (retA (vI 2))) := txt_of (l := [70, 55, 32, 42, 32, 50]) (g := [tCell 41] ++ tOp 2 :: [tNum [50]]) (by kernel_rfl) (by kernel_rfl) (by kernel_rfl) (by kernel_rfl) (by kernel_rfl) (cg_lift (by omega) (cg_lift (by omega) (cg_two (lv := 2) (o := tOp 2) (by omega) (by decide) (cg_cell (by omega)) (cg_n [50] 2 rfl (by omega)))))
theorem txt_e7 : TxtOK tE7 (rdc 40) := txt_of (l := [69, 55]) (g := [tCell 40]) (by kernel_rfl) (by kernel_rfl) (by kernel_rfl) (by kernel_rfl) (by kernel_rfl) (cg_form (cg_cell (by omega)))
theorem gen_21 {t : ByteArray} (h : GenT t) : t ≠ t21 := gen_not (l := [50, 48, 32, 43, 32, 49]) (by decide) (.inr ⟨by kernel_rfl, by decide +kernel⟩) h
theorem gen_x2 {t : ByteArray} (h : GenT t) : t ≠ tX2 := gen_not (l := [70, 55, 32, 42, 32, 50]) (by decide) (.inl (by kernel_rfl)) h
theorem gen_e7 {t : ByteArray} (h : GenT t) : t ≠ tE7 := gen_not (l := [69, 55]) (by decide) (.inl (by kernel_rfl)) h
/-- The sheet of the statement: two cells of its own, besides formulas of raw bytes. -/
structure IdS (fs : Nat → ByteArray) : Prop where
  a : fs 41 = t21
  b : fs 47 = tX2
  r : ∀ c, c ≠ 41 → c ≠ 47 → fs c = eB ∨ (c < 12 ∧ GenT (fs c))
def idF : Nat → ByteArray := updF (updF fs0 41 t21) 47 tX2
theorem id_start : IdS idF := by
  refine ⟨rfl, rfl, fun c h1 h2 => .inl ?_⟩
  unfold idF updF
  rw [if_neg h2, if_neg h1]; rfl
theorem PlayR.ids {fs : Nat → ByteArray} (h : PlayR idF fs) : IdS fs := by
  refine ⟨by rw [h.far 41 (by omega)]; rfl, by rw [h.far 47 (by omega)]; rfl, fun c h1 h2 => ?_⟩
  by_cases hc : c < 12
  · rcases h.near c with g | g | g
    · left; rw [g]; exact (id_start.r c h1 h2).elim id fun g => by
        have : idF c = eB := by unfold idF updF; rw [if_neg h2, if_neg h1]; rfl
        exact this
    · exact .inl g
    · exact .inr ⟨hc, g⟩
  · left
    rw [h.far c (by omega)]
    unfold idF updF
    rw [if_neg h2, if_neg h1]; rfl
theorem t21_x2 : t21 ≠ tX2 := fun e => absurd (congrArg (fun b : ByteArray => b.data.toList) e) (by decide)
theorem t21_e7 : t21 ≠ tE7 := fun e => absurd (congrArg ByteArray.size e) (by decide)
theorem x2_e7 : tX2 ≠ tE7 := fun e => absurd (congrArg ByteArray.size e) (by decide)
section
variable {fs : Nat → ByteArray} {E : Env}
theorem IdS.only21 (h : IdS fs) {i : Nat} (e : fs i = t21) : i = 41 := by
  by_cases h1 : i = 41
  · exact h1
  · by_cases h2 : i = 47
    · rw [h2, h.b] at e; exact absurd e.symm t21_x2
    · rcases h.r i h1 h2 with g | ⟨_, g⟩
      · rw [g] at e; exact absurd e.symm txt_21.ne
      · exact absurd e (gen_21 g)
theorem IdS.onlyx2 (h : IdS fs) {i : Nat} (e : fs i = tX2) : i = 47 := by
  by_cases h1 : i = 47
  · exact h1
  · by_cases h2 : i = 41
    · rw [h2, h.a] at e; exact absurd e t21_x2
    · rcases h.r i h2 h1 with g | ⟨_, g⟩
      · rw [g] at e; exact absurd e.symm txt_x2.ne
      · exact absurd e (gen_x2 g)
theorem IdS.note7 (h : IdS fs) (i : Nat) : fs i ≠ tE7 := fun e => by
  by_cases h1 : i = 47
  · rw [h1, h.b] at e; exact absurd e x2_e7
  · by_cases h2 : i = 41
    · rw [h2, h.a] at e; exact absurd e t21_e7
    · rcases h.r i h2 h1 with g | ⟨_, g⟩
      · rw [g] at e; exact absurd e.symm txt_e7.ne
      · exact absurd e (gen_e7 g)
variable {val : Nat → V}
theorem i_nc (n : Int) : vI n ≠ cyc := by unfold cyc vE vI; simp
theorem id_v41 (hE : EnvOK E) (ha : fs 41 = t21) (hv : ∀ c, Val E.D fs c (val c)) : val 41 = vI 21 := by
  refine (val_of hv (c := 41) (by rw [ha]; exact txt_21.ne) (rs := []) trivial (Hold.nil _) ?_).1
  rw [ha, txt_21.D hE]; kernel_rfl
theorem id_h47 (hE : EnvOK E) (ha : fs 41 = t21) (hv : ∀ c, Val E.D fs c (val c)) : Hold val [⟨⟨41, false⟩, vI 21⟩] := by
  intro r hr
  rw [List.mem_singleton] at hr
  subst hr
  rw [id_v41 hE ha hv]
  exact ⟨rfl, i_nc _⟩
theorem id_v47 (hE : EnvOK E) (ha : fs 41 = t21) (hb : fs 47 = tX2) (hv : ∀ c, Val E.D fs c (val c)) : val 47 = vI 42 := by
  refine (val_of hv (c := 47) (by rw [hb]; exact txt_x2.ne) (rs := [⟨⟨41, false⟩, vI 21⟩]) ?_ (id_h47 hE ha hv) ?_).1
  · rw [hb, txt_x2.D hE]; exact ⟨rfl, trivial⟩
  · rw [hb, txt_x2.D hE]; kernel_rfl
theorem id_v46 (hE : EnvOK E) (h6 : fs 46 = tE7) (h0 : fs 40 = eB) (hv : ∀ c, Val E.D fs c (val c)) : val 46 = vI 0 := by
  refine (val_of hv (c := 46) (by rw [h6]; exact txt_e7.ne) (rs := [⟨⟨40, false⟩, vI 0⟩]) ?_ ?_ ?_).1
  · rw [h6, txt_e7.D hE]; exact ⟨rfl, trivial⟩
  · intro r hr
    rw [List.mem_singleton] at hr
    subst hr
    have : val 40 = vN := (hv 40).none h0
    rw [this]
    exact ⟨rfl, by unfold cyc vE vN; simp⟩
  · rw [h6, txt_e7.D hE]; rfl
variable {k k' : Kp} {o w : Nat} {bg : List Nat}
theorem id_first (hE : EnvOK E) (hf : FsT fs) (h : IdS fs) (hk : KInv E fs0 k) (h0 : k.store.has = []) (ho : o < 3) (hw : WorkP E k fs o w k' bg) : 41 ∈ bg ∧ 47 ∈ bg := by
  refine ⟨hw.must hE hk hf ho (by rw [h.a]; exact txt_21.ne) ?_ ?_ ?_, hw.must hE hk hf ho (by rw [h.b]; exact txt_x2.ne) ?_ ?_ ?_⟩
  · rw [hk.f, h.a]; exact fun e => txt_21.ne e.symm
  · intro a ha; rw [h0] at ha; cases ha
  · intro i hi; rw [h.a] at hi; exact h.only21 hi
  · rw [hk.f, h.b]; exact fun e => txt_x2.ne e.symm
  · intro a ha; rw [h0] at ha; cases ha
  · intro i hi; rw [h.b] at hi; exact h.onlyx2 hi
theorem id_again (hk : KInv E fs k) (hw : WorkP E k fs o w k' bg) : bg = [] ∧ k' = k := by
  rcases hw with ⟨_, h1, h2⟩ | ⟨h, _⟩
  · exact ⟨h2, h1⟩
  · exact absurd (fun c _ => hk.f c) h
theorem id_last (hE : EnvOK E) (hf : FsT fs) (h : IdS fs) (hk : KInv E fs k) (hs : ∀ a ∈ k.store.has, ∃ c, a.f = fs c) (ho : o < 3) (hw : WorkP E k (updF fs 46 tE7) o w k' bg) : 46 ∈ bg ∧ 41 ∉ bg ∧ 47 ∉ bg ∧ (k'.last 47).v = vI 42 ∧ (k'.last 46).v = vI 0 := by
  have hf2 := hf.upd txt_e7 (c := 46) (by omega)
  have hk' := hw.inv hE hk hf2 ho
  have u41 : updF fs 46 tE7 41 = t21 := by unfold updF; rw [if_neg (by omega)]; exact h.a
  have u47 : updF fs 46 tE7 47 = tX2 := by unfold updF; rw [if_neg (by omega)]; exact h.b
  have u46 : updF fs 46 tE7 46 = tE7 := by unfold updF; rw [if_pos rfl]
  have u40 : updF fs 46 tE7 40 = eB := by
    unfold updF
    rw [if_neg (by omega)]
    rcases h.r 40 (by omega) (by omega) with g | ⟨g, _⟩
    · exact g
    · omega
  have r41 : (k.last 41).rs = [] := hk.rs (c := 41) (v := vI 21) (by rw [h.a]; exact txt_21.ne) trivial (by rw [h.a, txt_21.D hE]; kernel_rfl) (Hold.nil _) (by rw [id_v41 hE h.a hk.v]; exact i_nc _)
  have r47 : (k.last 47).rs = [⟨⟨41, false⟩, vI 21⟩] := hk.rs (c := 47) (v := vI 42) (by rw [h.b]; exact txt_x2.ne) (by rw [h.b, txt_x2.D hE]; exact ⟨rfl, trivial⟩) (by rw [h.b, txt_x2.D hE]; kernel_rfl) (id_h47 hE h.a hk.v) (by rw [id_v47 hE h.a h.b hk.v]; exact i_nc _)
  have clean : ∀ n, ¬ dn (updF fs 46 tE7) k.last n 41 ∧ ¬ dn (updF fs 46 tE7) k.last n 47 := by
    intro n
    induction n with
    | zero =>
      exact ⟨fun hh => hh ⟨by rw [hk.f, u41, h.a], by rw [id_v41 hE h.a hk.v]; exact i_nc _⟩, fun hh => hh ⟨by rw [hk.f, u47, h.b], by rw [id_v47 hE h.a h.b hk.v]; exact i_nc _⟩⟩
    | succ n ih =>
      refine ⟨?_, ?_⟩
      · rintro (hh | ⟨y, hy, hh⟩)
        · exact ih.1 hh
        · rw [r41] at hy; cases hy
      · rintro (hh | ⟨y, hy, hh⟩)
        · exact ih.2 hh
        · rw [r47] at hy
          rw [List.mem_singleton] at hy
          subst hy
          exact ih.1 hh
  refine ⟨?_, ?_, ?_, id_v47 hE u41 u47 hk'.v, id_v46 hE u46 u40 hk'.v⟩
  · refine hw.must hE hk hf2 ho (by rw [u46]; exact txt_e7.ne) ?_ ?_ ?_
    · rw [hk.f, u46]; exact h.note7 46
    · intro a ha
      obtain ⟨c, e⟩ := hs a ha
      rw [e, u46]; exact h.note7 c
    · intro i hi
      rw [u46] at hi
      by_cases h1 : i = 46
      · exact h1
      · unfold updF at hi
        rw [if_neg h1] at hi
        exact absurd hi (h.note7 i)
  · refine hw.idle hE hk hf2 ho (by rw [hk.f, u41, h.a]) (by rw [id_v41 hE h.a hk.v]; exact i_nc _) (fun _ => by rw [r41]; exact Hold.nil _) (fun _ => ?_)
    rintro ⟨n, hn⟩; exact (clean n).1 hn
  · refine hw.idle hE hk hf2 ho (by rw [hk.f, u47, h.b]) (by rw [id_v47 hE h.a h.b hk.v]; exact i_nc _) (fun _ => by rw [r47]; exact id_h47 hE u41 hk'.v) (fun _ => ?_)
    rintro ⟨n, hn⟩; exact (clean n).2 hn
end
end Go.Proofs.YtiocnfambeochaaGreatDoor
