/- Texts put together. -/
import Derived.Test.YtiocnfambeochaaGreatDoorQ50
/- The statement's own 'batch', walked. -/
set_option linter.unusedVariables false
set_option linter.unusedSimpArgs false
namespace Go.Proofs.YtiocnfambeochaaGreatDoor
open Go.RowKit

theorem info68b : (Tryz.prog.info? 68).map (fun i => (i.zero, i.size, i.bytes)) = some (some (.agg #[.string ⟨#[]⟩, .string ⟨#[]⟩]), 2, 32) := by kernel_rfl
theorem gb_new {a b c : World} {fb : Nat} {row : Option Nat} (h : a.grownBy b (some fb)) (hg : b.grownBy c row) (hrow : ∀ g, row = some g → a.heap.size ≤ g) : a.grownBy c (some fb) :=
  ⟨hg.os.trans h.os, hg.tape.trans h.tape, hg.output.trans h.output, Nat.le_trans h.size hg.size, fun i hi hr => (hg.block i (Nat.lt_of_lt_of_le hi h.size) (fun e => absurd (hrow i e.symm) (Nat.not_le_of_lt hi))).trans (h.block i hi hr)⟩
theorem FD.kept {w w' : World} {B fb : Nat} {fd : List UInt8} (h : FD w B fb fd) (e : w'.heap[fb]? = w.heap[fb]?) : FD w' B fb fd := by
  obtain ⟨raw, at_, h1, h2⟩ := h.blk
  exact ⟨⟨raw, at_, by rw [e]; exact h1, h2⟩, h.low⟩
theorem FD.grown {w w' : World} {B fb : Nat} {fd : List UInt8} {row : Option Nat} (h : FD w B fb fd) (hg : w.grownBy w' row) (hrow : row ≠ some fb) : FD w' B fb fd := h.kept (hg.block fb h.lt (fun e => hrow e.symm))
theorem two_cells {w : World} {b : Nat} {x y : Value} {t : TypeId} (h : w.heap[b]? = some (.cells #[x, y] t (0, 0))) : w.cell? ⟨b, 0, none⟩ = some x ∧ w.cell? ⟨b, 1, none⟩ = some y ∧ w.frozen? ⟨b, 0, none⟩ = false ∧ w.frozen? ⟨b, 1, none⟩ = false :=
  ⟨by simp [World.cell?, h], by simp [World.cell?, h], by simp [World.frozen?, h], by simp [World.frozen?, h]⟩
theorem btSum {m k : Nat} (h : 1 + k = m) (hk : k < 4) : IntKind.i64.wrap (1 + (k : Int)) = (m : Int) ∧ wrap64 (1 + (k : Int)) = (m : Int) := ⟨by rw [IntKind.wrap_i64]; omega, by unfold wrap64; omega⟩
theorem btPrev {m k : Nat} (h : m = k + 1) (hk : m ≤ 4) : IntKind.i64.wrap ((m : Int) - 1) = (k : Int) ∧ wrap64 ((m : Int) - 1) = (k : Int) ∧ (0 : Int) < (m : Int) := ⟨by rw [IntKind.wrap_i64]; omega, by unfold wrap64; omega, by omega⟩
theorem pos_c {k : Nat} (h : k ≠ 0) : (0 : Int) < (k : Int) := by omega
theorem len_small {n : Nat} (h : n ≤ 4) : n + 1 ≤ maxLen ∧ (n + 1) * 32 ≤ 140737488355328 := by unfold maxLen; omega
/-- So far in a batch. -/
structure BtS (w0 w : World) (fb : Nat) (fd : List UInt8) (wr : World) (v : Value) (m : Nat) (es : List (ByteArray × ByteArray)) (f : List UInt8) : Prop where
  mB : m ≤ 4
  nB : es.length ≤ 4
  eB' : es ++ bL m f = bB fd
  sB : Slc wr 68 2 v es.length (es.flatMap edC)
  oB : ∀ g, v.ownBlock = some g → w.heap.size ≤ g
  gB : w.grownBy wr (some fb)
  fB : FD wr w0.heap.size fb f
theorem BtS.lt {w0 w : World} {fb : Nat} {fd : List UInt8} {wr : World} {v : Value} {m : Nat} {es : List (ByteArray × ByteArray)} {f : List UInt8} (h : BtS w0 w fb fd wr v m es f) (hf : fb < w.heap.size) {w1 : World} (h1 : wr.grownBy w1 (some fb)) : Slc w1 68 2 v es.length (es.flatMap edC) :=
  h.sB.grown h1 (by
    cases hv : v.ownBlock with
    | none => exact .inl rfl
    | some g => exact .inr (fun e => by cases e; exact absurd (h.oB fb hv) (Nat.not_le_of_lt hf)))
/-- One more edit. -/
theorem BtS.next {w0 w : World} {fb : Nat} {fd : List UInt8} {wr : World} {v v' : Value} {m : Nat} {es : List (ByteArray × ByteArray)} {f : List UInt8} (h : BtS w0 w fb fd wr v (m + 1) es f) (hf : fb < w.heap.size) {w4 w8 : World} (h4 : wr.grownBy w4 (some fb)) (hF : FD w4 w0.heap.size fb (bE f).2)
    (hs : Slc w8 68 2 v' (es.length + 1) (es.flatMap edC ++ edC (bE f).1)) (hg : w4.grownBy w8 v.ownBlock) (ho : v'.ownBlock = v.ownBlock ∨ ∃ g, v'.ownBlock = some g ∧ w.heap.size ≤ g) : BtS w0 w fb fd w8 v' m (es ++ [(bE f).1]) (bE f).2 := by
  have hrow : ∀ g, v.ownBlock = some g → w.heap.size ≤ g := h.oB
  have hl : (bL (m + 1) f).length = m + 1 := bL_len _ _
  have htot := bB_len fd
  rw [← h.eB', List.length_append, hl] at htot
  refine ⟨by have := h.mB; omega, by rw [List.length_append]; show es.length + 1 ≤ 4; omega, ?_, ?_, ?_, gb_new (gb_trans h.gB h4) hg hrow, hF.grown hg (fun e => absurd (hrow fb e) (Nat.not_le_of_lt hf))⟩
  · rw [← h.eB', List.append_assoc]; rfl
  · rw [List.length_append, List.flatMap_append, List.flatMap_cons, List.flatMap_nil, List.append_nil]; exact hs
  · intro g hv
    rcases ho with e | ⟨g', e, hg'⟩
    · rw [e] at hv; exact hrow g hv
    · rw [e] at hv; cases hv
      exact hg'
set_option maxRecDepth 100000 in
set_option maxHeartbeats 4000000 in
theorem batch_w (w0 w : World) (fb : Nat) (fd : List UInt8) (hA : Hid (Amb w0)) (hb : Hid (Below w0.heap.size w0 w)) (hF : Hid (FD w w0.heap.size fb fd)) :
    Calls Tryz.prog 51 #[.pointer (some ⟨fb, 0, none⟩)] w fun e w' => ∃ v, e = .returned v ∧ Hid (Slc w' 68 2 v (bB fd).length ((bB fd).flatMap edC) ∧ (∀ g, v.ownBlock = some g → w.heap.size ≤ g) ∧ w.grownBy w' (some fb)) := by
  obtain ⟨i0, hi, hz0, hz1, hz2⟩ := info_parts info68b
  have HFB : Hid (fb < w.heap.size) := hF.out.lt
  have HBL : Hid (w0.heap.size ≤ fb) := hF.out.low
  obtain ⟨k, hk⟩ : ∃ k, (nx 4 fd).1 = k := ⟨_, rfl⟩
  obtain ⟨m0, hm0⟩ : ∃ m, 1 + k = m := ⟨_, rfl⟩
  have hk4 : k < 4 := by rw [← hk]; exact nx_lt 4 (by omega) fd
  have HK : Hid ((nx 4 fd).1 = k) := hk
  have HM0 : Hid (m0 ≤ 4 ∧ bL m0 (nx 4 fd).2 = bB fd) := ⟨by omega, by unfold bB; rw [hk, hm0]⟩
  obtain ⟨s1, s2⟩ := btSum hm0 hk4
  clear hk hm0 hk4
  go_enter Tryz.func51, Tryz.ntmps51
  go_wp2_with fail
  refine (next_any 4 (by omega) (by omega) _ w0.heap.size fb fd hF).mono ?_
  rintro e w1 ⟨rfl, g1, f1⟩
  rw [HK.out]
  have H1 : Hid (BtS w0 w fb fd w1 (.slice none 0 0) m0 [] (nx 4 fd).2) := ⟨HM0.out.1, Nat.zero_le _, by rw [List.nil_append]; exact HM0.out.2, slc_nil _ _ _, (fun g h => by cases h), g1, f1⟩
  clear g1 f1 HM0
  go_wp2_with fail
  clear s1 s2
  go_loopw [3, 4] (fun v s wr => ∃ (m : Nat) (es : List (ByteArray × ByteArray)) (f : List UInt8), s = .int .i64 m ∧ Hid (BtS w0 w fb fd wr v m es f)) (fun _ s _ => (intOf s).toNat)
  case atStart => exact ⟨m0, [], _, rfl, H1⟩
  case round =>
    obtain ⟨m, es, f, rfl, HS⟩ := hrel
    clear H1
    by_cases hm : m = 0
    · subst hm
      go_wp2_with fail
      go_ret
      have h := HS.out
      have he : es = bB fd := by rw [← h.eB']; show es = es ++ []; rw [List.append_nil]
      exact ⟨_, rfl, by rw [← he]; exact h.sB, h.oB, h.gB⟩
    · obtain ⟨m1, hm1⟩ : ∃ k, m = k + 1 := ⟨m - 1, by omega⟩
      obtain ⟨p1, p2, p3⟩ := btPrev hm1 HS.out.mB
      have HS' := HS
      rw [hm1] at HS'
      obtain ⟨l1, l2⟩ := len_small HS.out.nB
      have HL1 : Hid (es.length + 1 ≤ maxLen) := l1
      have HL2 : Hid ((es.length + 1) * 32 ≤ 140737488355328) := l2
      have HMM : Hid (m = m1 + 1) := hm1
      clear hm hm1 HS l1 l2
      go_wp2_with fail
      refine (few_any wr w0.heap.size fb f HS'.out.fB).mono ?_
      rintro e w2 ⟨rfl, g2, f2⟩
      obtain ⟨cl, hcl⟩ : ∃ cl : ByteArray, ⟨(nmT (nx 12 f).1).toArray⟩ = cl := ⟨_, rfl⟩
      have HCL : Hid (⟨(nmT (nx 12 f).1).toArray⟩ = cl) := hcl
      rw [hcl]
      have HG2 : Hid (wr.grownBy w2 (some fb)) := g2
      have HF2 : Hid (FD w2 w0.heap.size fb (nx 12 f).2) := f2
      clear g2 f2 hcl
      go_wp2_with fail
      have HQ3 : Hid ((w2.alloc (.cells #[.string cl, .string ⟨#[]⟩] 68)).heap[w2.heap.size]? = some (.cells #[.string cl, .string ⟨#[]⟩] 68 (0, 0))) := rnew _ _ _
      have HG3 : Hid (wr.grownBy (w2.alloc (.cells #[.string cl, .string ⟨#[]⟩] 68)) (some fb)) := gb_al _ HG2.out
      have HF3 : Hid (FD (w2.alloc (.cells #[.string cl, .string ⟨#[]⟩] 68)) w0.heap.size fb (nx 12 f).2) := HF2.out.below (bl1 _ _)
      have HLT : Hid (w2.heap.size < (w2.alloc (.cells #[.string cl, .string ⟨#[]⟩] 68)).heap.size) := (Array.getElem?_eq_some_iff.1 HQ3.out).1
      have HNE : Hid (fb < w2.heap.size) := HF2.out.lt
      have HWB : Hid (wr.heap.size ≤ w2.heap.size) := HG2.out.size
      clear HG2 HF2
      generalize w2.alloc (.cells #[.string cl, .string ⟨#[]⟩] 68) = w3 at *
      generalize w2.heap.size = bk at *
      refine (next_any 6 (by omega) (by omega) _ w0.heap.size fb (nx 12 f).2 HF3).mono ?_
      rintro e w4 ⟨rfl, g4, f4⟩
      obtain ⟨kk, hkk⟩ : ∃ kk, (nx 6 (nx 12 f).2).1 = kk := ⟨_, rfl⟩
      have HKK : Hid ((nx 6 (nx 12 f).2).1 = kk) := hkk
      rw [hkk]
      have HG4 : Hid (wr.grownBy w4 (some fb)) := gb_trans HG3.out g4
      have HF4 : Hid (FD w4 w0.heap.size fb (nx 6 (nx 12 f).2).2) := f4
      have HQ4 : Hid (w4.heap[bk]? = some (.cells #[.string cl, .string ⟨#[]⟩] 68 (0, 0))) := by
        unfold Hid
        rw [g4.block bk HLT.out (fun e => by cases e; exact absurd HNE.out (Nat.lt_irrefl _))]; exact HQ3.out
      clear g4 f4 hkk HG3 HF3 HQ3 HLT
      by_cases hk0 : kk = 0
      · subst hk0
        have HE : Hid ((bE f).1 = (cl, eB) ∧ (bE f).2 = (nx 6 (nx 12 f).2).2) := by unfold Hid bE; rw [if_pos HKK.out, ← HCL.out]; exact ⟨rfl, rfl⟩
        obtain ⟨c0, c1, c2, c3⟩ := two_cells HQ4.out
        go_wp2_with (at_builtin; go_must (refine wpList_append_sl (w := _) rfl _ _ 23 rfl 68 i0 _ 2 32 Tryz.underlying23 hi hz0 hz1 hz2 rfl _ _ _ rfl ((HS'.out.lt HFB.out HG4.out).al _) ⟨w4.heap.size, 0, none⟩ 1 1 [.string cl, .string ⟨#[]⟩] rfl (by decide) rfl ?c1 ?c2 ?c3 ?c4 ?_))
        case c1 =>
          intro j u hj
          match j, hj with
          | 0, hj => simp at hj; subst hj; simp [Addr.add]
          | 1, hj => simp at hj; subst hj; simp [Addr.add]
          | j + 2, hj => simp at hj
        case c2 =>
          intro u hu
          simp only [List.mem_cons, List.not_mem_nil, or_false] at hu
          rcases hu with rfl | rfl <;> rfl
        case c3 => exact HL1.out
        case c4 => exact HL2.out
        intro v' w8 hs8 hg8 ho8
        have HN : Hid (BtS w0 w fb fd w8 v' m1 (es ++ [(bE f).1]) (bE f).2) := HS'.out.next HFB.out (gb_al _ HG4.out) (by rw [HE.out.2]; exact HF4.out.below (bl1 _ _)) (by rw [HE.out.1]; exact hs8) hg8 (by
          rcases ho8 with ⟨e, _⟩ | ⟨e, _⟩
          · exact .inl e
          · exact .inr ⟨_, e, Nat.le_succ_of_le (Nat.le_trans HS'.out.gB.size HG4.out.size)⟩)
        clear hs8 hg8 ho8 c0 c1 c2 c3 HQ4
        go_wp2_with fail
        exact ⟨⟨m1, _, _, rfl, HN⟩, by rw [HMM.out]; show (intOf (.int .i64 (m1 : Int))).toNat < (intOf (.int .i64 ((m1 + 1 : Nat) : Int))).toNat; simp [intOf]⟩
      · have hkp := pos_c hk0
        obtain ⟨dp, hdp⟩ : ∃ d, (nx 3 (nx 6 (nx 12 f).2).2).1 = d := ⟨_, rfl⟩
        have HDP : Hid ((nx 3 (nx 6 (nx 12 f).2).2).1 = dp) := hdp
        have HD2 : Hid (dp ≤ 2) := by unfold Hid; rw [← hdp]; have := nx_lt 3 (by omega) (nx 6 (nx 12 f).2).2; omega
        have HE : Hid ((bE f).1 = (cl, gT dp (nx 3 (nx 6 (nx 12 f).2).2).2) ∧ (bE f).2 = (gen dp (nx 3 (nx 6 (nx 12 f).2).2).2).2) := by unfold Hid bE; rw [if_neg (by rw [HKK.out]; exact hk0), hdp, ← HCL.out]; exact ⟨rfl, rfl⟩
        clear hdp hk0
        go_wp2_with fail
        refine (next_any 3 (by omega) (by omega) _ w0.heap.size fb (nx 6 (nx 12 f).2).2 HF4).mono ?_
        rintro e w5 ⟨rfl, g5, f5⟩
        rw [HDP.out]
        have HG5 : Hid (wr.grownBy w5 (some fb)) := gb_trans HG4.out g5
        have HF5 : Hid (FD w5 w0.heap.size fb (nx 3 (nx 6 (nx 12 f).2).2).2) := f5
        have HQ5 : Hid (w5.heap[bk]? = some (.cells #[.string cl, .string ⟨#[]⟩] 68 (0, 0))) := by
          unfold Hid
          rw [g5.block bk (Array.getElem?_eq_some_iff.1 HQ4.out).1 (fun e => by cases e; exact absurd HNE.out (Nat.lt_irrefl _))]; exact HQ4.out
        clear g5 f5 HG4 HF4 HQ4
        generalize (nx 3 (nx 6 (nx 12 f).2).2).2 = f6 at *
        go_wp2_with fail
        refine (fml_all dp HD2.out w0 _ fb f6 hA.out (below_gb hb.out (gb_trans HS'.out.gB HG5.out) (Nat.le_of_lt (Nat.lt_of_le_of_lt HBL.out HFB.out)) HBL.out) HF5.out).mono ?_
        rintro e w6 ⟨rfl, g6, f6'⟩
        obtain ⟨tx, htx⟩ : ∃ tx : ByteArray, ⟨(rnd (gen dp f6).1).toArray⟩ = tx := ⟨_, rfl⟩
        have HTX : Hid (gT dp f6 = tx) := htx
        rw [htx]
        have HG6 : Hid (wr.grownBy w6 (some fb)) := gb_trans HG5.out g6
        have HF6 : Hid (FD w6 w0.heap.size fb (gen dp f6).2) := f6'
        have HQ6 : Hid (w6.heap[bk]? = some (.cells #[.string cl, .string ⟨#[]⟩] 68 (0, 0))) := by
          unfold Hid
          rw [g6.block bk (Array.getElem?_eq_some_iff.1 HQ5.out).1 (fun e => by cases e; exact absurd HNE.out (Nat.lt_irrefl _))]; exact HQ5.out
        clear g6 f6' htx HG5 HF5 HQ5
        obtain ⟨c0, c1, c2, c3⟩ := two_cells HQ6.out
        obtain ⟨d0, d1, d2, d3⟩ := two_cells (two_setCell (u := .string tx) HQ6.out)
        have HG7 : Hid (wr.grownBy (w6.setCell ⟨bk, 1, none⟩ (.string tx)) (some fb)) := gb_new HG6.out (gb_setCell w6 bk 1 (.string tx)) (fun g hg => by cases hg; exact HWB.out)
        have HS7 : Hid (Slc (w6.setCell ⟨bk, 1, none⟩ (.string tx)) 68 2 u3 es.length (es.flatMap edC)) := HS'.out.lt HFB.out HG7.out
        have HF7 : Hid (FD (w6.setCell ⟨bk, 1, none⟩ (.string tx)) w0.heap.size fb (gen dp f6).2) := HF6.out.kept (Below.heap_setCell _ _ _ _ (Nat.ne_of_lt HNE.out))
        have hsz7 : (w6.setCell ⟨bk, 1, none⟩ (.string tx)).heap.size = w6.heap.size := by simp
        obtain ⟨e0, e1, _, _⟩ := two_cells (rnew (w6.setCell ⟨bk, 1, none⟩ (.string tx)) #[.string cl, .string tx] 68)
        rw [hsz7] at e0 e1
        have HE0 : Hid _ := e0
        have HE1 : Hid _ := e1
        clear HG6 HF6 HQ6 e0 e1
        go_wp2_with (at_builtin; go_must (refine wpList_append_sl (w := _) rfl _ _ 23 rfl 68 i0 _ 2 32 Tryz.underlying23 hi hz0 hz1 hz2 rfl _ _ _ rfl (HS7.out.al _) ⟨w6.heap.size, 0, none⟩ 1 1 [.string cl, .string tx] rfl (by decide) rfl ?c1 ?c2 ?c3 ?c4 ?_))
        case c1 =>
          intro j u hj
          match j, hj with
          | 0, hj => simp at hj; subst hj; exact HE0.out
          | 1, hj => simp at hj; subst hj; exact HE1.out
          | j + 2, hj => simp at hj
        case c2 =>
          intro u hu
          simp only [List.mem_cons, List.not_mem_nil, or_false] at hu
          rcases hu with rfl | rfl <;> rfl
        case c3 => exact HL1.out
        case c4 => exact HL2.out
        intro v' w8 hs8 hg8 ho8
        have HN : Hid (BtS w0 w fb fd w8 v' m1 (es ++ [(bE f).1]) (bE f).2) := HS'.out.next HFB.out (gb_al _ HG7.out) (by rw [HE.out.2]; exact HF7.out.below (bl1 _ _)) (by rw [HE.out.1, HTX.out]; exact hs8) hg8 (by
          rcases ho8 with ⟨e, _⟩ | ⟨e, _⟩
          · exact .inl e
          · exact .inr ⟨_, e, Nat.le_succ_of_le (Nat.le_trans HS'.out.gB.size (by have := HG7.out.size; rw [hsz7] at this; exact this))⟩)
        clear hs8 hg8 ho8 c0 c1 c2 c3 d0 d1 d2 d3 hsz7
        go_wp2_with fail
        exact ⟨⟨m1, _, _, rfl, HN⟩, by rw [HMM.out]; show (intOf (.int .i64 (m1 : Int))).toNat < (intOf (.int .i64 ((m1 + 1 : Nat) : Int))).toNat; simp [intOf]⟩
end Go.Proofs.YtiocnfambeochaaGreatDoor

/- The statement's own 'play', walked. -/
set_option linter.unusedVariables false
set_option linter.unusedSimpArgs false
namespace Go.Proofs.YtiocnfambeochaaGreatDoor
open Go.RowKit

/-- A slice of the caller's, with these strings. -/
def RawS (w : World) (v : Value) (l : List ByteArray) : Prop :=
  (v = .slice none 0 0 ∧ l = []) ∨ ∃ a cap, v = .slice (some a) l.length cap ∧ l.length ≤ cap ∧ l.length ≤ maxLen ∧ ∀ i s, l[i]? = some s → w.cell? (a.add i) = some (.string s) ∧ s.size ≤ 9223372036854775806
def HowS (w : World) (v : Value) (l : List Int) : Prop :=
  (v = .slice none 0 0 ∧ l = []) ∨ ∃ a cap, v = .slice (some a) l.length cap ∧ l.length ≤ cap ∧ l.length ≤ maxLen ∧ ∀ i s, l[i]? = some s → w.cell? (a.add i) = some (.int .i64 s) ∧ I64 s
/-- What a play makes of the formulas. -/
def plF : List ByteArray → (Nat → ByteArray) → Nat → ByteArray
  | [], fs => fs
  | s :: l, fs => plF l (if (edR bd0 0 (bB s.data.toList) fs).e = 0 then (edR bd0 0 (bB s.data.toList) fs).fs else fs)
theorem pl_one (s : ByteArray) (fs : Nat → ByteArray) : PlayR fs (if (edR bd0 0 (bB s.data.toList) fs).e = 0 then (edR bd0 0 (bB s.data.toList) fs).fs else fs) := by
  rcases ed_batch (bB s.data.toList) 0 fs (bL_ok _ _) with ⟨g1, g2⟩ | g
  · rw [if_pos g1]; exact g2
  · rw [if_neg (by rw [g]; decide)]; exact PlayR.refl fs
theorem pl_r : ∀ (l : List ByteArray) (fs : Nat → ByteArray), PlayR fs (plF l fs)
  | [], fs => PlayR.refl fs
  | s :: l, fs => (pl_one s fs).trans (pl_r l _)
theorem pl_app : ∀ (l : List ByteArray) (s : ByteArray) (fs : Nat → ByteArray), plF (l ++ [s]) fs = (if (edR bd0 0 (bB s.data.toList) (plF l fs)).e = 0 then (edR bd0 0 (bB s.data.toList) (plF l fs)).fs else plF l fs)
  | [], s, fs => rfl
  | a :: l, s, fs => pl_app l s _
theorem bB_sizes (fd : List UInt8) : ∀ e ∈ bB fd, e.2.size ≤ maxLen := fun e he => by
  obtain ⟨c, _, _, h⟩ := bL_ok _ _ e he
  rcases h with h | ⟨d, f, hd, h⟩
  · rw [h]; exact Nat.zero_le _
  · rw [h]; have := gT_size d f hd; unfold maxLen; omega
theorem plNums {i : Nat} (h : i < 20) : IntKind.i64.wrap ((i : Int) + 1) = (i : Int) + 1 ∧ wrap64 ((i : Int) + 1) = (i : Int) + 1 ∧ (i : Int) < 20 ∧ 0 ≤ (i : Int) := ⟨by rw [IntKind.wrap_i64]; omega, by unfold wrap64; omega, by omega, by omega⟩
theorem pl_meas {i : Nat} (h : i < 20) : (100 - ((i + 1 : Nat) : Int)).toNat < (100 - (i : Int)).toNat := by omega
theorem fd_new {w0 w : World} (hb : Below w0.heap.size w0 w) {s : ByteArray} (hs : s.size ≤ 9223372036854775806) : FD (w.alloc (.cells #[.string s, .int .i64 0] 30)) w0.heap.size w.heap.size s.data.toList :=
  ⟨⟨s, 0, rnew _ _ _, Nat.zero_le _, hs, by rw [List.drop_zero]⟩, hb.size⟩
section
variable {E : Env} {w0 w w' : World} {x : Nat} {fl fs : Nat → ByteArray} {k k' : Kp}
/-- Behind an Edit of a batch. -/
theorem ShS.batch (h : ShS E w0 w x fl fs k) {s : ByteArray} (h1 : (edR bd0 0 (bB s.data.toList) fs).e ≠ 0 → Below w.heap.size w w') (h2 : (edR bd0 0 (bB s.data.toList) fs).e = 0 → Only x w w' ∧ SR w' x (edR bd0 0 (bB s.data.toList) fs).fs bd0 k) :
    ShS E w0 w' x fl (if (edR bd0 0 (bB s.data.toList) fs).e = 0 then (edR bd0 0 (bB s.data.toList) fs).fs else fs) k := by
  have hp := pl_one s fs
  by_cases he : (edR bd0 0 (bB s.data.toList) fs).e = 0
  · rw [if_pos he] at hp ⊢
    obtain ⟨g1, g2⟩ := h2 he
    exact ⟨h.bel' g1, h.xB, g2, h.kinv, hp.ft h.ft⟩
  · rw [if_neg he]
    exact h.below (h1 he)
end
theorem takes_next {l : List ByteArray} {i : Nat} {s : ByteArray} (h : l[i]? = some s) : l.take (i + 1) = l.take i ++ [s] := by rw [List.take_add_one, h]; rfl
/-- So far in a play. -/
structure PlS (E : Env) (w0 wa w : World) (x : Nat) (l : List ByteArray) (hs : List Int) (fl0 fs0 : Nat → ByteArray) (k0 : Kp) (i : Nat) : Prop where
  ex : ∃ fl k, ShS E w0 w x fl (plF (l.take i) fs0) k ∧ (hs = [] → fl = fl0 ∧ k = k0) ∧ Only x wa w
/-- Behind an Edit nothing but the sheet has changed. -/
theorem ed_only {x : Nat} {w w' : World} {R : Er} {P : Prop} (h1 : R.e ≠ 0 → Below w.heap.size w w') (h2 : R.e = 0 → Only x w w' ∧ P) : Only x w w' := by
  by_cases he : R.e = 0
  · exact (h2 he).1
  · exact Below.only (h1 he) x
set_option maxRecDepth 100000 in
set_option maxHeartbeats 4000000 in
theorem play_w {E : Env} (HE : Hid (EnvOK E)) {w0 w : World} (hA : Hid (Amb w0)) {x : Nat} {fl fs : Nat → ByteArray} {k : Kp} (h : Hid (ShS E w0 w x fl fs k)) {vr vh : Value} {l : List ByteArray} {hs : List Int} (hr : Hid (RawS w0 vr l)) (hh : Hid (HowS w0 vh hs)) :
    Calls Tryz.prog 30 #[.pointer (some ⟨x, 0, none⟩), vr, vh] w fun e w' => e = .returned (.bool true) ∧ Hid (∃ fl' k', ShS E w0 w' x fl' (plF (l.take 20) fs) k' ∧ (hs = [] → fl' = fl ∧ k' = k) ∧ Only x w w') := by
  obtain ⟨ar, cr, hvr⟩ : ∃ a c, vr = .slice a l.length c := by
    rcases hr.out with ⟨rfl, rfl⟩ | ⟨a, c, rfl, _⟩
    · exact ⟨none, 0, rfl⟩
    · exact ⟨some a, c, rfl⟩
  obtain ⟨ah, ch, hvh⟩ : ∃ a c, vh = .slice a hs.length c := by
    rcases hh.out with ⟨rfl, rfl⟩ | ⟨a, c, rfl, _⟩
    · exact ⟨none, 0, rfl⟩
    · exact ⟨some a, c, rfl⟩
  subst hvr
  subst hvh
  have H0 : Hid (PlS E w0 w w x l hs fl fs k 0) := ⟨fl, k, h.out, fun _ => ⟨rfl, rfl⟩, Only.refl _ _⟩
  go_enter Tryz.func30, Tryz.ntmps30
  go_wp2_with fail
  go_loopw [7] (fun s wr => ∃ i : Nat, s = .int .i64 i ∧ Hid (i ≤ 20 ∧ i ≤ l.length) ∧ Hid (PlS E w0 w wr x l hs fl fs k i)) (fun s _ => (100 - intOf s).toNat)
  case atStart => exact ⟨0, rfl, ⟨Nat.zero_le _, Nat.zero_le _⟩, H0⟩
  case round =>
    obtain ⟨i, rfl, HI, HP⟩ := hrel
    clear H0 h
    by_cases hi : i < l.length
    · by_cases hi2 : i < 20
      · obtain ⟨n1, n2, n3, n4⟩ := plNums hi2
        have hii := lt_c hi
        obtain ⟨s, hsg⟩ : ∃ s, l[i]? = some s := ⟨_, List.getElem?_eq_getElem hi⟩
        obtain ⟨a, hra, hcap, hlm, hcl⟩ : ∃ a, ar = some a ∧ l.length ≤ cr ∧ l.length ≤ maxLen ∧ ∀ i s, l[i]? = some s → w0.cell? (a.add i) = some (.string s) ∧ s.size ≤ 9223372036854775806 := by
          rcases hr.out with ⟨_, e⟩ | ⟨a, c, e, h1, h2, h4⟩
          · rw [e] at hi; exact absurd hi (Nat.not_lt_zero _)
          · cases e; exact ⟨a, rfl, h1, h2, h4⟩
        subst hra
        obtain ⟨fl1, k1, hsh, hnil, honl⟩ := HP.out.ex
        have HON : Hid (Only x w wr) := honl
        have HSH : Hid (ShS E w0 wr x fl1 (plF (l.take i) fs) k1) := hsh
        have HNL : Hid (hs = [] → fl1 = fl ∧ k1 = k) := hnil
        have HSS : Hid (s.size ≤ 9223372036854775806) := (hcl i s hsg).2
        have hcell : wr.cell? (a.add i) = some (.string s) := by rw [hsh.bel.cell (p := a.add i) (World.block_lt_of_cell? _ _ (hcl i s hsg).1)]; exact (hcl i s hsg).1
        have HTK : Hid (l.take (i + 1) = l.take i ++ [s]) := takes_next hsg
        have HI2 : Hid (i < 20 ∧ i < l.length) := ⟨hi2, hi⟩
        clear hi hi2 HI hsg hsh hnil hcl HP honl
        go_wp2_with fail
        have HFD : Hid (FD (wr.alloc (.cells #[.string s, .int .i64 0] 30)) w0.heap.size wr.heap.size s.data.toList) := fd_new HSH.out.bel HSS.out
        have HB1 : Hid (Below wr.heap.size wr (wr.alloc (.cells #[.string s, .int .i64 0] 30))) := bl1 _ _
        generalize wr.alloc (.cells #[.string s, .int .i64 0] 30) = w1 at *
        refine (batch_w w0 w1 wr.heap.size s.data.toList hA (HSH.out.bel.trans (HB1.out.mono HSH.out.bel.size)) HFD).mono ?_
        rintro e w2 ⟨v, rfl, g2⟩
        have HB2 : Hid (Below wr.heap.size wr w2) := below_gb HB1.out g2.out.2.2 HB1.out.size (Nat.le_refl _)
        have HS2 : Hid (ShS E w0 w2 x fl1 (plF (l.take i) fs) k1) := HSH.out.below HB2.out
        have HO2 : Hid (Only x w w2) := HON.out.trans (Below.only HB2.out x)
        have HSL : Hid (Slc w2 68 2 v (bB s.data.toList).length ((bB s.data.toList).flatMap edC)) := g2.out.1
        clear g2 HFD HB1 HB2 HSH hcell
        go_wp2_with fail
        refine (edit_any w2 x v (bB s.data.toList) HS2.out.sr (hA.out.below HS2.out.bel) HSL (Nat.le_trans (bB_len _) (by decide)) (bB_sizes _)).mono ?_
        rintro e w3 ⟨rfl, g3⟩
        have HS3 : Hid (ShS E w0 w3 x fl1 (plF (l.take (i + 1)) fs) k1) := by
          have h := HS2.out.batch (w' := w3) (s := s) g3.out.1 g3.out.2
          unfold Hid
          rw [HTK.out, pl_app]; exact h
        have hec : (edR bd0 0 (bB s.data.toList) (plF (l.take i) fs)).e = 0 ∨ (edR bd0 0 (bB s.data.toList) (plF (l.take i) fs)).e = 1 := by
          rcases ed_batch (bB s.data.toList) 0 (plF (l.take i) fs) (bL_ok _ _) with ⟨g, _⟩ | g
          · exact .inl g
          · exact .inr g
        have HO3 : Hid (Only x w w3) := HO2.out.trans (ed_only g3.out.1 g3.out.2)
        clear g3 HS2 HSL HO2 HON
        generalize edR bd0 0 (bB s.data.toList) (plF (l.take i) fs) = R at *
        obtain ⟨e, ei, ep, efs⟩ := R
        dsimp only at hec
        by_cases hih : i < hs.length
        · have hihi := lt_c hih
          obtain ⟨ih, hig⟩ : ∃ z, hs[i]? = some z := ⟨_, List.getElem?_eq_getElem hih⟩
          obtain ⟨b, hrb, hcap2, hlm2, hcl2⟩ : ∃ a, ah = some a ∧ hs.length ≤ ch ∧ hs.length ≤ maxLen ∧ ∀ i s, hs[i]? = some s → w0.cell? (a.add i) = some (.int .i64 s) ∧ I64 s := by
            rcases hh.out with ⟨_, e⟩ | ⟨a, c, e, h1, h2, h4⟩
            · rw [e] at hih; exact absurd hih (Nat.not_lt_zero _)
            · cases e; exact ⟨a, rfl, h1, h2, h4⟩
          subst hrb
          have hcell2 : w3.cell? (b.add i) = some (.int .i64 ih) := by rw [HS3.out.bel.cell (p := b.add i) (World.block_lt_of_cell? _ _ (hcl2 i ih hig).1)]; exact (hcl2 i ih hig).1
          have HI64 : Hid (I64 ih) := (hcl2 i ih hig).2
          have HNE : Hid (hs ≠ []) := fun e => by rw [e] at hih; exact absurd hih (Nat.not_lt_zero _)
          clear hih hig hcl2
          by_cases hz : ih = 0
          · subst hz
            rcases hec with rfl | rfl
            all_goals
              go_wp2_with fail
              exact ⟨⟨i + 1, rfl, ⟨HI2.out.1, HI2.out.2⟩, fl1, k1, HS3.out, (fun e => absurd e HNE.out), HO3.out⟩, pl_meas HI2.out.1⟩
          · have hz2 : (ih == 0) = false := by simpa using hz
            rcases hec with rfl | rfl
            all_goals
              go_wp2_with fail
              refine (worked_s HE hA HS3 ih HI64).mono ?_
              rintro e w4 ⟨v4, k4, bg4, rfl, g4⟩
              have HS4 : Hid (ShS E w0 w4 x (plF (l.take (i + 1)) fs) (plF (l.take (i + 1)) fs) k4) := g4.out.1
              have HO4 : Hid (Only x w w4) := HO3.out.trans g4.out.2.2.1
              clear g4
              go_wp2_with fail
              exact ⟨⟨i + 1, rfl, ⟨HI2.out.1, HI2.out.2⟩, _, k4, HS4.out, (fun e => absurd e HNE.out), HO4.out⟩, pl_meas HI2.out.1⟩
        · have hihi := ge_c hih
          clear hih
          rcases hec with rfl | rfl
          all_goals
            go_wp2_with fail
            exact ⟨⟨i + 1, rfl, ⟨HI2.out.1, HI2.out.2⟩, fl1, k1, HS3.out, HNL.out, HO3.out⟩, pl_meas HI2.out.1⟩
      · have hii := lt_c hi
        have hge : ¬ (i : Int) < 20 := ge_c (n := 20) hi2
        have HF : Hid (∃ fl' k', ShS E w0 wr x fl' (plF (l.take 20) fs) k' ∧ (hs = [] → fl' = fl ∧ k' = k) ∧ Only x w wr) := by
          have h := HP.out.ex
          rw [Nat.le_antisymm HI.out.1 (Nat.le_of_not_lt hi2)] at h
          exact h
        clear hi hi2 HI HP
        go_wp2_with fail
        go_ret
        exact ⟨rfl, HF⟩
    · have hge := ge_c hi
      have HF : Hid (∃ fl' k', ShS E w0 wr x fl' (plF (l.take 20) fs) k' ∧ (hs = [] → fl' = fl ∧ k' = k) ∧ Only x w wr) := by
        have h := HP.out.ex
        have e : l.take i = l.take 20 := by
          rw [List.take_of_length_le (Nat.le_of_not_lt hi), List.take_of_length_le (Nat.le_trans (Nat.le_of_not_lt hi) HI.out.1)]
        rw [e] at h
        exact h
      clear hi HI HP
      go_wp2_with fail
      go_ret
      exact ⟨rfl, HF⟩
end Go.Proofs.YtiocnfambeochaaGreatDoor

/- Several sheets beside one another; alike. -/
set_option linter.unusedVariables false
set_option linter.unusedSimpArgs false
namespace Go.Proofs.YtiocnfambeochaaGreatDoor
open Go.RowKit

section
variable {E : Env} {w0 w w' : World} {x y : Nat} {fl fs : Nat → ByteArray} {k k' : Kp}
/-- What happens to one sheet is nothing to another. -/
theorem ShS.other (h : ShS E w0 w y fl fs k) (ho : Only x w w') (hx : w0.heap.size ≤ x) (hne : y ≠ x) (hr : ∀ cur, w.heap[x]? ≠ some (.cells cur 274 (0, 0))) : ShS E w0 w' y fl fs k :=
  ⟨h.bel.trans (ho.below hx h.bel.size), h.xB, h.sr.only ho hne hr, h.kinv, h.ft⟩
end
theorem alNums {i : Nat} (h : i < 48) : IntKind.i64.wrap ((i : Int) + 1) = (i : Int) + 1 ∧ wrap64 ((i : Int) + 1) = (i : Int) + 1 ∧ (i : Int) < 48 := ⟨by rw [IntKind.wrap_i64]; omega, by unfold wrap64; omega, by omega⟩
theorem al_meas {i : Nat} (h : i < 48) : (100 - ((i + 1 : Nat) : Int)).toNat < (100 - (i : Int)).toNat := by omega
theorem cell_nm {c : Nat} (h : c < 48) : cellN (⟨(nmT c).toArray⟩ : ByteArray).data.toList = some c := cellN_name h
set_option maxRecDepth 100000 in
set_option maxHeartbeats 4000000 in
theorem alike_w {W : World} {x y : Nat} {fs : Nat → ByteArray} {bd bd' : Nat → Int × Int} {k k' : Kp} (hx : Hid (SR W x fs bd k)) (hy : Hid (SR W y fs bd' k')) (hv : Hid (∀ c, c < 48 → (k'.last c).v = (k.last c).v)) :
    Calls Tryz.prog 31 #[.pointer (some ⟨x, 0, none⟩), .pointer (some ⟨y, 0, none⟩)] W fun e w' => e = .returned (.bool true) ∧ Below W.heap.size W w' := by
  go_enter Tryz.func31, Tryz.ntmps31
  go_wp2_with fail
  go_loopw [5] (fun s wr => ∃ i : Nat, s = .int .i64 i ∧ Hid (i ≤ 48) ∧ Hid (Below W.heap.size W wr)) (fun s _ => (100 - intOf s).toNat)
  case atStart => exact ⟨0, rfl, Nat.zero_le _, Below.refl _ _⟩
  case round =>
    obtain ⟨i, rfl, HI, HB⟩ := hrel
    by_cases hi : i < 48
    · obtain ⟨n1, n2, n3⟩ := alNums hi
      have HII : Hid (i < 48) := hi
      have HV : Hid ((k'.last i).v = (k.last i).v) := hv.out i hi
      clear hi HI
      go_wp2_with fail
      refine (name_any i HII.out _).mono ?_
      rintro e u1 ⟨rfl, b1⟩
      have HB1 : Hid (Below W.heap.size W u1) := HB.out.trans (b1.mono HB.out.size)
      clear b1 HB
      go_wp2_with fail
      refine (formula_some u1 x (hx.out.below HB1.out) _ i (cell_nm HII.out)).mono ?_
      rintro e u2 ⟨rfl, b2⟩
      have HB2 : Hid (Below W.heap.size W u2) := HB1.out.trans (b2.mono HB1.out.size)
      clear b2 HB1
      go_wp2_with fail
      refine (name_any i HII.out _).mono ?_
      rintro e u3 ⟨rfl, b3⟩
      have HB3 : Hid (Below W.heap.size W u3) := HB2.out.trans (b3.mono HB2.out.size)
      clear b3 HB2
      go_wp2_with fail
      refine (formula_some u3 y (hy.out.below HB3.out) _ i (cell_nm HII.out)).mono ?_
      rintro e u4 ⟨rfl, b4⟩
      have HB4 : Hid (Below W.heap.size W u4) := HB3.out.trans (b4.mono HB3.out.size)
      clear b4 HB3
      go_wp2_with fail
      refine (name_any i HII.out _).mono ?_
      rintro e u5 ⟨rfl, b5⟩
      have HB5 : Hid (Below W.heap.size W u5) := HB4.out.trans (b5.mono HB4.out.size)
      clear b5 HB4
      go_wp2_with fail
      refine (value_some u5 x (hx.out.below HB5.out) _ i (cell_nm HII.out)).mono ?_
      rintro e u6 ⟨rfl, b6⟩
      have HB6 : Hid (Below W.heap.size W u6) := HB5.out.trans (b6.mono HB5.out.size)
      clear b6 HB5
      obtain ⟨q, hq⟩ : ∃ q, (k.last i).v = q := ⟨_, rfl⟩
      rw [hq] at HV
      rw [hq]
      clear hq
      go_wp2_with fail
      have HQ7 : Hid ((u6.alloc (.cells #[.int .i64 q.k, .int .i64 q.n, .string q.s] 52)).heap[u6.heap.size]? = some (.cells #[.int .i64 q.k, .int .i64 q.n, .string q.s] 52 (0, 0))) := rnew _ _ _
      have HB7 : Hid (Below W.heap.size W (u6.alloc (.cells #[.int .i64 q.k, .int .i64 q.n, .string q.s] 52))) := HB6.out.alloc HB6.out.size _
      clear HB6
      generalize u6.alloc (.cells #[.int .i64 q.k, .int .i64 q.n, .string q.s] 52) = u7 at *
      generalize u6.heap.size = p7 at *
      refine (name_any i HII.out _).mono ?_
      rintro e u8 ⟨rfl, b8⟩
      have HB8 : Hid (Below W.heap.size W u8) := HB7.out.trans (b8.mono HB7.out.size)
      have HQ8 : Hid (u8.heap[p7]? = some (.cells #[.int .i64 q.k, .int .i64 q.n, .string q.s] 52 (0, 0))) := by unfold Hid; rw [b8.block _ (Array.getElem?_eq_some_iff.1 HQ7.out).1]; exact HQ7.out
      clear b8 HB7 HQ7
      go_wp2_with fail
      refine (value_some u8 y (hy.out.below HB8.out) _ i (cell_nm HII.out)).mono ?_
      rintro e u9 ⟨rfl, b9⟩
      have HB9 : Hid (Below W.heap.size W u9) := HB8.out.trans (b9.mono HB8.out.size)
      have HQ9 : Hid (u9.heap[p7]? = some (.cells #[.int .i64 q.k, .int .i64 q.n, .string q.s] 52 (0, 0))) := by unfold Hid; rw [b9.block _ (Array.getElem?_eq_some_iff.1 HQ8.out).1]; exact HQ8.out
      rw [HV.out]
      clear b9 HB8 HQ8
      have HLT : Hid (p7 < u9.heap.size) := (Array.getElem?_eq_some_iff.1 HQ9.out).1
      obtain ⟨z0, z1, z2, z3, z4, z5⟩ := box3 rfl (show (u9.alloc (.cells #[.int .i64 q.k, .int .i64 q.n, .string q.s] 52)).heap[p7]? = some (.cells #[.int .i64 q.k, .int .i64 q.n, .string q.s] 52 (0, 0)) by rw [Below.heap_alloc _ _ _ HLT.out]; exact HQ9.out)
      go_wp2_with fail
      exact ⟨⟨i + 1, rfl, HII.out, HB9.out.alloc HB9.out.size _⟩, al_meas HII.out⟩
    · have hge : ¬ (i : Int) < 48 := ge_c (n := 48) hi
      clear hi HI
      go_wp2_with fail
      go_ret
      exact ⟨rfl, HB.out⟩
end Go.Proofs.YtiocnfambeochaaGreatDoor
