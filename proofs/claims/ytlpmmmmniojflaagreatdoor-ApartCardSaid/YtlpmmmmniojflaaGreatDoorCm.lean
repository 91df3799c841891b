/- The compiler in memory: kind, take, emit, put. -/
import Derived.Test.YtlpmmmmniojflaaGreatDoorQ21
import Derived.Test.YtlpmmmmniojflaaGreatDoorQ11
set_option linter.unusedVariables false
set_option linter.unusedSimpArgs false
namespace Go.Proofs.YtlpmmmmniojflaaGreatDoor
open Go.RowKit
def TkOK (t : Tk) : Prop := (t.k = 1 → t.x ≠ [] ∧ (∀ c ∈ t.x, dgB (c.toNat : Int) = true) ∧ t.x.length ≤ 19) ∧ (t.k = 2 → 2 ≤ t.x.length ∧ t.x.length ≤ 1000) ∧ t.x.length ≤ 1000
structure CW (w : World) (cb : Nat) (cv : Value) (ts : List Tk) (code : List Ins) : Prop where
  blk : ∃ lv, w.heap[cb]? = some (.cells #[lv, cv] 312 (0, 0)) ∧ Slc w 142 3 lv ts.length (ts.flatMap tkCells) ∧ ∀ g, lv.ownBlock = some g → g ≠ cb ∧ cv.ownBlock ≠ some g
  code : Slc w 303 6 cv code.length (code.flatMap insC)
  cb : cv.ownBlock ≠ some cb
  tok : ∀ t ∈ ts, TkOK t
structure CC (cb : Nat) (w w' : World) (cv cv' : Value) : Prop where
  os : w'.os = w.os
  tape : w'.tape = w.tape
  output : w'.output = w.output
  size : w.heap.size ≤ w'.heap.size
  keep : ∀ k, k < w.heap.size → k ≠ cb → cv.ownBlock ≠ some k → w'.heap[k]? = w.heap[k]?
  row : cv'.ownBlock = cv.ownBlock ∨ ∃ g, cv'.ownBlock = some g ∧ w.heap.size ≤ g
theorem CC.refl (cb : Nat) (w : World) (cv : Value) : CC cb w w cv cv := ⟨rfl, rfl, rfl, Nat.le_refl _, fun _ _ _ _ => rfl, .inl rfl⟩
theorem CC.trans {cb : Nat} {a b c : World} {u v x : Value} (h : CC cb a b u v) (g : CC cb b c v x) : CC cb a c u x where
  os := g.os.trans h.os
  tape := g.tape.trans h.tape
  output := g.output.trans h.output
  size := Nat.le_trans h.size g.size
  keep := fun k hk h1 h2 => by
    rw [g.keep k (Nat.lt_of_lt_of_le hk h.size) h1, h.keep k hk h1 h2]
    intro e
    rcases h.row with hr | ⟨g', hr, hg⟩
    · rw [hr] at e; exact h2 e
    · rw [hr] at e; cases e; omega
  row := by
    rcases g.row with hr | ⟨g', hr, hg⟩
    · rcases h.row with hr2 | ⟨g2, hr2, hg2⟩
      · exact .inl (hr.trans hr2)
      · exact .inr ⟨g2, hr.trans hr2, hg2⟩
    · exact .inr ⟨g', hr, Nat.le_trans h.size hg⟩
theorem CC.below {cb : Nat} {w w' : World} (cv : Value) (h : Below w.heap.size w w') : CC cb w w' cv cv := ⟨h.os, h.tape, h.output, h.size, fun k hk _ _ => h.block k hk, .inl rfl⟩
theorem CW.below {w w' : World} {cb : Nat} {cv : Value} {ts : List Tk} {code : List Ins} (h : CW w cb cv ts code) (hb : Below w.heap.size w w') : CW w' cb cv ts code where
  blk := by
    obtain ⟨lv, h1, h2, h3⟩ := h.blk
    exact ⟨lv, by rw [hb.block cb (Array.getElem?_eq_some_iff.1 h1).1]; exact h1, h2.kept fun g hg => hb.block g (h2.lt g hg), h3⟩
  code := h.code.kept fun g hg => hb.block g (h.code.lt g hg)
  cb := h.cb
  tok := h.tok
theorem CW.lt {w : World} {cb : Nat} {cv : Value} {ts : List Tk} {code : List Ins} (h : CW w cb cv ts code) : cb < w.heap.size := by
  obtain ⟨lv, h1, _⟩ := h.blk
  exact (Array.getElem?_eq_some_iff.1 h1).1
theorem CC.box {cb : Nat} {w w' : World} {cv cv' : Value} {ts : List Tk} {code : List Ins} (h : CC cb w w' cv cv') {q : Nat} (hq : q < w.heap.size) (h1 : q ≠ cb) (h2 : cv.ownBlock ≠ some q) : w'.heap[q]? = w.heap[q]? := h.keep q hq h1 h2
theorem tkC_len (t : Tk) : (tkCells t).length = 3 := rfl
theorem CW.head {w : World} {cb : Nat} {cv : Value} {t : Tk} {ts : List Tk} {code : List Ins} (h : CW w cb cv (t :: ts) code) : ∃ g o cap, w.heap[cb]? = some (.cells #[.slice (some ⟨g, o, none⟩) (ts.length + 1) cap, cv] 312 (0, 0)) ∧ ts.length + 1 ≤ cap ∧ cap ≤ maxLen ∧ g ≠ cb ∧ g < w.heap.size ∧
    w.cell? ⟨g, o, none⟩ = some (.int .i64 t.k) ∧ w.cell? ⟨g, o + 1, none⟩ = some (.string ⟨t.x.toArray⟩) ∧ w.cell? ⟨g, o + 2, none⟩ = some (.int .i64 t.p) ∧ Slc w 142 3 (.slice (some ⟨g, o + 3, none⟩) ts.length (cap - 1)) ts.length (ts.flatMap tkCells) ∧ Slc w 142 3 (.slice (some ⟨g, o, none⟩) 0 0) 0 [] ∧ cv.ownBlock ≠ some g := by
  obtain ⟨lv, h1, h2, h3⟩ := h.blk
  rcases h2.2 with ⟨_, h0⟩ | ⟨g, o, cap, cur, rfl, hg, hn, hc, hs, ht⟩
  · simp at h0
  · have c := fun j u hj => h2.cell j u hj
    rw [List.length_cons] at h1 hn
    refine ⟨g, o, cap, h1, hn, hc, (h3 g rfl).1, (Array.getElem?_eq_some_iff.1 hg).1, c 0 _ rfl, c 1 _ rfl, c 2 _ rfl, ⟨by rw [flatLen3 tkC_len], ?_⟩, ⟨by simp, .inr ⟨g, o, 0, cur, rfl, hg, by omega, by omega, by omega, by simp⟩⟩, (h3 g rfl).2⟩
    refine .inr ⟨g, o + 3, cap - 1, cur, rfl, hg, by omega, by omega, by omega, ?_⟩
    have e : (cur.toList.drop o).take ((ts.length + 1) * 3) = tkCells t ++ ts.flatMap tkCells := ht
    have e2 : cur.toList.drop (o + 3) = (cur.toList.drop o).drop 3 := by rw [List.drop_drop]
    rw [e2, show ts.length * 3 = (ts.length + 1) * 3 - 3 by omega, ← List.drop_take, e]
    rfl
theorem CW.empty {w : World} {cb : Nat} {cv : Value} {code : List Ins} (h : CW w cb cv [] code) : ∃ q cap, w.heap[cb]? = some (.cells #[.slice q 0 cap, cv] 312 (0, 0)) := by
  obtain ⟨lv, h1, h2, h3⟩ := h.blk
  obtain ⟨q, cap, rfl⟩ := h2.len
  exact ⟨q, cap, h1⟩
theorem CW.tail {w : World} {cb : Nat} {cv lv nv : Value} {t : Tk} {ts : List Tk} {code : List Ins} {g : Nat} (h : CW w cb cv (t :: ts) code) (hb : w.heap[cb]? = some (.cells #[lv, cv] 312 (0, 0)))
    (hs : Slc w 142 3 nv ts.length (ts.flatMap tkCells)) (hv : nv.ownBlock = some g) (hg : g ≠ cb) (hc : cv.ownBlock ≠ some g) : CW (w.setCell ⟨cb, 0, none⟩ nv) cb cv ts code where
  blk := ⟨_, rset hb, hs.kept fun k hk => Below.heap_setCell _ _ _ _ (by rw [hv] at hk; cases hk; exact hg), fun k hk => by rw [hv] at hk; cases hk; exact ⟨hg, hc⟩⟩
  code := h.code.kept fun k hk => Below.heap_setCell _ _ _ _ (fun e => h.cb (by rw [hk, e]))
  cb := h.cb
  tok := fun x hx => h.tok x (List.mem_cons_of_mem _ hx)
theorem CC.set (cb : Nat) (w : World) (cv v : Value) (j : Nat) : CC cb w (w.setCell ⟨cb, j, none⟩ v) cv cv := ⟨rfl, rfl, rfl, by simp [World.setCell], fun k _ hk _ => Below.heap_setCell _ _ _ _ hk, .inl rfl⟩
def CCs (cb : Nat) (w : World) (cv : Value) (w' : World) (ts : List Tk) (code : List Ins) : Prop := ∃ cv', CW w' cb cv' ts code ∧ CC cb w w' cv cv'
theorem CCs.comp {cb : Nat} {w w1 w2 : World} {cv cv1 : Value} {ts : List Tk} {code : List Ins} (h : CC cb w w1 cv cv1) (g : CCs cb w1 cv1 w2 ts code) : CCs cb w cv w2 ts code := by
  obtain ⟨c, h1, h2⟩ := g
  exact ⟨c, h1, h.trans h2⟩
theorem CCs.then {cb : Nat} {w w1 w2 : World} {cv : Value} {ts : List Tk} {code : List Ins} (h : CCs cb w cv w1 ts code) (g : Below w1.heap.size w1 w2) : CCs cb w cv w2 ts code := by
  obtain ⟨c, h1, h2⟩ := h
  exact ⟨c, h1.below g, h2.trans (CC.below c g)⟩
set_option maxRecDepth 100000 in
set_option maxHeartbeats 2000000 in
theorem ckind_w (w : World) (cb : Nat) (cv : Value) (ts : List Tk) (code : List Ins) (h : Hid (CW w cb cv ts code)) :
    Calls Tryz.prog 250 #[.pointer (some ⟨cb, 0, none⟩)] w fun e w' => e = .returned (.int .i64 (hk ts)) ∧ w' = w := by
  cases ts with
  | nil =>
    obtain ⟨q, cap, hb⟩ := h.out.empty
    have c0 := boxc hb 0 (.slice q 0 cap) rfl
    clear hb
    go_enter Tryz.func250, Tryz.ntmps250
    go_wp2_with fail
    go_ret
    exact ⟨rfl, rfl⟩
  | cons t ts =>
    obtain ⟨g, o, cap, hb, hn, hc, hg, hgl, k0, k1, k2, _⟩ := h.out.head
    have c0 := boxc hb 0 (.slice (some ⟨g, o, none⟩) (ts.length + 1) cap) rfl
    have h0 : ((ts.length : Int) + 1 == 0) = false := by simp; omega
    have h1 : (0 : Int) < (ts.length : Int) + 1 := by omega
    clear hb hgl hg hc
    go_enter Tryz.func250, Tryz.ntmps250
    go_wp2_with fail
    go_ret
    exact ⟨rfl, rfl⟩
theorem info142 : (Tryz.prog.info? 142).map (·.size) = some 3 := by kernel_rfl
def tkV (t : Tk) : Value := .agg #[.int .i64 t.k, .string ⟨t.x.toArray⟩, .int .i64 t.p]
def tk0' : Tk := ⟨0, [], 0⟩
def hd0 (ts : List Tk) : Tk := match ts with | t :: _ => t | [] => tk0'
set_option maxRecDepth 100000 in
set_option maxHeartbeats 2000000 in
theorem ctake_w (w : World) (cb : Nat) (cv : Value) (ts : List Tk) (code : List Ins) (h : Hid (CW w cb cv ts code)) :
    Calls Tryz.prog 251 #[.pointer (some ⟨cb, 0, none⟩)] w fun e w' => e = .returned (tkV (hd0 ts)) ∧ Hid (CW w' cb cv ts.tail code ∧ CC cb w w' cv cv) := by
  have hlt := h.out.lt
  have n1 : cb ≠ w.heap.size := by omega
  have n2 : w.heap.size ≠ cb := by omega
  cases ts with
  | nil =>
    obtain ⟨q, cap, hb⟩ := h.out.empty
    have c0 := al (boxc hb 0 (.slice q 0 cap) rfl)
    clear hb
    go_enter Tryz.func251, Tryz.ntmps251
    go_wp2_with fail
    go_returns
    exact ⟨rfl, h.out.below (bl1 _ _), CC.below _ (bl1 _ _)⟩
  | cons t ts =>
    obtain ⟨g, o, cap, hb, hn, hc, hg, hgl, k0, k1, k2, hs, hs0, hcg⟩ := h.out.head
    have c0 := boxc hb 0 (.slice (some ⟨g, o, none⟩) (ts.length + 1) cap) rfl
    have h0 : ((ts.length : Int) + 1 == 0) = false := by simp; omega
    have h1 : (0 : Int) < (ts.length : Int) + 1 := by omega
    have hfz : w.frozen? ⟨cb, 0, none⟩ = false := by simp [World.frozen?, hb]
    have HB : Hid _ := hb
    have HS : Hid (Slc w 142 3 (.slice (some ⟨g, o + 3, none⟩) ts.length (cap - 1)) ts.length (ts.flatMap tkCells)) := hs
    have HS0 : Hid (Slc w 142 3 (.slice (some ⟨g, o, none⟩) 0 0) 0 []) := hs0
    have HG : Hid _ := hg
    have HCG : Hid _ := hcg
    have c0' := al c0
    have hfz' := afz hfz hlt
    have k0' := al k0
    have k1' := al k1
    have k2' := al k2
    have k0'' := fun z1 z2 => al (al k0 z1) z2
    have k1'' := fun z1 z2 => al (al k1 z1) z2
    have k2'' := fun z1 z2 => al (al k2 z1) z2
    have c0'' := fun z1 z2 => al (al c0 z1) z2
    have hfz'' := fun z1 z2 => afz (afz hfz hlt z1) (by simp; omega) z2
    have m1 : cb ≠ w.heap.size + 1 := by omega
    have m2 : w.heap.size + 1 ≠ cb := by omega
    clear hb hs hs0
    unfold maxLen at hc
    by_cases hc1 : cap = 1
    · subst hc1
      have e0 : ts = [] := List.eq_nil_of_length_eq_zero (by omega)
      subst e0
      go_enter Tryz.func251, Tryz.ntmps251
      go_wp2_with fail
      go_returns
      exact ⟨rfl, (h.out.tail HB.out HS0.out rfl HG.out HCG.out).below (bl2 _ _ _), (CC.set _ _ _ _ _).trans (CC.below _ (bl2 _ _ _))⟩
    · go_enter Tryz.func251, Tryz.ntmps251
      go_wp2_with fail
      go_returns
      exact ⟨rfl, (h.out.tail HB.out HS.out rfl HG.out HCG.out).below (bl2 _ _ _), (CC.set _ _ _ _ _).trans (CC.below _ (bl2 _ _ _))⟩
theorem Tryz.info303 : (Tryz.prog.info? 303).map (fun i => (i.zero, i.size, i.bytes)) = some (some (.agg #[.int .i64 0, .int .i64 0, .int .i64 0, .string ⟨#[]⟩, .int .i64 0, .int .i64 0]), 6, 56) := by kernel_rfl
theorem emit_close {w W w1 : World} {cb : Nat} {cv v1 : Value} {ts : List Tk} {code : List Ins} {i : Ins} (h : CW w cb cv ts code) (hW : Below w.heap.size w W) (hg : W.grownBy w1 cv.ownBlock)
    (hob : (v1.ownBlock = cv.ownBlock ∧ cv.ownBlock ≠ none) ∨ (v1.ownBlock = some W.heap.size ∧ W.grownBy w1 none)) (hsl : Slc w1 303 6 v1 (code.length + 1) (code.flatMap insC ++ insC i)) :
    CCs cb w cv (w1.setCell ⟨cb, 1, none⟩ v1) ts (code ++ [i]) := by
  obtain ⟨lv, h1, h2, h3⟩ := h.blk
  have hlt := h.lt
  have hcb : some cb ≠ cv.ownBlock := fun e => h.cb e.symm
  have hkeep : ∀ k, k < w.heap.size → cv.ownBlock ≠ some k → w1.heap[k]? = w.heap[k]? := fun k hk hn => by
    rw [hg.block k (Nat.lt_of_lt_of_le hk hW.size) (fun e => hn e.symm), hW.block k hk]
  have hb1 : w1.heap[cb]? = some (.cells #[lv, cv] 312 (0, 0)) := by rw [hkeep cb hlt h.cb]; exact h1
  have hrow : v1.ownBlock = cv.ownBlock ∨ ∃ g, v1.ownBlock = some g ∧ w.heap.size ≤ g := by
    rcases hob with ⟨e, _⟩ | ⟨e, _⟩
    · exact .inl e
    · exact .inr ⟨_, e, hW.size⟩
  have hvcb : v1.ownBlock ≠ some cb := by
    rcases hrow with e | ⟨g, e, hge⟩
    · rw [e]; exact h.cb
    · rw [e]; intro e2; cases e2; omega
  refine ⟨v1, { blk := ⟨lv, rset hb1, h2.kept fun g hgl => ?_, fun g hgl => ⟨(h3 g hgl).1, ?_⟩⟩, code := ?_, cb := hvcb, tok := h.tok }, ⟨hg.os.trans hW.os, hg.tape.trans hW.tape, hg.output.trans hW.output, ?_, fun k hk hkc hkn => ?_, hrow⟩⟩
  · rw [Below.heap_setCell _ _ _ _ (h3 g hgl).1, hkeep g (h2.lt g hgl) (h3 g hgl).2]
  · rcases hrow with e | ⟨g', e, hge⟩
    · rw [e]; exact (h3 g hgl).2
    · rw [e]; intro e2; cases e2; have := h2.lt _ hgl; omega
  · rw [List.length_append, List.flatMap_append, List.flatMap_singleton]
    exact hsl.kept fun g hgl => Below.heap_setCell _ _ _ _ (fun e => hvcb (by rw [hgl]; congr 1))
  · have := Nat.le_trans hW.size hg.size
    simpa [World.setCell] using this
  · rw [Below.heap_setCell _ _ _ _ hkc, hkeep k hk hkn]
set_option maxRecDepth 100000 in
set_option maxHeartbeats 4000000 in
theorem emit_w (w : World) (cb : Nat) (cv : Value) (ts : List Tk) (code : List Ins) (i : Ins) (h : Hid (CW w cb cv ts code)) (hl : code.length ≤ 100000) :
    Calls Tryz.prog 252 #[.pointer (some ⟨cb, 0, none⟩), insV i.op i.v i.cell i.to] w fun e w' => e = .returned (.int .i64 code.length) ∧ Hid (CCs cb w cv w' ts (code ++ [i])) := by
  obtain ⟨i0, hi, hz0, hz1, hz2⟩ := info_parts Tryz.info303
  obtain ⟨lv, h1, _, _⟩ := h.out.blk
  have hlt := h.out.lt
  have c1 := boxc h1 1 cv rfl
  have n1 : cb ≠ w.heap.size := by omega
  have n2 : w.heap.size ≠ cb := by omega
  have m1 : cb ≠ w.heap.size + 1 := by omega
  have m2 : w.heap.size + 1 ≠ cb := by omega
  have hfz : w.frozen? ⟨cb, 1, none⟩ = false := by simp [World.frozen?, h1]
  have hne : Hid (some cb ≠ cv.ownBlock) := fun e => h.out.cb e.symm
  have HL : Hid (code.length ≤ 100000) := hl
  have c1' := fun z => al c1 z
  have c1'' := fun z1 z2 => al (al c1 z1) z2
  have hfz' := fun z => afz hfz hlt z
  have hfz'' := fun z1 z2 => afz (afz hfz hlt z1) (by simp; omega) z2
  have hw1 : wrap64 ((code.length : Int) + 1 - 1) = code.length := by unfold wrap64; omega
  have hw2 : IntKind.i64.wrap ((code.length : Int) + 1 - 1) = code.length := by rw [IntKind.wrap_i64]; omega
  have hw3 : (code.length : Int) + 1 - 1 = code.length := by omega
  have hw4 : IntKind.i64.wrap (code.length : Int) = code.length := by rw [IntKind.wrap_i64]; omega
  clear h1 hl
  unfold insV
  go_enter Tryz.func252, Tryz.ntmps252
  go_wp2_with fail
  go_region_law ((refine step_append_sl (by rfl) _ _ _ (by rfl) 303 i0 _ 6 56 Tryz.underlying175 hi hz0 hz1 hz2 rfl cv code.length (code.flatMap insC) (by rfl) (by first | exact ((h.out.code.al _).al _).drew | exact ((h.out.code.al _).drew.al _)) ⟨w.heap.size + 1, 0, none⟩ 1 1 (insC i) (by rfl) (by decide) (by rfl) (World.news_of_block (cs := #[.int .i64 i.op, .int .i64 i.v.k, .int .i64 i.v.n, .string i.v.s, .int .i64 i.cell, .int .i64 i.to]) (t := 303) (fr := (0, 0)) (by first | exact news2 w _ _ | exact news2d w _ _)) (by simp [insC, Value.oneCell']) (by have := HL.out; unfold maxLen; omega) (by have := HL.out; omega) ?_; intro v1 w1 hsl hgrow hob; obtain ⟨q1, cp1, hq1⟩ := Slc.len hsl; subst hq1; have d1 := grown_cell hgrow (q := cb) (j := 1) (v := cv) (by first | exact c1'' _ _ | simp [c1'']) hne.out; have f1 := grown_frozen hgrow (q := cb) (j := 1) (v := cv) (by first | exact c1'' _ _ | simp [c1'']) (by first | exact hfz'' _ _ | simp [hfz'']) hne.out))
  all_goals
    go_wp2_with fail
    go_ret
    refine ⟨?_, emit_close h.out ((bl2 _ _ _).drew) hgrow hob hsl⟩
    first | rfl | (simp only [hw1, hw2, hw3, hw4]) | (congr 2; omega)
set_option maxHeartbeats 2000000 in
theorem cput_w (w : World) (cb : Nat) (cv : Value) (ts : List Tk) (code : List Ins) (v : V) (h : Hid (CW w cb cv ts code)) (hl : code.length ≤ 100000) :
    Calls Tryz.prog 262 #[.pointer (some ⟨cb, 0, none⟩), vV v] w fun e w' => e = .returned (.tuple #[]) ∧ Hid (CCs cb w cv w' ts (code ++ [iPut v])) := by
  have HL : Hid (code.length ≤ 100000) := hl
  clear hl
  unfold vV
  go_enter Tryz.func262, Tryz.ntmps262
  go_wp2_with fail
  refine (emit_w _ cb cv ts code (iPut v) (h.out.below (bl1 _ _)) HL.out).mono ?_
  rintro e w1 ⟨rfl, h1⟩
  have H1 : Hid (CCs cb w cv w1 ts (code ++ [iPut v])) := CCs.comp (CC.below _ (bl1 _ _)) h1.out
  clear h1
  go_wp2_with fail
  refine bodyPost_end (results_none rfl _ _ _) rfl ?_
  exact ⟨rfl, H1⟩
set_option maxHeartbeats 2000000 in
theorem ofSign_w (k : Int) (w : World) : Calls Tryz.prog 253 #[.int .i64 k] w fun e w' => e = .returned (.int .i64 (signOp k)) ∧ w' = w := by
  by_cases h16 : k = 16
  · subst h16; go_enter Tryz.func253, Tryz.ntmps253; go_wp2_with fail; go_ret; exact ⟨rfl, rfl⟩
  by_cases h17 : k = 17
  · subst h17; go_enter Tryz.func253, Tryz.ntmps253; go_wp2_with fail; go_ret; exact ⟨rfl, rfl⟩
  by_cases h18 : k = 18
  · subst h18; go_enter Tryz.func253, Tryz.ntmps253; go_wp2_with fail; go_ret; exact ⟨rfl, rfl⟩
  by_cases h19 : k = 19
  · subst h19; go_enter Tryz.func253, Tryz.ntmps253; go_wp2_with fail; go_ret; exact ⟨rfl, rfl⟩
  by_cases h20 : k = 20
  · subst h20; go_enter Tryz.func253, Tryz.ntmps253; go_wp2_with fail; go_ret; exact ⟨rfl, rfl⟩
  by_cases h21 : k = 21
  · subst h21; go_enter Tryz.func253, Tryz.ntmps253; go_wp2_with fail; go_ret; exact ⟨rfl, rfl⟩
  have b16 : (k == 16) = false := by simpa using h16
  have b17 : (k == 17) = false := by simpa using h17
  have b18 : (k == 18) = false := by simpa using h18
  have b19 : (k == 19) = false := by simpa using h19
  have b20 : (k == 20) = false := by simpa using h20
  have b21 : (k == 21) = false := by simpa using h21
  have HS : Hid (signOp k = 11) := by unfold Hid signOp; rw [if_neg h16, if_neg h17, if_neg h18, if_neg h19, if_neg h20, if_neg h21]
  clear h16 h17 h18 h19 h20 h21
  go_enter Tryz.func253, Tryz.ntmps253
  go_wp2_with fail
  go_ret
  rw [HS.out]
  exact ⟨rfl, rfl⟩
def SgS (w : World) (v : Value) (l : List Int) : Prop := ∃ g, v = .slice (some ⟨g, 0, none⟩) l.length l.length ∧ w.heap[g]? = some (.cells (l.map (fun k => Value.int .i64 k)).toArray 140 (0, 0))
set_option maxHeartbeats 2000000 in
theorem contains_w (w : World) (v : Value) (l : List Int) (k : Int) (h : Hid (SgS w v l)) (hl : l.length ≤ 10) : Calls Tryz.prog 249 #[v, .int .i64 k] w fun e w' => e = .returned (.bool (decide (k ∈ l))) ∧ w' = w := by
  obtain ⟨g, rfl, hg⟩ := h.out
  have HL : Hid (l.length ≤ 10) := hl
  have hc : ∀ j q, l[j]? = some q → w.cell? ⟨g, j, none⟩ = some (.int .i64 q) := fun j q hj => by
    rw [cell_of_row w g j _ 140 (0, 0) hg]; simp [hj]
  have HC : Hid _ := hc
  have HI : Hid (Calls Tryz.prog 260 #[.slice (some ⟨g, 0, none⟩) l.length l.length, .int .i64 k] w fun e w' => ∃ r : Int, e = .returned (.int .i64 r) ∧ w' = w ∧ (0 ≤ r ↔ k ∈ l)) := by
    unfold Hid
    clear hc hg h hl
    go_enter Tryz.func260, Tryz.ntmps260
    go_wp2_with fail
    go_loopw [8] (fun x wr => ∃ j : Nat, j ≤ l.length ∧ x = .int .i64 j ∧ wr = w ∧ Hid (k ∈ l ↔ k ∈ l.drop j)) (fun x _ => l.length - (intOf x).toNat)
    case atStart => exact ⟨0, by omega, rfl, rfl, by unfold Hid; simp⟩
    case round =>
      obtain ⟨j, hj, rfl, rfl, HM⟩ := hrel
      by_cases hlt : j < l.length
      · have hlti : (j : Int) < (l.length : Int) := by omega
        have hge : 0 ≤ (j : Int) := by omega
        obtain ⟨q, hq⟩ : ∃ q, l[j]? = some q := ⟨_, List.getElem?_eq_getElem hlt⟩
        have c := HC.out j q hq
        have hd : l.drop j = q :: l.drop (j + 1) := by
          rw [List.drop_eq_getElem_cons hlt]
          congr 1
          exact (List.getElem?_eq_some_iff.1 hq).2
        by_cases he : k = q
        · have he' : (k == q) = true := by simpa using he
          have HK : Hid (k ∈ l) := by unfold Hid; rw [HM.out, hd, he]; simp
          clear he hd hq
          go_wp2_with fail
          go_ret
          exact ⟨j, rfl, rfl, ⟨fun _ => HK.out, fun _ => by omega⟩⟩
        · have he' : (k == q) = false := by simpa using he
          have HM' : Hid (k ∈ l ↔ k ∈ l.drop (j + 1)) := by
            unfold Hid; rw [HM.out, hd, List.mem_cons]
            exact ⟨fun h => h.resolve_left he, fun h => .inr h⟩
          have := HL.out
          have hw1 : wrap64 ((j : Int) + 1) = ((j + 1 : Nat) : Int) := by unfold wrap64; omega
          clear he hd hq
          go_wp2_with fail
          go_roundw
          case rel => exact ⟨j + 1, by omega, by go_num, trivial, HM'⟩
          case measure => simp [intOf]; omega
      · have hlti : ¬ (j : Int) < (l.length : Int) := by omega
        have HK : Hid (¬ k ∈ l) := by unfold Hid; rw [HM.out, List.drop_eq_nil_of_le (by omega)]; simp
        go_wp2_with fail
        go_ret
        exact ⟨-1, rfl, rfl, ⟨fun h => absurd h (by decide), fun h => absurd h HK.out⟩⟩
  clear HC hc
  go_enter Tryz.func249, Tryz.ntmps249
  go_wp2_with fail
  refine HI.out.mono ?_
  rintro e w1 ⟨r, rfl, rfl, hr⟩
  have HR : Hid _ := hr
  by_cases h0 : 0 ≤ r
  · clear hr
    go_wp2_with fail
    go_ret
    exact ⟨ret_bool (by simp [HR.out.1 h0, h0]), rfl⟩
  · clear hr
    go_wp2_with fail
    go_ret
    exact ⟨ret_bool (by have : ¬ k ∈ l := fun h => absurd (HR.out.2 h) (by omega); simp [this]; omega), rfl⟩
end Go.Proofs.YtlpmmmmniojflaaGreatDoor
