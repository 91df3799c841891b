/- Texts put together. -/
import Derived.Test.YtiocnfambeochaaGreatDoorQ10
import Derived.Deep.RegionLaw
import Derived.Deep.AppendLies
import Derived.Deep.RegionWith
import Derived.Test.YtiocnfambeochaaGreatDoorQ02
import Derived.RegionTactic
import Derived.BigRegion
import Derived.Deep.LoopGhost
/- The machine in memory: put. -/
set_option linter.unusedVariables false
set_option linter.unusedSimpArgs false
namespace Go.Proofs.YtiocnfambeochaaGreatDoor
open Go.RowKit
theorem step_append_sl {P : Program} {w : World} {ops : Array Oper} {op : Oper} {a : Act} {K : Act → World → Prop} {Q : Exit → Act → World → Prop} {E : Prop} (hgd : op.guard = none) (s x : Operand) (t : TypeId)
    (ho : op.op = .call { callee := .builtin .append, args := #[s, x], argTypes := #[t, t] })
    (e : TypeId) (i : TypeInfo) (z : Value) (size bytes : Nat) (ht : P.underlying t = some (.slice e)) (hi : P.info? e = some i) (hz : i.zero = some z)
    (hsize : i.size = size) (hby : i.bytes = bytes) (hzs : z.cells.size = size)
    (v : Value) (n : Nat) (xs : List Value) (hs : a.eval s = v) (hown : Slc w e size v n xs)
    (ad : Addr) (m c : Nat) (news : List Value) (hx : a.eval x = .slice (some ad) m c) (hm0 : 0 < m) (hl : news.length = m * size) (hnews : ∀ j u, news[j]? = some u → w.cell? (ad.add j) = some u) (h1 : ∀ u ∈ news, u.oneCell' = true)
    (h63 : n + m ≤ maxLen) (hbytes : (n + m) * bytes ≤ 140737488355328)
    (h : ∀ v' w', Slc w' e size v' (n + m) (xs ++ news) → w.grownBy w' v.ownBlock → ((v'.ownBlock = v.ownBlock ∧ v.ownBlock ≠ none) ∨ (v'.ownBlock = some w.heap.size ∧ w.grownBy w' none)) → K (a.put op.dst v') w') :
    if Region.wanted op (yielded ops a.tmps) = true then Oper.wp P op a w K Q else E := by
  have hw : Region.wanted op (yielded ops a.tmps) = true := by simp [Region.wanted, hgd]
  rw [if_pos hw]
  obtain ⟨v', w', hr, h2, h3, h4⟩ := run_append_sl (P := P) w t op.type e i z size bytes ht hi hz hsize hby hzs v n xs hown ad m c news hm0 hl hnews h1 h63 hbytes
  unfold Oper.wp execOp
  simp only [ho, resolve, invoke, builtin, Sem.run_bind, Sem.run_pure, Result.andThen_ok, List.map_toArray, List.map_cons, List.map_nil, hs, hx, hr]
  exact h v' w' h2 h3 h4
theorem Tryz.info52 : (Tryz.prog.info? 52).map (fun i => (i.zero, i.size, i.bytes)) = some (some (.agg #[.int .i64 0, .int .i64 0, .string ⟨#[]⟩]), 3, 32) := by kernel_rfl
theorem grown_cell {w w' : World} {row : Option Nat} (h : w.grownBy w' row) {q j : Nat} {v : Value} (hc : w.cell? ⟨q, j, none⟩ = some v) (hne : some q ≠ row) : w'.cell? ⟨q, j, none⟩ = some v := h.cell hc hne
theorem grown_frozen {w w' : World} {row : Option Nat} (h : w.grownBy w' row) {q j : Nat} {v : Value} (hc : w.cell? ⟨q, j, none⟩ = some v) (hf : w.frozen? ⟨q, j, none⟩ = false) (hne : some q ≠ row) : w'.frozen? ⟨q, j, none⟩ = false := by
  rw [← hf]
  exact World.frozen?_of_block (w := w) (h.block q (World.block_lt_of_cell? w _ hc) hne)
theorem Slc.al {w : World} {e : TypeId} {size : Nat} {v : Value} {n : Nat} {xs : List Value} (h : Slc w e size v n xs) (z : Obj) : Slc (w.alloc z) e size v n xs := h.kept fun g hg => Below.heap_alloc _ _ _ (h.lt g hg)
theorem Slc.drew {w : World} {e : TypeId} {size : Nat} {v : Value} {n : Nat} {xs : List Value} (h : Slc w e size v n xs) : Slc w.drew e size v n xs := h
theorem app_close {own : Nat → Nat} {b lo hi col : Nat} {w W w1 : World} {e : TypeId} {size : Nat} {v v1 : Value} {n n' : Nat} {xs xs' : List Value} (hs : SlC w own b col e size v n xs) (hb : b < w.heap.size) (hW : Below w.heap.size w W)
    (hg : W.grownBy w1 v.ownBlock) (hob : (v1.ownBlock = v.ownBlock ∧ v.ownBlock ≠ none) ∨ (v1.ownBlock = some W.heap.size ∧ W.grownBy w1 none)) (hsl : Slc w1 e size v1 n' xs') {j : Nat} (h1 : lo ≤ j) (h2 : j < hi) :
    ∃ own', (∀ k, k < w.heap.size → own' k = own k) ∧ SlC (w1.setCell ⟨b, j, none⟩ v1) own' b col e size v1 n' xs' ∧ Chg own (fun c => c = col) b lo hi w (w1.setCell ⟨b, j, none⟩ v1) := by
  have hbv : some b ≠ v.ownBlock := fun e => (hs.col b e.symm).2 rfl
  have hbW : w1.heap[b]? = w.heap[b]? := by rw [hg.block b (Nat.lt_of_lt_of_le hb hW.size) hbv, hW.block b hb]
  refine ⟨fun k => if k < w.heap.size then own k else col, fun k hk => if_pos hk, ?_, ?_⟩
  · have hcol : ∀ g, v1.ownBlock = some g → (if g < w.heap.size then own g else col) = col ∧ g ≠ b := by
      intro g hg'
      rcases hob with ⟨h3, _⟩ | ⟨h3, _⟩
      · rw [h3] at hg'
        have hl := hs.sl.lt g hg'
        rw [if_pos hl]; exact hs.col g hg'
      · rw [h3] at hg'
        cases hg'
        have := hW.size
        rw [if_neg (by omega)]; exact ⟨rfl, by omega⟩
    exact ⟨hsl.kept fun g hg' => Below.heap_setCell _ _ _ _ (hcol g hg').2, hcol⟩
  · refine Chg.put ⟨hg.os.trans hW.os, hg.tape.trans hW.tape, hg.output.trans hW.output, Nat.le_trans hW.size hg.size, fun k hk hkb hc => ?_, fun cs t hc => ⟨cs, by rw [hbW]; exact hc, rfl, fun _ _ => rfl⟩⟩ h1 h2 _
    rw [hg.block k (Nat.lt_of_lt_of_le hk hW.size) (fun e => hc (hs.col k e.symm).1), hW.block k hk]
theorem news2 (w : World) (z : Obj) (z' : Obj) : ((w.alloc z).alloc z').drew.heap[w.heap.size + 1]? = some z' := by
  have := heap_alloc_new (w.alloc z) z'
  have e : (w.alloc z).heap.size = w.heap.size + 1 := by simp
  rw [e] at this
  exact this
theorem news2d (w : World) (z : Obj) (z' : Obj) : ((w.alloc z).drew.alloc z').heap[w.heap.size + 1]? = some z' := news2 w z z'
set_option maxRecDepth 100000 in
set_option maxHeartbeats 2000000 in
theorem put_w (w : World) (own : Nat → Nat) (b o cv : Nat) (l : List V) (y : V) (hB : Hid (Blk w b o)) (hV : Hid (VS w own b o cv l)) (hl : l.length ≤ 100000) :
    Calls Tryz.prog 205 #[.pointer (some ⟨b, o, none⟩), vV y] w fun e w' => e = .returned (.tuple #[]) ∧ Hid (∃ own', (∀ k, k < w.heap.size → own' k = own k) ∧ VS w' own' b o cv (l ++ [y]) ∧ Chg own (fun c => c = cv) b (o + 5) (o + 6) w w') := by
  obtain ⟨i0, hi, hz0, hz1, hz2⟩ := info_parts Tryz.info52
  obtain ⟨v, hv, hs⟩ := hV.out
  have hb := hB.out.lt
  have HL : Hid (l.length ≤ 100000) := hl
  have HS : Hid _ := hs
  have n1 : b ≠ w.heap.size := by omega
  have n2 : w.heap.size ≠ b := by omega
  have n3 : b ≠ w.heap.size + 1 := by omega
  have n4 : w.heap.size + 1 ≠ b := by omega
  have hfz := hB.out.frozen (o + 5)
  have hne : Hid (some b ≠ v.ownBlock) := by
    unfold Hid; intro e
    exact (hs.col b e.symm).2 rfl
  have hv1 := fun z1 => al hv z1
  have hv2 := fun z1 z2 => al (al hv z1) z2
  have hfz1 := fun z => afz hfz hb z
  have hfz2 := fun z1 z2 => afz (afz hfz hb z1) (by simp; omega) z2
  clear hs hl
  unfold vV
  go_enter Tryz.func205, Tryz.ntmps205
  go_wp2_with fail
  go_region_law ((refine step_append_sl (by rfl) _ _ _ (by rfl) 52 i0 _ 3 32 Tryz.underlying179 hi hz0 hz1 hz2 rfl v l.length (l.flatMap vC) (by rfl) (by first | exact ((HS.out.sl.al _).al _).drew | exact ((HS.out.sl.al _).drew.al _)) ⟨w.heap.size + 1, 0, none⟩ 1 1 [.int .i64 y.k, .int .i64 y.n, .string y.s] (by rfl) (by decide) (by rfl) (World.news_of_block (cs := #[.int .i64 y.k, .int .i64 y.n, .string y.s]) (t := 52) (fr := (0, 0)) (by first | exact news2 w _ _ | exact news2d w _ _)) (by simp [Value.oneCell']) (by have := HL.out; unfold maxLen; omega) (by have := HL.out; omega) ?_; intro v1 w1 hsl hgrow hob; obtain ⟨q1, cp1, hq1⟩ := Slc.len hsl; subst hq1; have c1 := grown_cell hgrow (q := b) (j := o + 5) (v := v) (by first | exact hv2 _ _ | simp [hv2]) hne.out; have f1 := grown_frozen hgrow (q := b) (j := o + 5) (v := v) (by first | exact hv2 _ _ | simp [hv2]) (by first | exact hfz2 _ _ | simp [hfz2]) hne.out))
  all_goals
    refine bodyPost_end (results_none rfl _ _ _) rfl ?_
    obtain ⟨own', o1, o2, o3⟩ := app_close (lo := o + 5) (hi := o + 6) HS.out hb ((bl2 _ _ _).drew) hgrow hob hsl (j := o + 5) (by omega) (by omega)
    refine ⟨rfl, own', o1, ⟨.slice q1 (l.length + 1) cp1, ?_, ?_⟩, o3⟩
    · obtain ⟨cs, t, k1, k2⟩ := hB.out
      have kb : w1.heap[b]? = some (.cells cs t (0, 0)) := by
        rw [hgrow.block b (by simp; omega) hne.out]; exact rold (rold k1 _) _
      rw [cell_of_row _ b (o + 5) _ t (0, 0) (rset kb), Array.getElem?_setIfInBounds_self_of_lt (by omega)]
    · rw [List.length_append, List.flatMap_append]
      exact o2
end Go.Proofs.YtiocnfambeochaaGreatDoor

/- 'isRange', 'checkCells': which cells a formula may name. -/
namespace Go.Proofs.YtiocnfambeochaaGreatDoor
open Go.RowKit

def TL (w : World) (v : Value) (ts : List Tk) : Prop :=
  (v = .slice none 0 0 ∧ ts = []) ∨ ∃ g cap, v = .slice (some ⟨g, 0, none⟩) ts.length cap ∧ ts.length ≤ cap ∧ ∀ (j : Nat) (t : Tk), ts[j]? = some t →
      w.cell? ⟨g, j * 3, none⟩ = some (.int .i64 t.k) ∧ w.cell? ⟨g, j * 3 + 1, none⟩ = some (.string ⟨t.x.toArray⟩) ∧ w.cell? ⟨g, j * 3 + 2, none⟩ = some (.int .i64 t.p)

def isR (l : List Tk) : Bool := decide (2 < l.length) && decide (kindAt l 1 = 15)
def badA (x y : Int × Bool) : Bool := decide (arI x y = 0) || decide (12 < arI x y)
def txtAt (ts : List Tk) (i : Nat) : List UInt8 := match ts[i]? with | some t => t.x | none => []
def chk : Nat → List Tk → Option Nat
  | 0, _ => none
  | _ + 1, [] => none
  | n + 1, t :: r =>
    if t.k ≠ 5 then chk n r
    else if isR (t :: r) = true then if badA (cn t.x) (cn (txtAt (t :: r) 2)) = true then some t.p else chk n (r.drop 2)
    else if (cn t.x).2 = true then chk n r else some t.p

set_option maxHeartbeats 1000000 in
theorem isRange_any (g off m c : Nat) (q : Int) (w : World) (hm : m ≤ 1000000) (hc : 2 < m → w.cell? ⟨g, off + 3, none⟩ = some (.int .i64 q)) :
    Calls Tryz.prog 124 #[.slice (some ⟨g, off, none⟩) m c] w fun e w' => e = .returned (.bool (decide (2 < m) && decide (q = 15))) ∧ w' = w := by
  by_cases h2 : 2 < m
  · have hc1 := hc h2
    have h2i : (2 : Int) < (m : Int) := by omega
    clear hc
    by_cases hq : q = 15
    · have b : (q == 15) = true := by simpa using hq
      have HR : Hid ((decide (2 < m) && decide (q = 15)) = true) := by unfold Hid; simp [h2, hq]
      generalize (decide (2 < m) && decide (q = 15)) = rr at *
      clear hq
      go_enter Tryz.func124, Tryz.ntmps124
      go_wp2
      go_ret
      rw [HR.out]
      exact ⟨rfl, rfl⟩
    · have b : (q == 15) = false := by simpa using hq
      have HR : Hid ((decide (2 < m) && decide (q = 15)) = false) := by unfold Hid; simp [hq]
      generalize (decide (2 < m) && decide (q = 15)) = rr at *
      clear hq
      go_enter Tryz.func124, Tryz.ntmps124
      go_wp2
      go_ret
      rw [HR.out]
      exact ⟨rfl, rfl⟩
  · have h2i : ¬ (2 : Int) < (m : Int) := by omega
    have HR : Hid ((decide (2 < m) && decide (q = 15)) = false) := by unfold Hid; simp [h2]
    generalize (decide (2 < m) && decide (q = 15)) = rr at *
    clear hc
    go_enter Tryz.func124, Tryz.ntmps124
    go_wp2
    go_ret
    rw [HR.out]
    exact ⟨rfl, rfl⟩

theorem drop_tk {ts : List Tk} {k : Nat} {t : Tk} (h : ts[k]? = some t) : ts.drop k = t :: ts.drop (k + 1) := by
  obtain ⟨hl, rfl⟩ := List.getElem?_eq_some_iff.1 h
  exact List.drop_eq_getElem_cons hl
theorem kindAt_drop (ts : List Tk) (k j : Nat) : kindAt (ts.drop k) j = kindAt ts (k + j) := by unfold kindAt; rw [List.getElem?_drop]
theorem txtAt_drop (ts : List Tk) (k j : Nat) : txtAt (ts.drop k) j = txtAt ts (k + j) := by unfold txtAt; rw [List.getElem?_drop]

theorem chk_other {ts : List Tk} {k f : Nat} {t : Tk} (ht : ts[k]? = some t) (h : t.k ≠ 5) : chk (f + 1) (ts.drop k) = chk f (ts.drop (k + 1)) := by
  rw [drop_tk ht, chk, if_pos h]
theorem chk_lone {ts : List Tk} {k f : Nat} {t : Tk} (ht : ts[k]? = some t) (h : t.k = 5) (hr : (decide (2 < ts.length - k) && decide (kindAt ts (k + 1) = 15)) = false) :
    chk (f + 1) (ts.drop k) = if (cn t.x).2 = true then chk f (ts.drop (k + 1)) else some t.p := by
  have e : isR (ts.drop k) = false := by unfold isR; rw [kindAt_drop, List.length_drop]; exact hr
  rw [drop_tk ht] at e ⊢
  rw [chk, if_neg (by simp [h]), e, if_neg (by simp)]
theorem chk_range {ts : List Tk} {k f : Nat} {t : Tk} (ht : ts[k]? = some t) (h : t.k = 5) (hr : (decide (2 < ts.length - k) && decide (kindAt ts (k + 1) = 15)) = true) :
    chk (f + 1) (ts.drop k) = if badA (cn t.x) (cn (txtAt ts (k + 2))) = true then some t.p else chk f (ts.drop (k + 3)) := by
  have e : isR (ts.drop k) = true := by unfold isR; rw [kindAt_drop, List.length_drop]; exact hr
  have e2 := txtAt_drop ts k 2
  rw [drop_tk ht] at e e2 ⊢
  rw [chk, if_neg (by simp [h]), e, if_pos rfl, e2, List.drop_drop]

set_option maxHeartbeats 2000000 in
theorem check_any (w : World) (v : Value) (ts : List Tk) (h : TL w v ts) (hs : ts.length ≤ 1000000) :
    Calls Tryz.prog 95 #[v] w fun e w' => Below w.heap.size w w' ∧ ((chk ts.length ts = none ∧ e = .returned (.tuple #[.int .i64 0, .bool true])) ∨ (∃ p : Nat, chk ts.length ts = some p ∧ e = .returned (.tuple #[.int .i64 p, .bool false]))) := by
  rcases h with ⟨rfl, rfl⟩ | ⟨g, cap, rfl, hcap, hc⟩
  · go_enter Tryz.func95, Tryz.ntmps95
    go_wp2_with fail
    refine wp_loop_rounds 1 ?_
    rw [rounds_succ]
    go_wp2_with fail
    go_ret2
    exact ⟨Below.refl _ _, Or.inl ⟨rfl, rfl⟩⟩
  have HC : Hid _ := hc
  clear hc
  go_enter Tryz.func95, Tryz.ntmps95
  go_wp2_with fail
  go_loopw [4] (fun x wr => ∃ (k f : Nat), k ≤ ts.length ∧ x = .int .i64 k ∧ Hid (Below w.heap.size w wr) ∧ ts.length - k ≤ f ∧ Hid (chk ts.length ts = chk f (ts.drop k))) (fun x _ => ts.length - (intOf x).toNat)
  case atStart => exact ⟨0, ts.length, by omega, rfl, Below.refl _ _, by omega, rfl⟩
  case round =>
    obtain ⟨k, f, hk, rfl, hwr, hf, hck⟩ := hrel
    have hcells : Hid (∀ (j : Nat) (t : Tk), ts[j]? = some t →
      wr.cell? ⟨g, j * 3, none⟩ = some (.int .i64 t.k) ∧ wr.cell? ⟨g, j * 3 + 1, none⟩ = some (.string ⟨t.x.toArray⟩) ∧ wr.cell? ⟨g, j * 3 + 2, none⟩ = some (.int .i64 t.p)) := by
      intro j t hj
      obtain ⟨a0, a1, a2⟩ := HC.out j t hj
      have hlt := World.block_lt_of_cell? w _ a0
      exact ⟨by rw [hwr.out.cell (p := ⟨g, j * 3, none⟩) hlt]; exact a0, by rw [hwr.out.cell (p := ⟨g, j * 3 + 1, none⟩) hlt]; exact a1, by rw [hwr.out.cell (p := ⟨g, j * 3 + 2, none⟩) hlt]; exact a2⟩
    by_cases hlt : k < ts.length
    · obtain ⟨f', rfl⟩ : ∃ f', f = f' + 1 := ⟨f - 1, by omega⟩
      obtain ⟨t, ht⟩ : ∃ t, ts[k]? = some t := ⟨_, List.getElem?_eq_getElem hlt⟩
      obtain ⟨c0, c1, c2⟩ := hcells.out k t ht
      have HT : Hid _ := ht
      have hlti : (k : Int) < (ts.length : Int) := by omega
      clear ht
      by_cases h5 : t.k = 5
      · have b5 : (t.k != 5) = false := by simpa using h5
        have H5 : Hid _ := h5
        clear h5
        have hcq : 2 < ts.length - k → wr.cell? ⟨g, k * 3 + 3, none⟩ = some (.int .i64 (kindAt ts (k + 1))) := fun h => by
          obtain ⟨t1, ht1⟩ : ∃ t1, ts[k + 1]? = some t1 := ⟨_, List.getElem?_eq_getElem (by omega)⟩
          have := (hcells.out (k + 1) t1 ht1).1
          have e : (k + 1) * 3 = k * 3 + 3 := by omega
          rw [e] at this
          rw [this]
          unfold kindAt
          rw [ht1]
        have HQ : Hid _ := hcq
        clear hcq
        go_wp2_with fail
        refine (isRange_any g (k * 3) (ts.length - k) (cap - k) (kindAt ts (k + 1)) _ (by omega) HQ.out).mono ?_
        rintro e w1 ⟨rfl, rfl⟩
        cases hr : (decide (2 < ts.length - k) && decide (kindAt ts (k + 1) = 15))
        · have HR : Hid _ := chk_lone (f := f') HT.out H5.out hr
          clear hr
          go_wp2_with fail
          refine (number_cell _ _).mono ?_
          rintro e w2 ⟨rfl, m, rfl⟩
          have ex : (⟨t.x.toArray⟩ : ByteArray).data.toList = t.x := rfl
          rw [ex]
          clear ex
          cases hb : (cn t.x).2
          · have HB : Hid _ := hb
            clear hb
            go_wp2_with fail
            go_ret2
            refine ⟨below_drewN hwr.out m, Or.inr ⟨t.p, ?_, rfl⟩⟩
            rw [hck.out, HR.out, HB.out, if_neg (by simp)]
          · have HB : Hid _ := hb
            clear hb
            go_wp2_with fail
            go_roundw
            case rel =>
              refine ⟨k + 1, f', by omega, by go_num, below_drewN hwr.out m, by omega, ?_⟩
              · unfold Hid; rw [hck.out, HR.out, HB.out, if_pos rfl]
            case measure => simp [intOf]; omega
        · have HR : Hid _ := chk_range (f := f') HT.out H5.out hr
          have hl2 : k + 2 < ts.length := by simp at hr; omega
          have hl2i : (k : Int) + 2 < (ts.length : Int) := by omega
          have hl2j : 0 ≤ (k : Int) + 2 := by omega
          have hw2 : IntKind.i64.wrap ((k : Int) + 2) = (k : Int) + 2 := by rw [IntKind.wrap_i64]; omega
          have htn : ((k : Int) + 2).toNat = k + 2 := by omega
          have hw3 : wrap64 ((k : Int) + 2) = (k : Int) + 2 := by unfold wrap64; omega
          obtain ⟨t2, ht2⟩ : ∃ t2, ts[k + 2]? = some t2 := ⟨_, List.getElem?_eq_getElem hl2⟩
          have d1 := (hcells.out (k + 2) t2 ht2).2.1
          have HX : Hid (txtAt ts (k + 2) = t2.x) := by unfold Hid txtAt; rw [ht2]
          clear hr ht2
          go_wp2_with fail
          go_region_with (go_at_call 125; refine (area_any _ _ _).mono ?_; rintro e w2 ⟨rfl, hb2⟩)
          all_goals
            have HB2 : Hid (Below w.heap.size w w2) := hwr.out.drew.trans (hb2.mono hwr.out.size)
            have c2' : w2.cell? ⟨g, k * 3 + 2, none⟩ = some (.int .i64 t.p) := by
              obtain ⟨a0, a1, a2⟩ := HC.out k t HT.out
              rw [HB2.out.cell (p := ⟨g, k * 3 + 2, none⟩) (World.block_lt_of_cell? w _ a2)]; exact a2
            clear hb2
            obtain ⟨a, ha⟩ : ∃ a, arI (cn t.x) (cn t2.x) = a := ⟨_, rfl⟩
            have HA : Hid (badA (cn t.x) (cn (txtAt ts (k + 2))) = (decide (a = 0) || decide (12 < a))) := by unfold Hid badA; rw [HX.out, ha]
            rw [ha]
            clear ha
            by_cases a0 : a = 0
            · have ab : (a == 0) = true := by simpa using a0
              have HB : Hid (badA (cn t.x) (cn (txtAt ts (k + 2))) = true) := by unfold Hid; rw [HA.out]; simp [a0]
              clear a0
              go_wp2_with fail
              go_ret2
              refine ⟨HB2.out, Or.inr ⟨t.p, ?_, rfl⟩⟩
              rw [hck.out, HR.out, HB.out, if_pos rfl]
            · have ab : (a == 0) = false := by simpa using a0
              by_cases a12 : 12 < a
              · have HB : Hid (badA (cn t.x) (cn (txtAt ts (k + 2))) = true) := by unfold Hid; rw [HA.out]; simp [a12]
                clear a0
                go_wp2_with fail
                go_ret2
                refine ⟨HB2.out, Or.inr ⟨t.p, ?_, rfl⟩⟩
                rw [hck.out, HR.out, HB.out, if_pos rfl]
              · have HB : Hid (badA (cn t.x) (cn (txtAt ts (k + 2))) = false) := by unfold Hid; rw [HA.out]; simp [a0, a12]
                clear a0
                go_wp2_with fail
                go_roundw
                case rel =>
                  refine ⟨k + 3, f', by omega, by go_num, HB2.out, by omega, ?_⟩
                  · unfold Hid; rw [hck.out, HR.out, HB.out, if_neg (by simp)]
                case measure => simp [intOf]; omega
      · have b5 : (t.k != 5) = true := by simpa using h5
        have H5 : Hid _ := h5
        clear h5
        go_wp2_with fail
        go_roundw
        case rel => exact ⟨k + 1, f', by omega, by go_num, hwr, by omega, by unfold Hid; rw [hck.out, chk_other HT.out H5.out]⟩
        case measure => simp [intOf]; omega
    · have e : k = ts.length := by omega
      have hlti : ¬ (k : Int) < (ts.length : Int) := by omega
      go_wp2_with fail
      go_ret2
      refine ⟨hwr.out, Or.inl ⟨?_, rfl⟩⟩
      rw [hck.out, e, List.drop_length]
      cases f <;> rfl
end Go.Proofs.YtiocnfambeochaaGreatDoor

/- 'grammar.Number': whatever the tokens are, an answer of 64 bits. -/
namespace Go.Proofs.YtiocnfambeochaaGreatDoor
open Go.RowKit

def SynVar (w : World) : Prop := ∃ tp p, w.var? Tryz.prog "strconv.ErrSyntax" = some #[.iface tp p]


end Go.Proofs.YtiocnfambeochaaGreatDoor

/- The program's parser: 'take' at written-out kinds, 'negations', 'place'. -/
namespace Go.Proofs.YtiocnfambeochaaGreatDoor
open Go.RowKit

theorem PW.size {w : World} {B pb : Nat} {v : Value} {ts : List Tk} {i d : Nat} (h : PW w B pb v ts i d) : B ≤ w.heap.size := Nat.le_of_lt (Nat.lt_of_le_of_lt h.low h.lt)

theorem take1 (q : Int) (hq : q ≠ 0) (w : World) (B pb : Nat) (v : Value) (ts : List Tk) (i d : Nat) (h : Hid (PW w B pb v ts i d)) :
    Calls Tryz.prog 123 #[.pointer (some ⟨pb, 0, none⟩), .slice (some ⟨w.heap.size, 0, none⟩) 1 1] (w.alloc (.cells #[.int .i64 q] 140)) fun e w' => e = .returned (.bool (tkB [q] (kindAt ts i))) ∧ Below B w w' ∧
      PW w' B pb v ts (tkI [q] (kindAt ts i) i) d := by
  refine (take_any (w.alloc (.cells #[.int .i64 q] 140)) B pb v ts i d w.heap.size [q] (h.out.alloc _) ?_ (by simp) (by unfold Hid; simpa using fun e => hq e.symm)).mono ?_
  · intro j u hj
    match j, hj with
    | 0, hj => simp at hj; subst hj; simp
    | j + 1, hj => simp at hj
  · rintro e w' ⟨rfl, hb, hp⟩
    exact ⟨rfl, ((Below.refl _ _).alloc h.out.size _).trans hb, hp⟩
theorem take2 (q r : Int) (hq : q ≠ 0) (hr : r ≠ 0) (w : World) (B pb : Nat) (v : Value) (ts : List Tk) (i d : Nat) (h : Hid (PW w B pb v ts i d)) :
    Calls Tryz.prog 123 #[.pointer (some ⟨pb, 0, none⟩), .slice (some ⟨w.heap.size, 0, none⟩) 2 2] (w.alloc (.cells #[.int .i64 q, .int .i64 r] 140)) fun e w' => e = .returned (.bool (tkB [q, r] (kindAt ts i))) ∧ Below B w w' ∧
      PW w' B pb v ts (tkI [q, r] (kindAt ts i) i) d := by
  refine (take_any (w.alloc (.cells #[.int .i64 q, .int .i64 r] 140)) B pb v ts i d w.heap.size [q, r] (h.out.alloc _) ?_ (by simp) (by unfold Hid; simp only [List.mem_cons, List.not_mem_nil, or_false]; omega)).mono ?_
  · intro j u hj
    match j, hj with
    | 0, hj => simp at hj; subst hj; simp
    | 1, hj => simp at hj; subst hj; simp
    | j + 2, hj => simp at hj
  · rintro e w' ⟨rfl, hb, hp⟩
    exact ⟨rfl, ((Below.refl _ _).alloc h.out.size _).trans hb, hp⟩
theorem take3 (q r t : Int) (hq : q ≠ 0) (hr : r ≠ 0) (ht : t ≠ 0) (w : World) (B pb : Nat) (v : Value) (ts : List Tk) (i d : Nat) (h : Hid (PW w B pb v ts i d)) :
    Calls Tryz.prog 123 #[.pointer (some ⟨pb, 0, none⟩), .slice (some ⟨w.heap.size, 0, none⟩) 3 3] (w.alloc (.cells #[.int .i64 q, .int .i64 r, .int .i64 t] 140)) fun e w' => e = .returned (.bool (tkB [q, r, t] (kindAt ts i))) ∧ Below B w w' ∧
      PW w' B pb v ts (tkI [q, r, t] (kindAt ts i) i) d := by
  refine (take_any (w.alloc (.cells #[.int .i64 q, .int .i64 r, .int .i64 t] 140)) B pb v ts i d w.heap.size [q, r, t] (h.out.alloc _) ?_ (by simp) (by unfold Hid; simp only [List.mem_cons, List.not_mem_nil, or_false]; omega)).mono ?_
  · intro j u hj
    match j, hj with
    | 0, hj => simp at hj; subst hj; simp
    | 1, hj => simp at hj; subst hj; simp
    | 2, hj => simp at hj; subst hj; simp
    | j + 3, hj => simp at hj
  · rintro e w' ⟨rfl, hb, hp⟩
    exact ⟨rfl, ((Below.refl _ _).alloc h.out.size _).trans hb, hp⟩

def mark (ts : List Tk) (i : Nat) : List Tk := ts.modify i fun t => { t with k := 23 }
def ngs : Nat → List Tk → Nat → List Tk × Nat
  | 0, ts, i => (ts, i)
  | n + 1, ts, i => if kindAt ts i = 17 then ngs n (mark ts i) (i + 1) else (ts, i)

theorem mark_len (ts : List Tk) (i : Nat) : (mark ts i).length = ts.length := by simp [mark]
theorem flat_mark : ∀ (ts : List Tk) (i : Nat), i < ts.length → (mark ts i).flatMap tkCells = (ts.flatMap tkCells).set (i * 3) (.int .i64 23)
  | [], i, h => by simp at h
  | a :: r, 0, _ => by simp [mark, tkCells, List.modify_cons]
  | a :: r, i + 1, h => by
    have ih := flat_mark r i (by simpa using h)
    have e : mark (a :: r) (i + 1) = a :: mark r i := by simp [mark]
    rw [e, List.flatMap_cons, ih, List.flatMap_cons]
    rw [List.set_append_right _ _ (by simp [tkCells]; omega)]
    congr 2
    simp [tkCells]; omega

theorem PW.mark {w : World} {B pb : Nat} {v : Value} {ts : List Tk} {i d g cap : Nat} (h : PW w B pb v ts i d) (hv : v = .slice (some ⟨g, 0, none⟩) ts.length cap) (j : Nat) (hj : j < ts.length) :
    PW (w.setCell ⟨g, j * 3, none⟩ (.int .i64 23)) B pb v (YtiocnfambeochaaGreatDoor.mark ts j) i d := by
  have ho := h.own
  have ha := h.apart
  rw [hv] at ho ha
  have hs := (ho.stored (j * 3) (.int .i64 23)).1
  have hne : g ≠ pb := fun e => ha (by simp [Value.ownBlock, e])
  refine ⟨?_, ?_, h.low, h.apart, by rw [mark_len]; exact h.le, by rw [mark_len]; exact h.small, h.deep⟩
  · rw [Below.heap_setCell _ _ _ _ (fun e => hne e.symm)]; exact h.blk
  · rw [mark_len, flat_mark ts j hj, hv]; exact hs

theorem tkB_one (q k : Int) : tkB [q] k = (k == q) := by
  unfold tkB; rw [Bool.eq_iff_iff]; simp

set_option maxHeartbeats 1000000 in
theorem negations_any (w : World) (B pb : Nat) (v : Value) (ts : List Tk) (i d : Nat) (h : Hid (PW w B pb v ts i d)) :
    Calls Tryz.prog 209 #[.pointer (some ⟨pb, 0, none⟩)] w fun e w' => e = .returned (.tuple #[]) ∧ Below B w w' ∧ PW w' B pb v (ngs 8 ts i).1 (ngs 8 ts i).2 d := by
  go_enter Tryz.func209, Tryz.ntmps209
  go_wp2_with fail
  go_loopw [2] (fun x wr => ∃ (c : Nat) (ts' : List Tk) (i' : Nat), c ≤ 8 ∧ x = .int .i64 c ∧ Hid (PW wr B pb v ts' i' d) ∧ Hid (Below B w wr) ∧ Hid (ngs 8 ts i = ngs (8 - c) ts' i')) (fun x _ => 8 - (intOf x).toNat)
  case atStart => exact ⟨0, ts, i, by omega, rfl, h, Below.refl _ _, rfl⟩
  case round =>
    obtain ⟨c, ts', i', hc8, rfl, hpw, hb, hng⟩ := hrel
    by_cases hlt : c < 8
    · obtain ⟨c', hcc⟩ : ∃ c', 8 - c = c' + 1 := ⟨7 - c, by omega⟩
      have HC : Hid _ := hcc
      clear hcc
      by_cases hk : kindAt ts' i' = 17
      · have hil := kindAt_lt (ts := ts') (i := i') (by rw [hk]; decide)
        have hB : Hid (tkB [17] (kindAt ts' i') = true) := by unfold Hid; rw [tkB_one]; simpa using hk
        have hI : Hid (tkI [17] (kindAt ts' i') i' = i' + 1) := by unfold Hid tkI; rw [if_pos (by simpa using hk)]
        have HK : Hid _ := hk
        clear hk
        go_wp2_with (go_at_call 123; refine (take1 17 (by decide) _ B pb v ts' i' d hpw).mono ?_; rintro e w1 ⟨rfl, hb1, hpw1⟩; rw [hB.out]; rw [hI.out] at hpw1)
        have hlist := hpw1.list
        have hle1 := hpw1.le
        have hsm := hpw1.small
        rcases hlist with ⟨_, hnil⟩ | ⟨g, cap, hv, hg, hcap, hcs⟩
        · rw [hnil] at hil; simp at hil
        have c0 : w1.cell? ⟨pb, 0, none⟩ = some (.slice (some ⟨g, 0, none⟩) ts'.length cap) := by rw [← hv]; exact hpw1.c0
        have c1 : w1.cell? ⟨pb, 1, none⟩ = some (.int .i64 ((i' : Int) + 1)) := hpw1.c1
        obtain ⟨t, ht⟩ : ∃ t, ts'[i']? = some t := ⟨_, List.getElem?_eq_getElem hil⟩
        have k0 := (hcs i' t ht).1
        have hfz : w1.frozen? ⟨g, i' * 3, none⟩ = false := by
          have ho := hpw1.own
          rw [hv] at ho
          exact ho.frozenAt _
        have hlti : (i' : Int) < (ts'.length : Int) := by omega
        have HV : Hid _ := hv
        have HP : Hid _ := hpw1
        have HB1 : Hid _ := hb1
        clear hv hcs ht hpw1 hb1 hle1
        go_region
        go_wp2_with fail
        go_roundw
        case rel =>
          refine ⟨c + 1, YtiocnfambeochaaGreatDoor.mark ts' i', i' + 1, by omega, by go_num, ?_, ?_, ?_⟩
          · exact (HP.out.mark HV.out i' hil).of_heap rfl
          · exact ((hb.out.trans HB1.out).setCell hg _).drew
          · unfold Hid
            rw [hng.out, HC.out, ngs, if_pos HK.out]
            have : 8 - (c + 1) = c' := by have := HC.out; omega
            rw [this]
        case measure => simp [intOf]; omega
      · have hB : Hid (tkB [17] (kindAt ts' i') = false) := by unfold Hid; rw [tkB_one]; simpa using hk
        have hI : Hid (tkI [17] (kindAt ts' i') i' = i') := by unfold Hid tkI; rw [if_neg (by simpa using hk)]
        have HK : Hid _ := hk
        clear hk
        go_wp2_with (go_at_call 123; refine (take1 17 (by decide) _ B pb v ts' i' d hpw).mono ?_; rintro e w1 ⟨rfl, hb1, hpw1⟩; rw [hB.out]; rw [hI.out] at hpw1)
        refine bodyPost_ret (v := .tuple #[]) (by simp [results, Tryz.results209, go_sem]) rfl ?_
        rw [hng.out, HC.out, ngs, if_neg HK.out]
        exact ⟨rfl, hb.out.trans hb1, hpw1⟩
    · go_wp2_with fail
      go_end0
      have : 8 - c = 0 := by omega
      rw [hng.out, this, ngs]
      exact ⟨rfl, hb.out, hpw.out⟩
end Go.Proofs.YtiocnfambeochaaGreatDoor

/- The parser as a plain function (so many steps at most), and its functions 'formula', 'sum', 'product', 'corners', 'choice', 'bracketed', 'atom' in memory. -/
namespace Go.Proofs.YtiocnfambeochaaGreatDoor
open Go.RowKit

structure PR where
  ok : Bool
  ts : List Tk
  i : Nat
  d : Nat

def andThen (r : Option PR) (k : List Tk → Nat → Nat → Option PR) : Option PR :=
  match r with
  | none => none
  | some r => if r.ok = true then k r.ts r.i r.d else some r

def wants (q : Int) (ts : List Tk) (i d : Nat) (k : List Tk → Nat → Nat → Option PR) : Option PR :=
  if kindAt ts i = q then k ts (i + 1) d else some ⟨false, ts, i, d⟩

def prs : Nat → Nat → List Tk → Nat → Nat → Option PR
  | 0, _, _, _, _ => none
  | f + 1, tag, ts, i, d =>
    if tag = 0 then andThen (prs f 1 ts i d) fun ts i d => if kindAt ts i ∈ [21, 22] then prs f 1 ts (i + 1) d else some ⟨true, ts, i, d⟩
    else if tag = 1 then andThen (prs f 2 ts i d) fun ts i d => if kindAt ts i ∈ [16, 17, 20] then prs f 1 ts (i + 1) d else some ⟨true, ts, i, d⟩
    else if tag = 2 then andThen (prs f 3 ts i d) fun ts i d => if kindAt ts i ∈ [18, 19] then prs f 2 ts (i + 1) d else some ⟨true, ts, i, d⟩
    else if tag = 3 then
      if kindAt (ngs 8 ts i).1 (ngs 8 ts i).2 ∈ [1, 2, 3, 4, 5] then some ⟨true, (ngs 8 ts i).1, (ngs 8 ts i).2 + 1, d⟩
      else if kindAt (ngs 8 ts i).1 (ngs 8 ts i).2 = 12 then prs f 6 (ngs 8 ts i).1 (ngs 8 ts i).2 d
      else if kindAt (ngs 8 ts i).1 (ngs 8 ts i).2 = 6 then prs f 7 (ngs 8 ts i).1 ((ngs 8 ts i).2 + 1) d
      else if kindAt (ngs 8 ts i).1 (ngs 8 ts i).2 ∈ [7, 8] then prs f 6 (ngs 8 ts i).1 ((ngs 8 ts i).2 + 1) d
      else if kindAt (ngs 8 ts i).1 (ngs 8 ts i).2 ∈ [9, 10] then prs f 8 (ngs 8 ts i).1 ((ngs 8 ts i).2 + 1) d
      else some ⟨false, (ngs 8 ts i).1, (ngs 8 ts i).2, d⟩
    else if tag = 4 then andThen (prs f 0 ts i d) fun ts i d => wants 14 ts i d fun ts i d => andThen (prs f 0 ts i d) fun ts i d => wants 14 ts i d fun ts i d => prs f 0 ts i d
    else if tag = 5 then wants 5 ts i d fun ts i d => wants 15 ts i d fun ts i d => wants 5 ts i d fun ts i d => some ⟨true, ts, i, d⟩
    else if d = 8 then some ⟨false, ts, i, d⟩
    else wants 12 ts i d fun ts i d => andThen (prs f (if tag = 6 then 0 else if tag = 7 then 4 else 5) ts i (d + 1)) fun ts i d => wants 13 ts i d fun ts i d => some ⟨true, ts, i, d - 1⟩

def Cal (fn tag f : Nat) : Prop := ∀ (w : World) (B pb : Nat) (v : Value) (ts : List Tk) (i d : Nat) (r : PR), PW w B pb v ts i d → prs f tag ts i d = some r →
  Calls Tryz.prog fn #[.pointer (some ⟨pb, 0, none⟩)] w fun e w' => e = .returned (.bool r.ok) ∧ Below B w w' ∧ PW w' B pb v r.ts r.i r.d

theorem prs0 (f : Nat) (ts : List Tk) (i d : Nat) : prs (f + 1) 0 ts i d = andThen (prs f 1 ts i d) fun ts i d => if kindAt ts i ∈ [21, 22] then prs f 1 ts (i + 1) d else some ⟨true, ts, i, d⟩ := rfl
theorem prs1 (f : Nat) (ts : List Tk) (i d : Nat) : prs (f + 1) 1 ts i d = andThen (prs f 2 ts i d) fun ts i d => if kindAt ts i ∈ [16, 17, 20] then prs f 1 ts (i + 1) d else some ⟨true, ts, i, d⟩ := rfl
theorem prs2 (f : Nat) (ts : List Tk) (i d : Nat) : prs (f + 1) 2 ts i d = andThen (prs f 3 ts i d) fun ts i d => if kindAt ts i ∈ [18, 19] then prs f 2 ts (i + 1) d else some ⟨true, ts, i, d⟩ := rfl

theorem tk_yes {ks : List Int} {q : Int} (i : Nat) (h : q ∈ ks) : tkB ks q = true ∧ tkI ks q i = i + 1 := ⟨decide_eq_true h, if_pos h⟩
theorem tk_no {ks : List Int} {q : Int} (i : Nat) (h : ¬ q ∈ ks) : tkB ks q = false ∧ tkI ks q i = i := ⟨decide_eq_false h, if_neg h⟩

set_option maxHeartbeats 1000000 in
theorem formula_step (f : Nat) (s1 : Cal 122 1 f) : Cal 93 0 (f + 1) := by
  intro w B pb v ts i d r hpw he
  rw [prs0] at he
  match hr : prs f 1 ts i d with
  | none => rw [hr] at he; simp [andThen] at he
  | some r1 =>
    rw [hr] at he
    have HR : Hid _ := hr
    have HE : Hid _ := he
    have HP : Hid _ := hpw
    clear hr he hpw
    cases hok : r1.ok
    · have hrr : Hid (r1 = r) := by
        have := HE.out
        simp only [andThen, hok, Bool.false_eq_true, if_false, Option.some.injEq] at this
        exact this
      have HO : Hid _ := hok
      clear hok HE
      go_enter Tryz.func93, Tryz.ntmps93
      go_wp2_with fail
      refine (s1 _ B pb v ts i d r1 HP.out HR.out).mono ?_
      rintro e w1 ⟨rfl, hb1, hp1⟩
      rw [HO.out]
      go_wp2_with fail
      go_ret
      rw [← hrr.out, HO.out]
      exact ⟨rfl, hb1, hp1⟩
    · have HO : Hid _ := hok
      by_cases hin : kindAt r1.ts r1.i ∈ [21, 22]
      · obtain ⟨hB, hI⟩ := tk_yes r1.i hin
        have h2 : Hid (prs f 1 r1.ts (r1.i + 1) r1.d = some r) := by
          have := HE.out
          simp only [andThen, hok, if_true, if_pos hin] at this
          exact this
        have HB : Hid _ := hB
        have HI : Hid _ := hI
        clear hok HE hin hB hI
        go_enter Tryz.func93, Tryz.ntmps93
        go_wp2_with fail
        refine (s1 _ B pb v ts i d r1 HP.out HR.out).mono ?_
        rintro e w1 ⟨rfl, hb1, hp1⟩
        rw [HO.out]
        have HP1 : Hid _ := hp1
        have HB1 : Hid _ := hb1
        clear hp1 hb1
        go_wp2_with fail
        refine (take2 21 22 (by decide) (by decide) _ B pb v _ _ _ HP1).mono ?_
        rintro e w2 ⟨rfl, hb2, hp2⟩
        rw [HB.out]
        rw [HI.out] at hp2
        have HP2 : Hid _ := hp2
        have HB2 : Hid _ := hb2
        clear hp2 hb2
        go_wp2_with fail
        refine (s1 _ B pb v _ _ _ r HP2.out h2.out).mono ?_
        rintro e w3 ⟨rfl, hb3, hp3⟩
        go_wp2_with fail
        go_ret
        exact ⟨rfl, (HB1.out.trans HB2.out).trans hb3, hp3⟩
      · obtain ⟨hB, hI⟩ := tk_no r1.i hin
        have hrr : Hid (⟨true, r1.ts, r1.i, r1.d⟩ = r) := by
          have := HE.out
          simp only [andThen, hok, if_true, if_neg hin, Option.some.injEq] at this
          exact this
        have HB : Hid _ := hB
        have HI : Hid _ := hI
        clear hok HE hin hB hI
        go_enter Tryz.func93, Tryz.ntmps93
        go_wp2_with fail
        refine (s1 _ B pb v ts i d r1 HP.out HR.out).mono ?_
        rintro e w1 ⟨rfl, hb1, hp1⟩
        rw [HO.out]
        have HP1 : Hid _ := hp1
        have HB1 : Hid _ := hb1
        clear hp1 hb1
        go_wp2_with fail
        refine (take2 21 22 (by decide) (by decide) _ B pb v _ _ _ HP1).mono ?_
        rintro e w2 ⟨rfl, hb2, hp2⟩
        rw [HB.out]
        rw [HI.out] at hp2
        go_wp2_with fail
        go_ret
        rw [← hrr.out]
        exact ⟨rfl, HB1.out.trans hb2, hp2⟩
end Go.Proofs.YtiocnfambeochaaGreatDoor
