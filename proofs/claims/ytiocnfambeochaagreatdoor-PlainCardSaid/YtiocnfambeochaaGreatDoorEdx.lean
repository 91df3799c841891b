/- Edit, of any batch. -/
import Derived.Test.YtiocnfambeochaaGreatDoorChx
set_option linter.unusedVariables false
set_option linter.unusedSimpArgs false
namespace Go.Proofs.YtiocnfambeochaaGreatDoor
open Go.RowKit

theorem row_setCell {w : World} {b k : Nat} {cs : Array Value} {u : Value} {t : TypeId} (h : w.heap[b]? = some (.cells cs t (0, 0))) : (w.setCell ⟨b, k, none⟩ u).heap[b]? = some (.cells (cs.setIfInBounds k u) t (0, 0)) := by
  have hlt := (Array.getElem?_eq_some_iff.1 h).1
  have h' : w.heap[b] = .cells cs t (0, 0) := (Array.getElem?_eq_some_iff.1 h).2
  show (w.heap.modify b _)[b]? = _
  rw [Array.getElem?_eq_getElem (by simpa using hlt), Array.getElem_modify_self, h']
  rfl
theorem setCells_row {x : Nat} {t : TypeId} : ∀ (vs : List Value) (o : Nat) (w : World) (cs : Array Value), w.heap[x]? = some (.cells cs t (0, 0)) →
    ∃ cs', (w.setCells x o vs).heap[x]? = some (.cells cs' t (0, 0)) ∧ cs'.size = cs.size ∧ (∀ j, cs'[j]? = if o ≤ j ∧ j < o + vs.length ∧ j < cs.size then vs[j - o]? else cs[j]?) ∧ Only x w (w.setCells x o vs)
  | [], o, w, cs, h => ⟨cs, h, rfl, fun j => by rw [if_neg (by simp; omega)], Only.refl _ _⟩
  | v :: r, o, w, cs, h => by
    obtain ⟨cs', h1, h2, h3, h4⟩ := setCells_row r (o + 1) (w.setCell ⟨x, o, none⟩ v) _ (row_setCell (k := o) (u := v) h)
    refine ⟨cs', h1, by rw [h2, Array.size_setIfInBounds], fun j => ?_, ?_⟩
    rotate_left
    · have h0 : Only x w (w.setCell ⟨x, o, none⟩ v) := ⟨rfl, rfl, rfl, by simp [World.setCell], fun k hk hx => Below.heap_setCell _ _ _ _ hx⟩
      exact h0.trans h4
    rw [h3 j, Array.size_setIfInBounds]
    by_cases hj : j = o
    · subst hj
      rw [if_neg (by omega)]
      by_cases hz : j < cs.size
      · rw [Array.getElem?_setIfInBounds_self_of_lt hz, if_pos (by simp; omega)]; simp
      · rw [if_neg (by omega), Array.getElem?_eq_none (by simp; omega), Array.getElem?_eq_none (by omega)]
    · rw [Array.getElem?_setIfInBounds_ne (fun e => hj e.symm)]
      by_cases hin : o + 1 ≤ j ∧ j < o + 1 + r.length ∧ j < cs.size
      · rw [if_pos hin, if_pos (by simp only [List.length_cons]; omega)]
        have : j - o = (j - (o + 1)) + 1 := by omega
        rw [this, List.getElem?_cons_succ]
      · rw [if_neg hin, if_neg (by simp only [List.length_cons]; omega)]

def edC (e : ByteArray × ByteArray) : List Value := [.string e.1, .string e.2]
def updF (fs : Nat → ByteArray) (c : Nat) (t : ByteArray) : Nat → ByteArray := fun i => if i = c then t else fs i
/-- What comes of a batch: error, number, place, the formulas. -/
structure Er where
  e : Int
  i : Nat
  p : Nat
  fs : Nat → ByteArray
def edR (bd : Nat → Int × Int) : Nat → List (ByteArray × ByteArray) → (Nat → ByteArray) → Er
  | _, [], fs => ⟨0, 0, 0, fs⟩
  | i, e :: l, fs => if (ckP bd e.1 e.2).e ≠ 0 then ⟨(ckP bd e.1 e.2).e, i, (ckP bd e.1 e.2).p, fs⟩ else edR bd (i + 1) l (updF fs (ckP bd e.1 e.2).c (ckP bd e.1 e.2).t)
theorem ck_lt {bd : Nat → Int × Int} {cl tx : ByteArray} (h : (ckP bd cl tx).e = 0) : (ckP bd cl tx).c < 48 := by
  unfold ckP at h ⊢
  cases hc : cellN cl.data.toList with
  | none => rw [hc] at h; exact absurd h (by show ¬ (4 : Int) = 0; decide)
  | some c =>
    have hl := cellN_lt hc
    simp only [hc] at h ⊢
    split
    · exact hl
    · rename_i h0
      rw [if_neg h0] at h
      split
      · show 0 < 48; omega
      · unfold ckN
        split
        · split
          · show 0 < 48; omega
          · exact hl
        · exact hl
/-- The formulas as they lie in a row of their own. -/
def FsAt (w : World) (b : Nat) (fs : Nat → ByteArray) : Prop := ∃ arr, w.heap[b]? = some (.cells arr 89 (0, 0)) ∧ arr.size = 48 ∧ ∀ c, c < 48 → arr[c]? = some (.string (fs c))
theorem FsAt.set {w : World} {b : Nat} {fs : Nat → ByteArray} (h : FsAt w b fs) {c : Nat} (hc : c < 48) (t : ByteArray) : FsAt (w.setCell ⟨b, c, none⟩ (.string t)) b (updF fs c t) := by
  obtain ⟨arr, h1, h2, h3⟩ := h
  refine ⟨_, row_setCell h1, by rw [Array.size_setIfInBounds, h2], fun j hj => ?_⟩
  unfold updF
  by_cases e : j = c
  · subst e; rw [if_pos rfl, Array.getElem?_setIfInBounds_self_of_lt (by omega)]
  · rw [if_neg e, Array.getElem?_setIfInBounds_ne (fun h => e h.symm)]; exact h3 j hj
theorem FsAt.kept {w w' : World} {b : Nat} {fs : Nat → ByteArray} (h : FsAt w b fs) (hb : w'.heap[b]? = w.heap[b]?) : FsAt w' b fs := by
  obtain ⟨arr, h1, h2⟩ := h
  exact ⟨arr, by rw [hb]; exact h1, h2⟩
theorem FsAt.lt {w : World} {b : Nat} {fs : Nat → ByteArray} (h : FsAt w b fs) : b < w.heap.size := by
  obtain ⟨arr, h1, h2⟩ := h
  exact (Array.getElem?_eq_some_iff.1 h1).1
theorem info89 : (Tryz.prog.info? 89).map (·.size) = some 48 := by kernel_rfl
theorem FsAt.one {fs : Nat → ByteArray} {arr : Array Value} (h2 : arr.size = 48) (h3 : ∀ c, c < 48 → arr[c]? = some (.string (fs c))) : arr.all (·.oneCell') = true := by
  refine Array.all_eq_true_iff_forall_mem.2 fun v hv => ?_
  obtain ⟨j, hj⟩ := Array.getElem?_of_mem hv
  have hl := (Array.getElem?_eq_some_iff.1 hj).1
  rw [h3 j (by omega)] at hj
  cases hj; rfl
section
variable {fs : Nat → ByteArray} {bd : Nat → Int × Int} {k : Kp}
/-- The formulas of a sheet, as a row of 48. -/
theorem SR.row {w : World} {x : Nat} (h : SR w x fs bd k) : w.rangeAt x 0 ((List.range 48).map fun c => Value.string (fs c)) ∧ w.there x 0 48 := by
  obtain ⟨cs, hb, hs⟩ := h.blk
  refine ⟨fun j v hj => ?_, fun j hj => ⟨?_, by simp [World.frozen?, hb]⟩⟩
  · rw [List.getElem?_map] at hj
    obtain ⟨hlt, _⟩ : j < 48 ∧ True := by
      refine ⟨?_, trivial⟩
      rcases Nat.lt_or_ge j 48 with h | h
      · exact h
      · rw [List.getElem?_eq_none (by simpa using h)] at hj; cases hj
    rw [List.getElem?_range hlt] at hj
    cases hj
    rw [Nat.zero_add]; exact h.fs j hlt
  · rw [Nat.zero_add, h.fs j hj]; rfl
theorem SR.setFs {w : World} {x : Nat} (h : SR w x fs bd k) {fs' : Nat → ByteArray} {arr : Array Value} (h2 : arr.size = 48) (h3 : ∀ c, c < 48 → arr[c]? = some (.string (fs' c))) :
    SR (w.setCells x 0 arr.toList) x fs' bd k ∧ Only x w (w.setCells x 0 arr.toList) := by
  obtain ⟨cs, hb, hs⟩ := h.blk
  obtain ⟨cs', e1, e2, e3, e4⟩ := setCells_row arr.toList 0 w cs hb
  have hc : ∀ t, (w.setCells x 0 arr.toList).cell? ⟨x, t, none⟩ = cs'[t]? := fun t => cell_of_row _ _ t cs' 104 (0, 0) e1
  have hc0 : ∀ t, w.cell? ⟨x, t, none⟩ = cs[t]? := fun t => cell_of_row _ _ t cs 104 (0, 0) hb
  have hother : ∀ t, 48 ≤ t → (w.setCells x 0 arr.toList).cell? ⟨x, t, none⟩ = w.cell? ⟨x, t, none⟩ := fun t ht => by
    rw [hc, hc0, e3, if_neg (by rw [Array.length_toList, h2]; omega)]
  refine ⟨{ blk := ⟨cs', e1, by rw [e2, hs]⟩, fs := fun c hl => ?_, bdr := h.bdr, bnd := fun c hl => ?_, kp := h.kp.keep (fun t ht => hother _ (by omega)) fun g cur hg _ => ⟨e4.block g (Array.getElem?_eq_some_iff.1 hg).1 (fun e => h.notRead cur (e ▸ hg)), trivial⟩ }, e4⟩
  · rw [hc, e3, if_pos (by rw [Array.length_toList, h2, hs]; omega), Nat.sub_zero, Array.getElem?_toList]; exact h3 c hl
  · rw [hother _ (by omega), hother _ (by omega)]; exact h.bnd c hl
theorem ed_cells {w : World} {g o n cap : Nat} {es : List (ByteArray × ByteArray)} (h : Slc w 68 2 (.slice (some ⟨g, o, none⟩) n cap) n (es.flatMap edC)) (i : Nat) (e : ByteArray × ByteArray) (hi : es[i]? = some e) :
    w.cell? ⟨g, o + i * 2, none⟩ = some (.string e.1) ∧ w.cell? ⟨g, o + i * 2 + 1, none⟩ = some (.string e.2) := by
  have fl : ∀ (l : List (ByteArray × ByteArray)) (i : Nat), l[i]? = some e → (l.flatMap edC)[i * 2]? = some (.string e.1) ∧ (l.flatMap edC)[i * 2 + 1]? = some (.string e.2) := by
    intro l
    induction l with
    | nil => intro i hi; simp at hi
    | cons a l ih =>
      intro i hi
      cases i with
      | zero => simp at hi; subst hi; exact ⟨rfl, rfl⟩
      | succ i =>
        rw [List.getElem?_cons_succ] at hi
        have := ih i hi
        rw [List.flatMap_cons]
        have l2 : (edC a).length = 2 := rfl
        refine ⟨?_, ?_⟩
        · rw [List.getElem?_append_right (by omega), l2, show (i + 1) * 2 - 2 = i * 2 by omega]; exact this.1
        · rw [List.getElem?_append_right (by omega), l2, show (i + 1) * 2 + 1 - 2 = i * 2 + 1 by omega]; exact this.2
  obtain ⟨f1, f2⟩ := fl es i hi
  refine ⟨h.cell _ _ f1, ?_⟩
  rw [Nat.add_assoc]; exact h.cell _ _ f2
set_option maxHeartbeats 1000000 in
theorem edit_long (W : World) (x : Nat) (ao : Option Addr) (n c : Nat) (hn : 8 < n) :
    Calls Tryz.prog 35 #[.pointer (some ⟨x, 0, none⟩), .slice ao n c] W fun e w' => e = .returned (.tuple #[.int .i64 1, .int .i64 0, .int .i64 0]) ∧ w' = W := by
  have hni : (8 : Int) < (n : Int) := by omega
  go_enter Tryz.func35, Tryz.ntmps35
  go_wp2_with fail
  go_ret3
  exact ⟨rfl, rfl⟩
set_option maxHeartbeats 4000000 in
set_option maxRecDepth 100000 in
theorem edit_any (W : World) (x : Nat) (v : Value) (es : List (ByteArray × ByteArray)) (hSR : Hid (SR W x fs bd k)) (hA : Hid (Amb W)) (hv : Hid (Slc W 68 2 v es.length (es.flatMap edC))) (hn : es.length ≤ 8) (hx : Hid (∀ e ∈ es, e.2.size ≤ maxLen)) :
    Calls Tryz.prog 35 #[.pointer (some ⟨x, 0, none⟩), v] W fun e w' => e = .returned (.tuple #[.int .i64 (edR bd 0 es fs).e, .int .i64 (edR bd 0 es fs).i, .int .i64 (edR bd 0 es fs).p]) ∧
      Hid (((edR bd 0 es fs).e ≠ 0 → Below W.heap.size W w') ∧ ((edR bd 0 es fs).e = 0 → Only x W w' ∧ SR w' x (edR bd 0 es fs).fs bd k)) := by
  obtain ⟨ao, cp, rfl⟩ := hv.out.len
  have hni : ¬ (8 : Int) < (es.length : Int) := by omega
  have HN : Hid (es.length ≤ 8) := hn
  obtain ⟨fl, hfl⟩ : ∃ fl : Array Value, fl = ((List.range 48).map fun c => Value.string (fs c)).toArray := ⟨_, rfl⟩
  have hfls : fl.size = 48 := by rw [hfl]; simp
  have hflg : ∀ c, c < 48 → fl[c]? = some (.string (fs c)) := by
    intro c hc
    rw [hfl, List.getElem?_toArray, List.getElem?_map, List.getElem?_range hc]; rfl
  have h1 : Hid ((loadVar 89 ⟨x, 0, none⟩).run Tryz.prog W = .ok (.agg fl) W) := by
    unfold Hid; rw [hfl]
    exact run_loadVar_mid W x 0 89 _ (.array 48 9) hSR.out.row.1 Tryz.underlying89 rfl (by simpa using info89)
  have h2 : Hid ((storeVar 89 ⟨W.heap.size, 0, none⟩ (.agg fl)).run Tryz.prog (W.alloc (.cells #[.string ⟨#[]⟩, .string ⟨#[]⟩, .string ⟨#[]⟩, .string ⟨#[]⟩, .string ⟨#[]⟩, .string ⟨#[]⟩, .string ⟨#[]⟩, .string ⟨#[]⟩, .string ⟨#[]⟩, .string ⟨#[]⟩, .string ⟨#[]⟩, .string ⟨#[]⟩, .string ⟨#[]⟩, .string ⟨#[]⟩, .string ⟨#[]⟩, .string ⟨#[]⟩, .string ⟨#[]⟩, .string ⟨#[]⟩, .string ⟨#[]⟩, .string ⟨#[]⟩, .string ⟨#[]⟩, .string ⟨#[]⟩, .string ⟨#[]⟩, .string ⟨#[]⟩, .string ⟨#[]⟩, .string ⟨#[]⟩, .string ⟨#[]⟩, .string ⟨#[]⟩, .string ⟨#[]⟩, .string ⟨#[]⟩, .string ⟨#[]⟩, .string ⟨#[]⟩, .string ⟨#[]⟩, .string ⟨#[]⟩, .string ⟨#[]⟩, .string ⟨#[]⟩, .string ⟨#[]⟩, .string ⟨#[]⟩, .string ⟨#[]⟩, .string ⟨#[]⟩, .string ⟨#[]⟩, .string ⟨#[]⟩, .string ⟨#[]⟩, .string ⟨#[]⟩, .string ⟨#[]⟩, .string ⟨#[]⟩, .string ⟨#[]⟩, .string ⟨#[]⟩] 89)) = .ok () (W.alloc (.cells fl 89))) := by
    exact run_storeVar_new W 89 _ _ (by rw [hfls]; exact info89) (by rw [hfls]; rfl) (FsAt.one hfls hflg)
  have HF0 : Hid (FsAt (W.alloc (.cells fl 89)) W.heap.size fs) := ⟨fl, heap_alloc_new W _, hfls, hflg⟩
  clear hfl hfls hflg hn
  go_enter Tryz.func35, Tryz.ntmps35
  go_wp2_with (first
    | (refine wpList_load_run (P := Tryz.prog) ?_ 89 (.tmp 19) ?_ ⟨x, 0, none⟩ ?_ (.agg fl) ?_ ?_; (rfl); (rfl); (rfl); (exact h1.out))
    | (refine wpList_store_run (P := Tryz.prog) ?_ 89 (.tmp 7) (.tmp 20) ?_ ⟨W.heap.size, 0, none⟩ (.agg fl) ?_ ?_ (W.alloc (.cells fl 89)) ?_ ?_; (rfl); (rfl); (rfl); (rfl); (exact h2.out)))
  have HB0 : Hid (Below W.heap.size W (W.alloc (.cells fl 89))) := bl1 _ _
  clear h1 h2
  generalize W.alloc (.cells fl 89) = W1 at *
  go_loopw [23] (fun q wr => ∃ (i : Nat) (fsi : Nat → ByteArray), i ≤ es.length ∧ q = .int .i64 i ∧ Hid (Below W.heap.size W wr) ∧ Hid (FsAt wr W.heap.size fsi) ∧ Hid (edR bd 0 es fs = edR bd i (es.drop i) fsi)) (fun q _ => es.length - (intOf q).toNat)
  case atStart => exact ⟨0, fs, by omega, rfl, HB0.out, HF0.out, rfl⟩
  case round =>
    obtain ⟨i, fsi, hi, rfl, hb, hf, he⟩ := hrel
    by_cases hlt : i < es.length
    · have hlti : (i : Int) < (es.length : Int) := by omega
      obtain ⟨d, hd⟩ : ∃ d, es[i]? = some d := ⟨_, List.getElem?_eq_getElem hlt⟩
      obtain ⟨g, o, rfl⟩ : ∃ g o, ao = some ⟨g, o, none⟩ := by
        rcases hv.out.2 with ⟨_, h0⟩ | ⟨g, o, cap, cur, h0, _⟩
        · omega
        · cases h0; exact ⟨g, o, rfl⟩
      obtain ⟨c1, c2⟩ := ed_cells hv.out i d hd
      have hgl := hv.out.lt g rfl
      rw [← hb.out.cell (p := ⟨g, o + i * 2, none⟩) hgl] at c1
      rw [← hb.out.cell (p := ⟨g, o + i * 2 + 1, none⟩) hgl] at c2
      have HE : Hid (edR bd 0 es fs = if (ckP bd d.1 d.2).e ≠ 0 then ⟨(ckP bd d.1 d.2).e, i, (ckP bd d.1 d.2).p, fsi⟩ else edR bd (i + 1) (es.drop (i + 1)) (updF fsi (ckP bd d.1 d.2).c (ckP bd d.1 d.2).t)) := by
        unfold Hid
        rw [he.out]
        have : es.drop i = d :: es.drop (i + 1) := by
          rw [List.drop_eq_getElem_cons hlt]
          congr 1
          exact (List.getElem?_eq_some_iff.1 hd).2
        rw [this]
        rfl
      have HD : Hid (d.2.size ≤ maxLen) := hx.out d (List.mem_of_getElem? hd)
      obtain ⟨dc, dt⟩ := d
      dsimp only at c1 c2 HE HD
      clear hd he hgl
      go_wp2_with fail
      have HB1 : Hid (Below W.heap.size W (wr.alloc (.cells #[.string dc, .string dt] 68))) := hb.out.alloc hb.out.size _
      refine (check_any' (fs := fs) (bd := bd) (k := k) _ x dc dt (hSR.out.below HB1.out) (hA.out.below HB1.out) HD.out).mono ?_
      rintro e w2 ⟨rfl, hb2⟩
      have HB2 : Hid (Below W.heap.size W w2) := HB1.out.trans (hb2.mono HB1.out.size)
      have HF2 : Hid (FsAt w2 W.heap.size fsi) := by
        have hl := hf.out.lt
        refine hf.out.kept ?_
        rw [hb2.block _ (by simp; omega), Below.heap_alloc _ _ _ hl]
      have HCK : Hid ((ckP bd dc dt).e = 0 → (ckP bd dc dt).c < 48) := ck_lt
      obtain ⟨ck, hck⟩ : ∃ ck, ckP bd dc dt = ck := ⟨_, rfl⟩
      rw [hck] at HE HCK ⊢
      clear hb2 hck hf HB1
      by_cases h0 : ck.e = 0
      · have h0' : (ck.e != 0) = false := by simpa using h0
        have hcl := HCK.out h0
        have hcli : (ck.c : Int) < 48 := by omega
        have HE2 : Hid (edR bd 0 es fs = edR bd (i + 1) (es.drop (i + 1)) (updF fsi ck.c ck.t)) := by unfold Hid; rw [HE.out, if_neg (by simpa using h0)]
        obtain ⟨arr, a1, a2, a3⟩ := HF2.out
        have hcell : w2.cell? ⟨W.heap.size, ck.c, none⟩ = some (.string (fsi ck.c)) := by rw [cell_of_row w2 W.heap.size ck.c arr 89 (0, 0) a1]; exact a3 _ hcl
        have hfz : w2.frozen? ⟨W.heap.size, ck.c, none⟩ = false := by simp [World.frozen?, a1]
        have HCL : Hid (ck.c < 48) := hcl
        clear h0 HE HCK a1 a2 a3 hcl
        go_wp2_with fail
        go_roundw
        case rel => exact ⟨i + 1, updF fsi ck.c ck.t, by omega, by go_num, HB2.out.setCell (p := ⟨W.heap.size, ck.c, none⟩) (Nat.le_refl _) _, HF2.out.set HCL.out _, HE2.out⟩
        case measure => simp [intOf]; omega
      · have h0' : (ck.e != 0) = true := by simpa using h0
        have HE2 : Hid (edR bd 0 es fs = ⟨ck.e, i, ck.p, fsi⟩) := by unfold Hid; rw [HE.out, if_pos h0]
        have H0 : Hid (ck.e ≠ 0) := h0
        clear h0 HE HCK
        go_wp2_with fail
        go_ret3
        rw [HE2.out]
        exact ⟨rfl, fun _ => HB2.out, fun h => absurd h H0.out⟩
    · have hlti : ¬ (i : Int) < (es.length : Int) := by omega
      have HE2 : Hid (edR bd 0 es fs = ⟨0, 0, 0, fsi⟩) := by
        unfold Hid
        rw [he.out, List.drop_eq_nil_of_le (by omega)]
        rfl
      have hS2 := hSR.out.below hb.out
      have hl := hSR.out.lt
      obtain ⟨arr, a1, a2, a3⟩ := hf.out
      have h3 : Hid ((loadVar 89 ⟨W.heap.size, 0, none⟩).run Tryz.prog wr = .ok (.agg arr) wr) :=
        run_loadVar_row _ _ 89 89 arr (0, 0) (.array 48 9) a1 Tryz.underlying89 rfl (by rw [a2]; exact info89)
      have h4 : Hid ((storeVar 89 ⟨x, 0, none⟩ (.agg arr)).run Tryz.prog wr = .ok () (wr.setCells x 0 arr.toList)) :=
        run_storeVar_mid _ x 0 89 arr (by rw [a2]; exact hS2.row.2) (by rw [a2]; exact info89) (FsAt.one a2 a3)
      have HS3 : Hid _ := hS2.setFs a2 a3
      clear he a1 a2 a3 hS2 hl hf
      go_wp2_with (first
        | (refine wpList_load_run (P := Tryz.prog) ?_ 89 (.tmp 7) ?_ ⟨W.heap.size, 0, none⟩ ?_ (.agg arr) ?_ ?_; (rfl); (rfl); (rfl); (exact h3.out))
        | (refine wpList_store_run (P := Tryz.prog) ?_ 89 (.tmp 48) (.tmp 46) ?_ ⟨x, 0, none⟩ (.agg arr) ?_ ?_ (wr.setCells x 0 arr.toList) ?_ ?_; (rfl); (rfl); (rfl); (rfl); (exact h4.out)))
      go_ret3
      rw [HE2.out]
      refine ⟨rfl, fun h => absurd rfl h, fun _ => ⟨?_, HS3.out.1⟩⟩
      have ho := HS3.out.2
      exact ⟨ho.os.trans hb.out.os, ho.tape.trans hb.out.tape, ho.output.trans hb.out.output, Nat.le_trans hb.out.size ho.size, fun q hq hqx => (ho.block q (Nat.lt_of_lt_of_le hq hb.out.size) hqx).trans (hb.out.block q hq)⟩
end
end Go.Proofs.YtiocnfambeochaaGreatDoor
