/- Texts put together. -/
import Derived.Test.YtlpmmmmniojflaaGreatDoorQ14
import Derived.Test.YtlpmmmmniojflaaGreatDoorQ04
import Derived.Test.YtlpmmmmniojflaaGreatDoorQ09
import Derived.Test.YtlpmmmmniojflaaGreatDoorQ15
import Derived.Test.YtlpmmmmniojflaaGreatDoorQ22
/- Edit, of any batch. -/
set_option linter.unusedVariables false
set_option linter.unusedSimpArgs false
namespace Go.Proofs.YtlpmmmmniojflaaGreatDoor
open Go.RowKit
theorem row_setCell {w : World} {b k : Nat} {cs : Array Value} {u : Value} {t : TypeId} (h : w.heap[b]? = some (.cells cs t (0, 0))) : (w.setCell ⟨b, k, none⟩ u).heap[b]? = some (.cells (cs.setIfInBounds k u) t (0, 0)) := by
  have hlt := (Array.getElem?_eq_some_iff.1 h).1
  have h' : w.heap[b] = .cells cs t (0, 0) := (Array.getElem?_eq_some_iff.1 h).2
  show (w.heap.modify b _)[b]? = _
  rw [Array.getElem?_eq_getElem (by simpa using hlt), Array.getElem_modify_self, h']
  rfl
theorem setCells_row {x : Nat} {t : TypeId} : ∀ (vs : List Value) (o : Nat) (w : World) (cs : Array Value), w.heap[x]? = some (.cells cs t (0, 0)) →
    ∃ cs', (w.setCells x o vs).heap[x]? = some (.cells cs' t (0, 0)) ∧ cs'.size = cs.size ∧ (∀ j, cs'[j]? = if o ≤ j ∧ j < o + vs.length ∧ j < cs.size then vs[j - o]? else cs[j]?) ∧ Only x w (w.setCells x o vs)
  | [], o, w, cs, h => ⟨cs, h, rfl, fun j => by rw [if_neg (by simp; omega)], Only.refl _ _⟩
  | v :: r, o, w, cs, h => by
    obtain ⟨cs', h1, h2, h3, h4⟩ := setCells_row r (o + 1) (w.setCell ⟨x, o, none⟩ v) _ (row_setCell (k := o) (u := v) h)
    refine ⟨cs', h1, by rw [h2, Array.size_setIfInBounds], fun j => ?_, ?_⟩
    rotate_left
    · have h0 : Only x w (w.setCell ⟨x, o, none⟩ v) := ⟨rfl, rfl, rfl, by simp [World.setCell], fun k hk hx => Below.heap_setCell _ _ _ _ hx⟩
      exact h0.trans h4
    rw [h3 j, Array.size_setIfInBounds]
    by_cases hj : j = o
    · subst hj
      rw [if_neg (by omega)]
      by_cases hz : j < cs.size
      · rw [Array.getElem?_setIfInBounds_self_of_lt hz, if_pos (by simp; omega)]; simp
      · rw [if_neg (by omega), Array.getElem?_eq_none (by simp; omega), Array.getElem?_eq_none (by omega)]
    · rw [Array.getElem?_setIfInBounds_ne (fun e => hj e.symm)]
      by_cases hin : o + 1 ≤ j ∧ j < o + 1 + r.length ∧ j < cs.size
      · rw [if_pos hin, if_pos (by simp only [List.length_cons]; omega)]
        have : j - o = (j - (o + 1)) + 1 := by omega
        rw [this, List.getElem?_cons_succ]
      · rw [if_neg hin, if_neg (by simp only [List.length_cons]; omega)]
def edC (e : ByteArray × ByteArray) : List Value := [.string e.1, .string e.2]
def updF (fs : Nat → ByteArray) (c : Nat) (t : ByteArray) : Nat → ByteArray := fun i => if i = c then t else fs i
structure Er where
  e : Int
  i : Nat
  p : Nat
  fs : Nat → ByteArray
def edR (bd : Nat → Int × Int) : Nat → List (ByteArray × ByteArray) → (Nat → ByteArray) → Er
  | _, [], fs => ⟨0, 0, 0, fs⟩
  | i, e :: l, fs => if (ckP bd e.1 e.2).e ≠ 0 then ⟨(ckP bd e.1 e.2).e, i, (ckP bd e.1 e.2).p, fs⟩ else edR bd (i + 1) l (updF fs (ckP bd e.1 e.2).c (ckP bd e.1 e.2).t)
theorem ck_lt {bd : Nat → Int × Int} {cl tx : ByteArray} (h : (ckP bd cl tx).e = 0) : (ckP bd cl tx).c < 48 := by
  unfold ckP at h ⊢
  cases hc : cellN cl.data.toList with
  | none => rw [hc] at h; exact absurd h (by show ¬ (4 : Int) = 0; decide)
  | some c =>
    have hl := cellN_lt hc
    simp only [hc] at h ⊢
    split
    · exact hl
    · rename_i h0
      rw [if_neg h0] at h
      split
      · show 0 < 48; omega
      · unfold ckN
        split
        · split
          · show 0 < 48; omega
          · exact hl
        · exact hl
def FsAt (w : World) (b : Nat) (fs : Nat → ByteArray) : Prop := ∃ arr, w.heap[b]? = some (.cells arr 89 (0, 0)) ∧ arr.size = 48 ∧ ∀ c, c < 48 → arr[c]? = some (.string (fs c))
theorem FsAt.set {w : World} {b : Nat} {fs : Nat → ByteArray} (h : FsAt w b fs) {c : Nat} (hc : c < 48) (t : ByteArray) : FsAt (w.setCell ⟨b, c, none⟩ (.string t)) b (updF fs c t) := by
  obtain ⟨arr, h1, h2, h3⟩ := h
  refine ⟨_, row_setCell h1, by rw [Array.size_setIfInBounds, h2], fun j hj => ?_⟩
  unfold updF
  by_cases e : j = c
  · subst e; rw [if_pos rfl, Array.getElem?_setIfInBounds_self_of_lt (by omega)]
  · rw [if_neg e, Array.getElem?_setIfInBounds_ne (fun h => e h.symm)]; exact h3 j hj
theorem FsAt.kept {w w' : World} {b : Nat} {fs : Nat → ByteArray} (h : FsAt w b fs) (hb : w'.heap[b]? = w.heap[b]?) : FsAt w' b fs := by
  obtain ⟨arr, h1, h2⟩ := h
  exact ⟨arr, by rw [hb]; exact h1, h2⟩
theorem FsAt.lt {w : World} {b : Nat} {fs : Nat → ByteArray} (h : FsAt w b fs) : b < w.heap.size := by
  obtain ⟨arr, h1, h2⟩ := h
  exact (Array.getElem?_eq_some_iff.1 h1).1
theorem info89 : (Tryz.prog.info? 89).map (·.size) = some 48 := by kernel_rfl
theorem FsAt.one {fs : Nat → ByteArray} {arr : Array Value} (h2 : arr.size = 48) (h3 : ∀ c, c < 48 → arr[c]? = some (.string (fs c))) : arr.all (·.oneCell') = true := by
  refine Array.all_eq_true_iff_forall_mem.2 fun v hv => ?_
  obtain ⟨j, hj⟩ := Array.getElem?_of_mem hv
  have hl := (Array.getElem?_eq_some_iff.1 hj).1
  rw [h3 j (by omega)] at hj
  cases hj; rfl
section
variable {fs : Nat → ByteArray} {bd : Nat → Int × Int} {k : Kp}
theorem SR.row {w : World} {x : Nat} (h : SR w x fs bd k) : w.rangeAt x 0 ((List.range 48).map fun c => Value.string (fs c)) ∧ w.there x 0 48 := by
  obtain ⟨cs, hb, hs⟩ := h.blk
  refine ⟨fun j v hj => ?_, fun j hj => ⟨?_, by simp [World.frozen?, hb]⟩⟩
  · rw [List.getElem?_map] at hj
    obtain ⟨hlt, _⟩ : j < 48 ∧ True := by
      refine ⟨?_, trivial⟩
      rcases Nat.lt_or_ge j 48 with h | h
      · exact h
      · rw [List.getElem?_eq_none (by simpa using h)] at hj; cases hj
    rw [List.getElem?_range hlt] at hj
    cases hj
    rw [Nat.zero_add]; exact h.fs j hlt
  · rw [Nat.zero_add, h.fs j hj]; rfl
theorem SR.setFs {w : World} {x : Nat} (h : SR w x fs bd k) {fs' : Nat → ByteArray} {arr : Array Value} (h2 : arr.size = 48) (h3 : ∀ c, c < 48 → arr[c]? = some (.string (fs' c))) :
    SR (w.setCells x 0 arr.toList) x fs' bd k ∧ Only x w (w.setCells x 0 arr.toList) := by
  obtain ⟨cs, hb, hs⟩ := h.blk
  obtain ⟨cs', e1, e2, e3, e4⟩ := setCells_row arr.toList 0 w cs hb
  have hc : ∀ t, (w.setCells x 0 arr.toList).cell? ⟨x, t, none⟩ = cs'[t]? := fun t => cell_of_row _ _ t cs' 104 (0, 0) e1
  have hc0 : ∀ t, w.cell? ⟨x, t, none⟩ = cs[t]? := fun t => cell_of_row _ _ t cs 104 (0, 0) hb
  have hother : ∀ t, 48 ≤ t → (w.setCells x 0 arr.toList).cell? ⟨x, t, none⟩ = w.cell? ⟨x, t, none⟩ := fun t ht => by
    rw [hc, hc0, e3, if_neg (by rw [Array.length_toList, h2]; omega)]
  refine ⟨{ blk := ⟨cs', e1, by rw [e2, hs]⟩, fs := fun c hl => ?_, bdr := h.bdr, bnd := fun c hl => ?_, kp := h.kp.keep (fun t ht => hother _ (by omega)) fun g cur hg _ => ⟨e4.block g (Array.getElem?_eq_some_iff.1 hg).1 (fun e => h.notRead cur (e ▸ hg)), trivial⟩ }, e4⟩
  · rw [hc, e3, if_pos (by rw [Array.length_toList, h2, hs]; omega), Nat.sub_zero, Array.getElem?_toList]; exact h3 c hl
  · rw [hother _ (by omega), hother _ (by omega)]; exact h.bnd c hl
theorem ed_cells {w : World} {g o n cap : Nat} {es : List (ByteArray × ByteArray)} (h : Slc w 68 2 (.slice (some ⟨g, o, none⟩) n cap) n (es.flatMap edC)) (i : Nat) (e : ByteArray × ByteArray) (hi : es[i]? = some e) :
    w.cell? ⟨g, o + i * 2, none⟩ = some (.string e.1) ∧ w.cell? ⟨g, o + i * 2 + 1, none⟩ = some (.string e.2) := by
  have fl : ∀ (l : List (ByteArray × ByteArray)) (i : Nat), l[i]? = some e → (l.flatMap edC)[i * 2]? = some (.string e.1) ∧ (l.flatMap edC)[i * 2 + 1]? = some (.string e.2) := by
    intro l
    induction l with
    | nil => intro i hi; simp at hi
    | cons a l ih =>
      intro i hi
      cases i with
      | zero => simp at hi; subst hi; exact ⟨rfl, rfl⟩
      | succ i =>
        rw [List.getElem?_cons_succ] at hi
        have := ih i hi
        rw [List.flatMap_cons]
        have l2 : (edC a).length = 2 := rfl
        refine ⟨?_, ?_⟩
        · rw [List.getElem?_append_right (by omega), l2, show (i + 1) * 2 - 2 = i * 2 by omega]; exact this.1
        · rw [List.getElem?_append_right (by omega), l2, show (i + 1) * 2 + 1 - 2 = i * 2 + 1 by omega]; exact this.2
  obtain ⟨f1, f2⟩ := fl es i hi
  refine ⟨h.cell _ _ f1, ?_⟩
  rw [Nat.add_assoc]; exact h.cell _ _ f2
set_option maxHeartbeats 4000000 in
set_option maxRecDepth 100000 in
theorem edit_any (W : World) (x : Nat) (v : Value) (es : List (ByteArray × ByteArray)) (hSR : Hid (SR W x fs bd k)) (hA : Hid (Amb W)) (hv : Hid (Slc W 68 2 v es.length (es.flatMap edC))) (hn : es.length ≤ 8) (hx : Hid (∀ e ∈ es, e.2.size ≤ maxLen)) :
    Calls Tryz.prog 35 #[.pointer (some ⟨x, 0, none⟩), v] W fun e w' => e = .returned (.tuple #[.int .i64 (edR bd 0 es fs).e, .int .i64 (edR bd 0 es fs).i, .int .i64 (edR bd 0 es fs).p]) ∧
      Hid (((edR bd 0 es fs).e ≠ 0 → Below W.heap.size W w') ∧ ((edR bd 0 es fs).e = 0 → Only x W w' ∧ SR w' x (edR bd 0 es fs).fs bd k)) := by
  obtain ⟨ao, cp, rfl⟩ := hv.out.len
  have hni : ¬ (8 : Int) < (es.length : Int) := by omega
  have HN : Hid (es.length ≤ 8) := hn
  obtain ⟨fl, hfl⟩ : ∃ fl : Array Value, fl = ((List.range 48).map fun c => Value.string (fs c)).toArray := ⟨_, rfl⟩
  have hfls : fl.size = 48 := by rw [hfl]; simp
  have hflg : ∀ c, c < 48 → fl[c]? = some (.string (fs c)) := by
    intro c hc
    rw [hfl, List.getElem?_toArray, List.getElem?_map, List.getElem?_range hc]; rfl
  have h1 : Hid ((loadVar 89 ⟨x, 0, none⟩).run Tryz.prog W = .ok (.agg fl) W) := by
    unfold Hid; rw [hfl]
    exact run_loadVar_mid W x 0 89 _ (.array 48 9) hSR.out.row.1 Tryz.underlying89 rfl (by simpa using info89)
  have h2 : Hid ((storeVar 89 ⟨W.heap.size, 0, none⟩ (.agg fl)).run Tryz.prog (W.alloc (.cells #[.string ⟨#[]⟩, .string ⟨#[]⟩, .string ⟨#[]⟩, .string ⟨#[]⟩, .string ⟨#[]⟩, .string ⟨#[]⟩, .string ⟨#[]⟩, .string ⟨#[]⟩, .string ⟨#[]⟩, .string ⟨#[]⟩, .string ⟨#[]⟩, .string ⟨#[]⟩, .string ⟨#[]⟩, .string ⟨#[]⟩, .string ⟨#[]⟩, .string ⟨#[]⟩, .string ⟨#[]⟩, .string ⟨#[]⟩, .string ⟨#[]⟩, .string ⟨#[]⟩, .string ⟨#[]⟩, .string ⟨#[]⟩, .string ⟨#[]⟩, .string ⟨#[]⟩, .string ⟨#[]⟩, .string ⟨#[]⟩, .string ⟨#[]⟩, .string ⟨#[]⟩, .string ⟨#[]⟩, .string ⟨#[]⟩, .string ⟨#[]⟩, .string ⟨#[]⟩, .string ⟨#[]⟩, .string ⟨#[]⟩, .string ⟨#[]⟩, .string ⟨#[]⟩, .string ⟨#[]⟩, .string ⟨#[]⟩, .string ⟨#[]⟩, .string ⟨#[]⟩, .string ⟨#[]⟩, .string ⟨#[]⟩, .string ⟨#[]⟩, .string ⟨#[]⟩, .string ⟨#[]⟩, .string ⟨#[]⟩, .string ⟨#[]⟩, .string ⟨#[]⟩] 89)) = .ok () (W.alloc (.cells fl 89))) := by
    exact run_storeVar_new W 89 _ _ (by rw [hfls]; exact info89) (by rw [hfls]; rfl) (FsAt.one hfls hflg)
  have HF0 : Hid (FsAt (W.alloc (.cells fl 89)) W.heap.size fs) := ⟨fl, heap_alloc_new W _, hfls, hflg⟩
  clear hfl hfls hflg hn
  go_enter Tryz.func35, Tryz.ntmps35
  go_wp2_with (first
    | (refine wpList_load_run (P := Tryz.prog) ?_ 89 (.tmp 19) ?_ ⟨x, 0, none⟩ ?_ (.agg fl) ?_ ?_; (rfl); (rfl); (rfl); (exact h1.out))
    | (refine wpList_store_run (P := Tryz.prog) ?_ 89 (.tmp 7) (.tmp 20) ?_ ⟨W.heap.size, 0, none⟩ (.agg fl) ?_ ?_ (W.alloc (.cells fl 89)) ?_ ?_; (rfl); (rfl); (rfl); (rfl); (exact h2.out)))
  have HB0 : Hid (Below W.heap.size W (W.alloc (.cells fl 89))) := bl1 _ _
  clear h1 h2
  generalize W.alloc (.cells fl 89) = W1 at *
  go_loopw [23] (fun q wr => ∃ (i : Nat) (fsi : Nat → ByteArray), i ≤ es.length ∧ q = .int .i64 i ∧ Hid (Below W.heap.size W wr) ∧ Hid (FsAt wr W.heap.size fsi) ∧ Hid (edR bd 0 es fs = edR bd i (es.drop i) fsi)) (fun q _ => es.length - (intOf q).toNat)
  case atStart => exact ⟨0, fs, by omega, rfl, HB0.out, HF0.out, rfl⟩
  case round =>
    obtain ⟨i, fsi, hi, rfl, hb, hf, he⟩ := hrel
    by_cases hlt : i < es.length
    · have hlti : (i : Int) < (es.length : Int) := by omega
      obtain ⟨d, hd⟩ : ∃ d, es[i]? = some d := ⟨_, List.getElem?_eq_getElem hlt⟩
      obtain ⟨g, o, rfl⟩ : ∃ g o, ao = some ⟨g, o, none⟩ := by
        rcases hv.out.2 with ⟨_, h0⟩ | ⟨g, o, cap, cur, h0, _⟩
        · omega
        · cases h0; exact ⟨g, o, rfl⟩
      obtain ⟨c1, c2⟩ := ed_cells hv.out i d hd
      have hgl := hv.out.lt g rfl
      rw [← hb.out.cell (p := ⟨g, o + i * 2, none⟩) hgl] at c1
      rw [← hb.out.cell (p := ⟨g, o + i * 2 + 1, none⟩) hgl] at c2
      have HE : Hid (edR bd 0 es fs = if (ckP bd d.1 d.2).e ≠ 0 then ⟨(ckP bd d.1 d.2).e, i, (ckP bd d.1 d.2).p, fsi⟩ else edR bd (i + 1) (es.drop (i + 1)) (updF fsi (ckP bd d.1 d.2).c (ckP bd d.1 d.2).t)) := by
        unfold Hid
        rw [he.out]
        have : es.drop i = d :: es.drop (i + 1) := by
          rw [List.drop_eq_getElem_cons hlt]
          congr 1
          exact (List.getElem?_eq_some_iff.1 hd).2
        rw [this]
        rfl
      have HD : Hid (d.2.size ≤ maxLen) := hx.out d (List.mem_of_getElem? hd)
      obtain ⟨dc, dt⟩ := d
      dsimp only at c1 c2 HE HD
      clear hd he hgl
      go_wp2_with fail
      have HB1 : Hid (Below W.heap.size W (wr.alloc (.cells #[.string dc, .string dt] 68))) := hb.out.alloc hb.out.size _
      refine (check_any' (fs := fs) (bd := bd) (k := k) _ x dc dt (hSR.out.below HB1.out) (hA.out.below HB1.out) HD.out).mono ?_
      rintro e w2 ⟨rfl, hb2⟩
      have HB2 : Hid (Below W.heap.size W w2) := HB1.out.trans (hb2.mono HB1.out.size)
      have HF2 : Hid (FsAt w2 W.heap.size fsi) := by
        have hl := hf.out.lt
        refine hf.out.kept ?_
        rw [hb2.block _ (by simp; omega), Below.heap_alloc _ _ _ hl]
      have HCK : Hid ((ckP bd dc dt).e = 0 → (ckP bd dc dt).c < 48) := ck_lt
      obtain ⟨ck, hck⟩ : ∃ ck, ckP bd dc dt = ck := ⟨_, rfl⟩
      rw [hck] at HE HCK ⊢
      clear hb2 hck hf HB1
      by_cases h0 : ck.e = 0
      · have h0' : (ck.e != 0) = false := by simpa using h0
        have hcl := HCK.out h0
        have hcli : (ck.c : Int) < 48 := by omega
        have HE2 : Hid (edR bd 0 es fs = edR bd (i + 1) (es.drop (i + 1)) (updF fsi ck.c ck.t)) := by unfold Hid; rw [HE.out, if_neg (by simpa using h0)]
        obtain ⟨arr, a1, a2, a3⟩ := HF2.out
        have hcell : w2.cell? ⟨W.heap.size, ck.c, none⟩ = some (.string (fsi ck.c)) := by rw [cell_of_row w2 W.heap.size ck.c arr 89 (0, 0) a1]; exact a3 _ hcl
        have hfz : w2.frozen? ⟨W.heap.size, ck.c, none⟩ = false := by simp [World.frozen?, a1]
        have HCL : Hid (ck.c < 48) := hcl
        clear h0 HE HCK a1 a2 a3 hcl
        go_wp2_with fail
        go_roundw
        case rel => exact ⟨i + 1, updF fsi ck.c ck.t, by omega, by go_num, HB2.out.setCell (p := ⟨W.heap.size, ck.c, none⟩) (Nat.le_refl _) _, HF2.out.set HCL.out _, HE2.out⟩
        case measure => simp [intOf]; omega
      · have h0' : (ck.e != 0) = true := by simpa using h0
        have HE2 : Hid (edR bd 0 es fs = ⟨ck.e, i, ck.p, fsi⟩) := by unfold Hid; rw [HE.out, if_pos h0]
        have H0 : Hid (ck.e ≠ 0) := h0
        clear h0 HE HCK
        go_wp2_with fail
        go_ret3
        rw [HE2.out]
        exact ⟨rfl, fun _ => HB2.out, fun h => absurd h H0.out⟩
    · have hlti : ¬ (i : Int) < (es.length : Int) := by omega
      have HE2 : Hid (edR bd 0 es fs = ⟨0, 0, 0, fsi⟩) := by
        unfold Hid
        rw [he.out, List.drop_eq_nil_of_le (by omega)]
        rfl
      have hS2 := hSR.out.below hb.out
      have hl := hSR.out.lt
      obtain ⟨arr, a1, a2, a3⟩ := hf.out
      have h3 : Hid ((loadVar 89 ⟨W.heap.size, 0, none⟩).run Tryz.prog wr = .ok (.agg arr) wr) :=
        run_loadVar_row _ _ 89 89 arr (0, 0) (.array 48 9) a1 Tryz.underlying89 rfl (by rw [a2]; exact info89)
      have h4 : Hid ((storeVar 89 ⟨x, 0, none⟩ (.agg arr)).run Tryz.prog wr = .ok () (wr.setCells x 0 arr.toList)) :=
        run_storeVar_mid _ x 0 89 arr (by rw [a2]; exact hS2.row.2) (by rw [a2]; exact info89) (FsAt.one a2 a3)
      have HS3 : Hid _ := hS2.setFs a2 a3
      clear he a1 a2 a3 hS2 hl hf
      go_wp2_with (first
        | (refine wpList_load_run (P := Tryz.prog) ?_ 89 (.tmp 7) ?_ ⟨W.heap.size, 0, none⟩ ?_ (.agg arr) ?_ ?_; (rfl); (rfl); (rfl); (exact h3.out))
        | (refine wpList_store_run (P := Tryz.prog) ?_ 89 (.tmp 48) (.tmp 46) ?_ ⟨x, 0, none⟩ (.agg arr) ?_ ?_ (wr.setCells x 0 arr.toList) ?_ ?_; (rfl); (rfl); (rfl); (rfl); (exact h4.out)))
      go_ret3
      rw [HE2.out]
      refine ⟨rfl, fun h => absurd rfl h, fun _ => ⟨?_, HS3.out.1⟩⟩
      have ho := HS3.out.2
      exact ⟨ho.os.trans hb.out.os, ho.tape.trans hb.out.tape, ho.output.trans hb.out.output, Nat.le_trans hb.out.size ho.size, fun q hq hqx => (ho.block q (Nat.lt_of_lt_of_le hq hb.out.size) hqx).trans (hb.out.block q hq)⟩
end
end Go.Proofs.YtlpmmmmniojflaaGreatDoor
/- An element of an array that is a value. -/
set_option linter.unusedVariables false
set_option linter.unusedSimpArgs false
namespace Go.Proofs.YtlpmmmmniojflaaGreatDoor
open Go.RowKit
theorem run_index_one {P : Program} (w : World) (t e : TypeId) (n : Nat) (cs : Array Value) (j : Nat) (v : Value) (hu : P.underlying t = some (.array n e)) (hs : (P.info? e).map (·.size) = some 1) (ha : (isAgg e).run P w = .ok false w) (hj : j < n) (hv : cs[j]? = some v) :
    (Instr.index t (.agg cs) (.int .i64 j)).run P w = .ok v w := by
  cases hq : P.info? e with
  | none => simp [hq] at hs
  | some i =>
    have hi : i.size = 1 := by simpa [hq] using hs
    simp [Instr.index, run_underlying hu, asIntOf, hj, sizeOf, typeInfo, hq, hi, part, ha, hv]
theorem run_index_agg {P : Program} (w : World) (t e : TypeId) (n sz : Nat) (cs : Array Value) (j : Nat) (hu : P.underlying t = some (.array n e)) (hs : (P.info? e).map (·.size) = some sz) (ha : (isAgg e).run P w = .ok true w) (hj : j < n) :
    (Instr.index t (.agg cs) (.int .i64 j)).run P w = .ok (.agg (cs.extract (j * sz) (j * sz + sz))) w := by
  cases hq : P.info? e with
  | none => simp [hq] at hs
  | some i =>
    have hi : i.size = sz := by simpa [hq] using hs
    simp [Instr.index, run_underlying hu, asIntOf, hj, sizeOf, typeInfo, hq, hi, part, ha]
theorem agg9 (w : World) : (isAgg 9).run Tryz.prog w = .ok false w := by simp [isAgg, run_underlying Tryz.underlying9]
theorem agg4 (w : World) : (isAgg 4).run Tryz.prog w = .ok false w := by simp [isAgg, run_underlying Tryz.underlying4]
theorem agg184 (w : World) : (isAgg 184).run Tryz.prog w = .ok true w := by simp [isAgg, run_underlying Tryz.underlying184]
theorem info9s : (Tryz.prog.info? 9).map (·.size) = some 1 := by kernel_rfl
theorem info4s : (Tryz.prog.info? 4).map (·.size) = some 1 := by kernel_rfl
theorem info184s : (Tryz.prog.info? 184).map (·.size) = some 16 := by kernel_rfl
theorem index89 (w : World) {cs : Array Value} {j : Nat} {v : Value} (hj : j < 48) (hv : cs[j]? = some v) : (Instr.index 89 (.agg cs) (.int .i64 j)).run Tryz.prog w = .ok v w := run_index_one w 89 9 48 cs j v Tryz.underlying89 info9s (agg9 w) hj hv
theorem index146 (w : World) {cs : Array Value} {j : Nat} {v : Value} (hj : j < 48) (hv : cs[j]? = some v) : (Instr.index 146 (.agg cs) (.int .i64 j)).run Tryz.prog w = .ok v w := run_index_one w 146 4 48 cs j v Tryz.underlying146 info4s (agg4 w) hj hv
theorem index185 (w : World) {cs : Array Value} {j : Nat} (hj : j < 48) : (Instr.index 185 (.agg cs) (.int .i64 j)).run Tryz.prog w = .ok (.agg (cs.extract (j * 16) (j * 16 + 16))) w := run_index_agg w 185 184 48 16 cs j Tryz.underlying185 info184s (agg184 w) hj
theorem wpList_index_run {P : Program} {ops : Array Oper} {rest : List Oper} {op : Oper} {a : Act} {w : World} {Q : Exit → Act → World → Prop} (hgd : op.guard = none) (ty : TypeId) (x y : Operand) (ho : op.op = .index ty x y)
    (u z v : Value) (hx : a.eval x = u) (hy : a.eval y = z) (hr : (Instr.index ty u z).run P w = .ok v w) (h : wpList P ops Q rest (a.put op.dst v) w) : wpList P ops Q (op :: rest) a w :=
  wpList_plain hgd fun _ hK => by
    unfold Oper.wp execOp
    simp only [ho, hx, hy, Sem.run_bind, Sem.run_pure, Result.andThen_ok, hr]
    exact hK _ _ h
end Go.Proofs.YtlpmmmmniojflaaGreatDoor
/- A sheet, walked: Value, Bound, worked. -/
set_option linter.unusedVariables false
set_option linter.unusedSimpArgs false
namespace Go.Proofs.YtlpmmmmniojflaaGreatDoor
open Go.RowKit
theorem results_ct {fn : Func} {p u : Tmp} {ty : TypeId} (h : fn.results = #[.cell p ty, .tmp u]) (tmps : Array Value) (P : Program) (w : World) (ad : Addr) (v : Value) (w' : World) (hp : tmps.getD p undef = .pointer (some ad)) (hl : (loadVar ty ad).run P w = .ok v w') :
    (results fn tmps).run P w = .ok (.tuple #[v, tmps.getD u undef]) w' := by
  simp only [results, h]
  rw [Array.getD_eq_getD_getElem?] at hp
  simp [Sem.run_bind, Result.andThen, hp, asAddr, hl]
set_option maxRecDepth 100000 in
theorem load89 {W : World} {q : Nat} {cs : Array Value} {t : TypeId} (h : W.heap[q]? = some (.cells cs t (0, 0))) (hs : cs.size = 48) : (loadVar 89 ⟨q, 0, none⟩).run Tryz.prog W = .ok (.agg cs) W :=
  run_loadVar_row _ _ t 89 cs (0, 0) _ h Tryz.underlying89 rfl (by rw [hs]; exact info89)
section
variable {fs : Nat → ByteArray} {bd : Nat → Int × Int} {k : Kp}
set_option maxHeartbeats 1000000 in
theorem value50 (W : World) (x c : Nat) (hc : c < 48) (h : SR W x fs bd k) :
    Calls Tryz.prog 50 #[.pointer (some ⟨x, 144, none⟩), .int .i64 c] W fun e w' => e = .returned (.agg #[.int .i64 (k.last c).v.k, .int .i64 (k.last c).v.n, .string (k.last c).v.s]) ∧ Below W.heap.size W w' := by
  have hl := h.kp.last c hc
  have h1 := hl.k
  have h2 := hl.n
  have h3 := hl.s
  have hx := h.lt
  have hci : (c : Int) < 48 := by omega
  have hc0 : 0 ≤ (c : Int) := by omega
  have g1 := al h1
  have g2 := al h2
  have g3 := al h3
  clear h hl
  go_enter Tryz.func50, Tryz.ntmps50
  go_wp2_with fail
  refine bodyPost_ret (results_cell1 rfl _ _ _ ⟨W.heap.size, 0, none⟩ _ _ rfl (load52 (rnew _ _ _) rfl)) rfl ?_
  exact ⟨rfl, bl1 _ _⟩
set_option maxHeartbeats 1000000 in
theorem value_some (W : World) (x : Nat) (h : SR W x fs bd k) (s : ByteArray) (c : Nat) (hs : cellN s.data.toList = some c) :
    Calls Tryz.prog 29 #[.pointer (some ⟨x, 0, none⟩), .string s] W fun e w' => e = .returned (.tuple #[.agg #[.int .i64 (k.last c).v.k, .int .i64 (k.last c).v.n, .string (k.last c).v.s], .int .i64 0]) ∧ Below W.heap.size W w' := by
  have HC : Hid (c < 48) := cellN_lt hs
  have HSR : Hid (SR W x fs bd k) := h
  have HS : Hid _ := hs
  clear h hs
  go_enter Tryz.func29, Tryz.ntmps29
  go_wp2_with fail
  refine (num_some HS.out _).mono ?_
  rintro e w1 ⟨rfl, n, hw⟩
  have hb : Hid (Below W.heap.size W w1) := by unfold Hid; rw [hw]; exact below_drewN (bl1 _ _) n
  have HR1 : Hid (w1.heap[W.heap.size]? = some (.cells #[.int .i64 0, .int .i64 0, .string ⟨#[]⟩] 52 (0, 0))) := by
    unfold Hid; rw [hw]; exact rnew W _ _
  clear hw
  go_wp2_with fail
  refine (value50 w1 x c HC.out (HSR.out.below hb.out)).mono ?_
  rintro e w2 ⟨rfl, hb2⟩
  have HR : Hid (w2.heap[W.heap.size]? = some (.cells #[.int .i64 0, .int .i64 0, .string ⟨#[]⟩] 52 (0, 0))) := by
    unfold Hid; rw [hb2.block _ (Array.getElem?_eq_some_iff.1 HR1.out).1]; exact HR1.out
  obtain ⟨z0, z1, z2, z3, z4, z5⟩ := box3 rfl HR.out
  have HB : Hid (Below W.heap.size W w2) := hb.out.trans (hb2.mono hb.out.size)
  clear hb2 HR1
  go_wp2_with fail
  refine bodyPost_ret (results_ct rfl _ _ _ ⟨W.heap.size, 0, none⟩ _ _ rfl (load52 (rset (rset (rset HR.out))) rfl)) rfl ?_
  exact ⟨rfl, by repeat (first | exact HB.out | refine Below.setCell ?_ (by dsimp only; omega) _)⟩
set_option maxRecDepth 100000 in
set_option maxHeartbeats 2000000 in
theorem worked_w (W : World) (x : Nat) (fs' : Nat → ByteArray) (arr : Array Value) (h2 : arr.size = 48) (h3 : ∀ c, c < 48 → arr[c]? = some (.string (fs' c))) (h : SR W x fs bd k) (B : Bool) (hB : Hid (B = true ↔ ∀ c, c < 48 → (k.last c).f = fs' c)) :
    Calls Tryz.prog 82 #[.pointer (some ⟨x, 144, none⟩), .agg arr] W fun e w' => e = .returned (.bool B) ∧ Below W.heap.size W w' := by
  have HSR : Hid (SR W x fs bd k) := h
  have H2 : Hid (arr.size = 48) := h2
  have H3 : Hid (∀ c, c < 48 → arr[c]? = some (.string (fs' c))) := h3
  have HO : Hid (arr.all (·.oneCell') = true) := FsAt.one h2 h3
  have HL : Hid ((loadVar 89 ⟨W.heap.size, 0, none⟩).run Tryz.prog (W.alloc (.cells arr 89)) = .ok (.agg arr) (W.alloc (.cells arr 89))) := load89 (rnew _ _ _) h2
  have HB1 : Hid (Below W.heap.size W (W.alloc (.cells arr 89))) := bl1 _ _
  clear h h2 h3
  go_enter Tryz.func82, Tryz.ntmps82
  go_wp2_with ((refine wpList_load_run (P := Tryz.prog) ?_ 89 (.tmp 3) ?_ ⟨W.heap.size, 0, none⟩ ?_ (.agg arr) ?_ ?_; (rfl); (rfl); (rfl); (exact HL.out)))
  clear HL
  generalize W.alloc (Obj.cells arr 89) = W1 at *
  have HS1 : Hid (SR W1 x fs bd k) := HSR.out.below HB1.out
  go_loopw [8] (fun s wr => ∃ j : Nat, s = .int .i64 j ∧ wr = W1 ∧ Hid (j ≤ 48) ∧ Hid (∀ c, c < j → (k.last c).f = fs' c)) (fun s _ => (48 - intOf s).toNat)
  case atStart => exact ⟨0, rfl, rfl, Nat.zero_le _, fun c hc => absurd hc (by omega)⟩
  case round =>
    obtain ⟨j, rfl, rfl, HJ, HA⟩ := hrel
    by_cases hj : j < 48
    · have hji : (j : Int) < 48 := by omega
      have hj0 : 0 ≤ (j : Int) := by omega
      have w1' : IntKind.i64.wrap ((j : Int) + 1) = (j : Int) + 1 := by rw [IntKind.wrap_i64]; omega
      have w2' : wrap64 ((j : Int) + 1) = (j : Int) + 1 := by unfold wrap64; omega
      have HIX : Hid (∀ w, (Instr.index 89 (.agg arr) (.int .i64 j)).run Tryz.prog w = .ok (.string (fs' j)) w) := fun w => index89 w hj (H3.out j hj)
      have hs := H2.out
      have hf := (HS1.out.kp.last j hj).f
      have HJ' : Hid (j < 48) := hj
      by_cases he : (k.last j).f = fs' j
      · have he1 : ((k.last j).f.toList == (fs' j).toList) = true := by rw [he]; simp
        have he2 : (k.last j).f.toList = (fs' j).toList := by rw [he]
        clear hj HJ
        go_wp2_with ((refine wpList_index_run (P := Tryz.prog) ?_ 89 (.tmp 7) (.tmp 8) ?_ (.agg arr) (.int .i64 j) (.string (fs' j)) ?_ ?_ ?_ ?_; (rfl); (rfl); (rfl); (rfl); (exact HIX.out _)))
        go_roundw
        case rel =>
          refine ⟨j + 1, by go_num, by trivial, HJ'.out, fun c hc => ?_⟩
          by_cases hcj : c = j
          · rw [hcj]; exact he
          · exact HA.out c (by omega)
        case measure => simp [intOf]; omega
      · have hfl : ¬ (k.last j).f.toList = (fs' j).toList := fun e => he (ba_list e)
        have hfb : ((k.last j).f.toList == (fs' j).toList) = false := by simpa using hfl
        have HBF : Hid (B = false) := by
          unfold Hid
          cases hb : B with
          | false => rfl
          | true => exact absurd (hB.out.1 hb j hj) he
        clear hj HJ he
        go_wp2_with ((refine wpList_index_run (P := Tryz.prog) ?_ 89 (.tmp 7) (.tmp 8) ?_ (.agg arr) (.int .i64 j) (.string (fs' j)) ?_ ?_ ?_ ?_; (rfl); (rfl); (rfl); (rfl); (exact HIX.out _)))
        go_ret
        rw [HBF.out]
        exact ⟨rfl, HB1.out⟩
    · have hge : ¬ (j : Int) < 48 := by omega
      have HBT : Hid (B = true) := hB.out.2 (fun c hc => HA.out c (by omega))
      clear hj
      go_wp2_with fail
      go_ret
      rw [HBT.out]
      exact ⟨rfl, HB1.out⟩
end
end Go.Proofs.YtlpmmmmniojflaaGreatDoor
/- A working out begins: its block. -/
set_option linter.unusedVariables false
set_option linter.unusedSimpArgs false
namespace Go.Proofs.YtlpmmmmniojflaaGreatDoor
open Go.RowKit
def zTask : List Value := [.int .i64 0, .int .i64 0, .slice none 0 0, .int .i64 0, .slice none 0 0, .int .i64 0, .int .i64 0, .int .i64 0, .bool false, .slice none 0 0, .slice none 0 0, .string eB, .slice none 0 0, .int .i64 0, .int .i64 0, .string eB]
theorem z_tasks : (Tryz.zeroCells187.toList.drop 290).take 768 = (List.replicate 48 zTask).flatten := by kernel_rfl
theorem z_begun : Tryz.zeroCells187[1058]? = some (.slice none 0 0) := by kernel_rfl
theorem size187 : Tryz.zeroCells187.size = 1059 := by kernel_rfl
theorem info96 : (Tryz.prog.info? 96).map (·.size) = some 240 := by kernel_rfl
theorem z_task (c t : Nat) (hc : c < 48) (ht : t < 16) : Tryz.zeroCells187[290 + c * 16 + t]? = zTask[t]? := by
  have h := flat_rep (l := zTask) 48 c t hc (by show t < 16; exact ht)
  rw [← z_tasks] at h
  rw [show zTask.length = 16 from rfl, List.getElem?_take_of_lt (by omega), List.getElem?_drop] at h
  rw [← h, Array.getElem?_toList]
  congr 1; omega
structure NB (Z : Array Value) (fs : Nat → ByteArray) (L : Array Value) (x : Nat) (way : Nat) : Prop where
  size : Z.size = 1059
  fs : ∀ c, c < 48 → Z[c]? = some (.string (fs c))
  last : ∀ i, i < 240 → Z[48 + i]? = L[i]?
  sp : Z[288]? = some (.pointer (some ⟨x, 432, none⟩))
  way : Z[289]? = some (.int .i64 way)
  rest : ∀ i, 290 ≤ i → Z[i]? = Tryz.zeroCells187[i]?
structure LV (w : World) (L : Array Value) (last : Nat → Ans) : Prop where
  size : L.size = 240
  one : L.all (·.oneCell') = true
  f : ∀ c, c < 48 → L[c * 5]? = some (.string (last c).f)
  rs : ∀ c, c < 48 → ∃ v, L[c * 5 + 1]? = some v ∧ RdSl w v (last c).rs
  k : ∀ c, c < 48 → L[c * 5 + 2]? = some (.int .i64 (last c).v.k)
  n : ∀ c, c < 48 → L[c * 5 + 3]? = some (.int .i64 (last c).v.n)
  s : ∀ c, c < 48 → L[c * 5 + 4]? = some (.string (last c).v.s)
theorem LV.below {w w' : World} {L : Array Value} {last : Nat → Ans} (h : LV w L last) (hb : Below w.heap.size w w') : LV w' L last :=
  ⟨h.size, h.one, h.f, fun c hc => by obtain ⟨v, h1, h2⟩ := h.rs c hc; exact ⟨v, h1, Slc.kept h2 fun g hg => hb.block g (h2.lt g hg)⟩, h.k, h.n, h.s⟩
def tkZ : Tsk := ⟨0, 0, [], 0, retA vN, ans0⟩
def rn0 (fs : Nat → ByteArray) (k : Kp) (way : Nat) : Rn := ⟨fs, k.last, k.store, way, fun _ => tkZ, []⟩
def own0 : Nat → Nat := fun _ => 0
theorem new_RR {w : World} {x : Nat} {fs0 fs : Nat → ByteArray} {bd : Nat → Int × Int} {k : Kp} {way : Nat} {Z L : Array Value} (h : SR w x fs0 bd k) (hL : LV w L k.last) (hZ : NB Z fs L x way) : RR (w.alloc (.cells Z 187)) own0 w.heap.size x (rn0 fs k way) := by
  have hb : (w.alloc (.cells Z 187)).heap[w.heap.size]? = some (.cells Z 187 (0, 0)) := rnew w _ _
  have hbl : Below w.heap.size w (w.alloc (.cells Z 187)) := bl1 _ _
  have hL' := hL.below hbl
  have hx := h.lt
  have hcell : ∀ j, (w.alloc (.cells Z 187)).cell? ⟨w.heap.size, j, none⟩ = Z[j]? := fun j => cell_of_row _ _ j Z 187 (0, 0) hb
  have hkp := (h.below hbl).kp
  have ht : ∀ c, c < 48 → ∀ t, t < 16 → (w.alloc (.cells Z 187)).cell? ⟨w.heap.size, T c + t, none⟩ = zTask[t]? := fun c hc t ht => by
    rw [hcell, ← T_addr, hZ.rest _ (by omega)]; exact z_task c t hc ht
  refine { blk := ⟨Z, hb, hZ.size⟩, fs := fun c hc => by rw [hcell]; exact hZ.fs c hc, last := fun c hc => ?_, sp := by rw [hcell]; exact hZ.sp, way := by rw [hcell]; exact hZ.way, tk := fun c hc => ?_, bg := ⟨.slice none 0 0, by rw [hcell, hZ.rest _ (by omega)]; exact z_begun, slc_nil _ 9 1, fun g hg => by cases hg⟩, sto := ?_, xblk := (h.below hbl).blk, xb := by omega, xo := rfl, bo := rfl }
  · have e : ∀ t, t < 5 → (w.alloc (.cells Z 187)).cell? ⟨w.heap.size, 48 + c * 5 + t, none⟩ = L[c * 5 + t]? := fun t ht => by
      rw [hcell, show 48 + c * 5 + t = 48 + (c * 5 + t) by omega, hZ.last _ (by omega)]
    obtain ⟨v, v1, v2⟩ := hL'.rs c hc
    exact { f := by rw [show 48 + c * 5 = 48 + c * 5 + 0 from rfl, e 0 (by omega)]; exact hL.f c hc, rs := ⟨v, by rw [e 1 (by omega)]; exact v1, v2, fun g hg => rfl⟩, k := by rw [e 2 (by omega)]; exact hL.k c hc, n := by rw [e 3 (by omega)]; exact hL.n c hc, s := by rw [e 4 (by omega)]; exact hL.s c hc }
  · exact { st := by rw [show T c = T c + 0 from rfl, ht c hc 0 (by omega)]; rfl, wt := by rw [ht c hc 1 (by omega)]; rfl, kn := ⟨.slice none 0 0, [], by rw [ht c hc 2 (by omega)]; rfl, ⟨slc_nil _ 95 5, fun g hg => by cases hg⟩, rfl⟩, held := by rw [ht c hc 3 (by omega)]; rfl, run := fun e => absurd e (by show ¬ 0 = 2; decide), ans := fun e => absurd e (by show ¬ 0 = 3; decide), mz := fun e => absurd e (by show ¬ 0 = 3; decide) }
  · exact { places := hkp.places, size := hkp.size, next := hkp.next, len := hkp.stl, kept := fun j a hj => (hkp.kept j a hj).kept (fun t _ => by rfl) (fun g cur hg _ => ⟨rfl, rfl⟩) }
end Go.Proofs.YtlpmmmmniojflaaGreatDoor
