/- How a sheet lies in memory: its formulas, bounds, and what it keeps. New. -/
import Derived.Test.YtiocnfambeochaaGreatDoorNst
import Derived.Test.YtiocnfambeochaaGreatDoorSl
import Derived.Test.YtiocnfambeochaaGreatDoorMath
set_option linter.unusedVariables false
set_option linter.unusedSimpArgs false
namespace Go.Proofs.YtiocnfambeochaaGreatDoor
open Go.RowKit

def rdC (r : Rd) : List Value := [.int .i64 r.nd.c, .bool r.nd.a, .int .i64 r.w.k, .int .i64 r.w.n, .string r.w.s]
def RdSl (w : World) (v : Value) (rs : List Rd) : Prop := Slc w 274 5 v rs.length (rs.flatMap rdC)
/-- An answer lies there; Q: of the row of its reads. -/
structure AnsAt (w : World) (b o : Nat) (a : Ans) (Q : Nat → Prop) : Prop where
  f : w.cell? ⟨b, o, none⟩ = some (.string a.f)
  rs : ∃ v, w.cell? ⟨b, o + 1, none⟩ = some v ∧ RdSl w v a.rs ∧ ∀ g, v.ownBlock = some g → Q g
  k : w.cell? ⟨b, o + 2, none⟩ = some (.int .i64 a.v.k)
  n : w.cell? ⟨b, o + 3, none⟩ = some (.int .i64 a.v.n)
  s : w.cell? ⟨b, o + 4, none⟩ = some (.string a.v.s)
/-- What is kept lies there. -/
structure KR (w : World) (b o : Nat) (k : Kp) (Q : Nat → Prop) : Prop where
  last : ∀ c, c < 48 → AnsAt w b (o + c * 5) (k.last c) Q
  chl : k.ch.length = 48
  ch : ∀ (j c : Nat), k.ch[j]? = some c → w.cell? ⟨b, o + 240 + j, none⟩ = some (.int .i64 c)
  places : w.cell? ⟨b, o + 288, none⟩ = some (.int .i64 k.store.places)
  size : w.cell? ⟨b, o + 289, none⟩ = some (.int .i64 k.store.size)
  next : w.cell? ⟨b, o + 290, none⟩ = some (.int .i64 k.store.next)
  stl : k.store.kept.length = 64
  kept : ∀ (j : Nat) (a : Ans), k.store.kept[j]? = some a → AnsAt w b (o + 291 + j * 5) a Q
/-- A sheet lies in this block. -/
structure SR (w : World) (x : Nat) (fs : Nat → ByteArray) (bd : Nat → Int × Int) (k : Kp) : Prop where
  blk : ∃ cs, w.heap[x]? = some (.cells cs 104 (0, 0)) ∧ cs.size = 755
  fs : ∀ c, c < 48 → w.cell? ⟨x, c, none⟩ = some (.string (fs c))
  bdr : ∀ c, I64 (bd c).1 ∧ I64 (bd c).2
  bnd : ∀ c, c < 48 → w.cell? ⟨x, 48 + c * 2, none⟩ = some (.int .i64 (bd c).1) ∧ w.cell? ⟨x, 48 + c * 2 + 1, none⟩ = some (.int .i64 (bd c).2)
  kp : KR w x 144 k (fun _ => True)
theorem SR.lt {w : World} {x : Nat} {fs : Nat → ByteArray} {bd : Nat → Int × Int} {k : Kp} (h : SR w x fs bd k) : x < w.heap.size := by
  obtain ⟨cs, h1, _⟩ := h.blk
  exact (Array.getElem?_eq_some_iff.1 h1).1
/-- Where the rows of reads stay, and the block's own cells, an answer stays. -/
theorem AnsAt.kept {w w' : World} {b o b' o' : Nat} {a : Ans} {Q Q' : Nat → Prop} (h : AnsAt w b o a Q) (hc : ∀ t, t < 5 → w'.cell? ⟨b', o' + t, none⟩ = w.cell? ⟨b, o + t, none⟩)
    (hr : ∀ g cur, w.heap[g]? = some (.cells cur 274 (0, 0)) → Q g → w'.heap[g]? = w.heap[g]? ∧ Q' g) : AnsAt w' b' o' a Q' where
  f := by rw [show o' = o' + 0 from rfl, hc 0 (by omega)]; exact h.f
  rs := by
    obtain ⟨v, h1, h2, h3⟩ := h.rs
    have hq : ∀ g, v.ownBlock = some g → w'.heap[g]? = w.heap[g]? ∧ Q' g := by
      intro g hg
      rcases h2.2 with ⟨rfl, _⟩ | ⟨g', o, cap, cur, rfl, hb, _⟩
      · cases hg
      · cases hg; exact hr _ _ hb (h3 _ rfl)
    exact ⟨v, by rw [hc 1 (by omega)]; exact h1, h2.kept fun g hg => (hq g hg).1, fun g hg => (hq g hg).2⟩
  k := by rw [hc 2 (by omega)]; exact h.k
  n := by rw [hc 3 (by omega)]; exact h.n
  s := by rw [hc 4 (by omega)]; exact h.s
theorem KR.keep {w w' : World} {b o b' o' : Nat} {k : Kp} {Q Q' : Nat → Prop} (h : KR w b o k Q) (hc : ∀ t, t < 611 → w'.cell? ⟨b', o' + t, none⟩ = w.cell? ⟨b, o + t, none⟩)
    (hr : ∀ g cur, w.heap[g]? = some (.cells cur 274 (0, 0)) → Q g → w'.heap[g]? = w.heap[g]? ∧ Q' g) : KR w' b' o' k Q' where
  last := fun c hlt => (h.last c hlt).kept (fun t ht => by rw [Nat.add_assoc, Nat.add_assoc]; exact hc _ (by omega)) hr
  chl := h.chl
  ch := fun j c hj => by
    have hl := (List.getElem?_eq_some_iff.1 hj).1
    rw [h.chl] at hl
    rw [Nat.add_assoc, hc _ (by omega), ← Nat.add_assoc]; exact h.ch j c hj
  places := by rw [hc _ (by omega)]; exact h.places
  size := by rw [hc _ (by omega)]; exact h.size
  next := by rw [hc _ (by omega)]; exact h.next
  stl := h.stl
  kept := fun j a hj => by
    have hl := (List.getElem?_eq_some_iff.1 hj).1
    rw [h.stl] at hl
    exact (h.kept j a hj).kept (fun t ht => by rw [Nat.add_assoc, Nat.add_assoc, Nat.add_assoc, Nat.add_assoc]; exact hc _ (by omega)) hr
/-- Of the blocks that were there only this one may have changed. -/
structure Only (x : Nat) (w w' : World) : Prop where
  os : w'.os = w.os
  tape : w'.tape = w.tape
  output : w'.output = w.output
  size : w.heap.size ≤ w'.heap.size
  block : ∀ k, k < w.heap.size → k ≠ x → w'.heap[k]? = w.heap[k]?
theorem Only.refl (x : Nat) (w : World) : Only x w w := ⟨rfl, rfl, rfl, Nat.le_refl _, fun _ _ _ => rfl⟩
theorem Only.trans {x : Nat} {a b c : World} (h : Only x a b) (g : Only x b c) : Only x a c :=
  ⟨g.os.trans h.os, g.tape.trans h.tape, g.output.trans h.output, Nat.le_trans h.size g.size, fun k hk hx => (g.block k (Nat.lt_of_lt_of_le hk h.size) hx).trans (h.block k hk hx)⟩
theorem Below.only {w w' : World} (h : Below w.heap.size w w') (x : Nat) : Only x w w' := ⟨h.os, h.tape, h.output, h.size, fun k hk _ => h.block k hk⟩
theorem Only.below {x B : Nat} {w w' : World} (h : Only x w w') (hx : B ≤ x) (hB : B ≤ w.heap.size) : Below B w w' := ⟨h.os, h.tape, h.output, h.size, fun k hk => h.block k (by omega) (by omega)⟩
/-- What happens to another sheet, or to new blocks, is nothing to this one. -/
theorem SR.only {w w' : World} {x y : Nat} {fs : Nat → ByteArray} {bd : Nat → Int × Int} {k : Kp} (h : SR w x fs bd k) (ho : Only y w w') (hne : x ≠ y) (hy : ∀ cur, w.heap[y]? ≠ some (.cells cur 274 (0, 0))) : SR w' x fs bd k := by
  have hb := ho.block x h.lt hne
  have hc : ∀ t, w'.cell? ⟨x, t, none⟩ = w.cell? ⟨x, t, none⟩ := fun t => World.cell?_of_block (w := w) hb
  obtain ⟨cs, h1, h2⟩ := h.blk
  refine { blk := ⟨cs, by rw [hb]; exact h1, h2⟩, fs := fun c hl => by rw [hc]; exact h.fs c hl, bdr := h.bdr, bnd := fun c hl => by rw [hc, hc]; exact h.bnd c hl, kp := h.kp.keep (fun t _ => hc _) fun g cur hg _ => ⟨ho.block g (Array.getElem?_eq_some_iff.1 hg).1 (fun e => hy cur (e ▸ hg)), trivial⟩ }
theorem SR.below {w w' : World} {x : Nat} {fs : Nat → ByteArray} {bd : Nat → Int × Int} {k : Kp} (h : SR w x fs bd k) (hb : Below w.heap.size w w') : SR w' x fs bd k :=
  h.only (y := w.heap.size) (Below.only hb _) (by have := h.lt; omega) (fun cur => by rw [Array.getElem?_eq_none (Nat.le_refl _)]; intro e; cases e)
theorem SR.notRead {w : World} {x : Nat} {fs : Nat → ByteArray} {bd : Nat → Int × Int} {k : Kp} (h : SR w x fs bd k) : ∀ cur, w.heap[x]? ≠ some (.cells cur 274 (0, 0)) := by
  obtain ⟨cs, h1, _⟩ := h.blk
  intro cur e
  rw [h1] at e
  cases e

def zAns : List Value := [.string eB, .slice none 0 0, .int .i64 0, .int .i64 0, .string eB]
theorem flat_rep {l : List Value} : ∀ (n i t : Nat), i < n → t < l.length → ((List.replicate n l).flatten)[i * l.length + t]? = l[t]?
  | 0, i, t, h, _ => absurd h (by omega)
  | n + 1, i, t, h, ht => by
    rw [List.replicate_succ, List.flatten_cons]
    cases i with
    | zero => rw [Nat.zero_mul, Nat.zero_add, List.getElem?_append_left ht]
    | succ i =>
      have e : (i + 1) * l.length + t = l.length + (i * l.length + t) := by rw [Nat.succ_mul]; omega
      rw [e, List.getElem?_append_right (by omega), Nat.add_sub_cancel_left]
      exact flat_rep n i t (by omega) ht
theorem z_last : Tryz.zeroCells102.toList.take 240 = (List.replicate 48 zAns).flatten := by kernel_rfl
theorem z_kept : Tryz.zeroCells102.toList.drop 291 = (List.replicate 64 zAns).flatten := by kernel_rfl
theorem z_mid : Tryz.zeroCells102[289]? = some (.int .i64 0) ∧ Tryz.zeroCells102[290]? = some (.int .i64 0) := by constructor <;> kernel_rfl
theorem z_lastAt (c t : Nat) (hc : c < 48) (ht : t < 5) : Tryz.zeroCells102[c * 5 + t]? = zAns[t]? := by
  have := congrArg (fun l => l[c * 5 + t]?) z_last
  simp only [List.getElem?_take, if_pos (show c * 5 + t < 240 by omega), Array.getElem?_toList] at this
  rw [this]
  exact flat_rep (l := zAns) 48 c t hc ht
theorem z_keptAt (j t : Nat) (hj : j < 64) (ht : t < 5) : Tryz.zeroCells102[291 + (j * 5 + t)]? = zAns[t]? := by
  have := congrArg (fun l => l[j * 5 + t]?) z_kept
  simp only [List.getElem?_drop, Array.getElem?_toList] at this
  rw [this]
  exact flat_rep (l := zAns) 64 j t hj ht
theorem z_texts : Tryz.zeroCells104.toList.take 48 = List.replicate 48 (.string eB) := by kernel_rfl
theorem size104 : Tryz.zeroCells104.size = 755 := by kernel_rfl
theorem info104 : (Tryz.prog.info? 104).map (·.size) = some 755 := by kernel_rfl
def k0 (n : Nat) : Kp := ⟨fun _ => ans0, List.range 48, ⟨n, 0, 0, List.replicate 64 ans0⟩⟩
def bd0 : Nat → Int × Int := fun _ => (-9223372036854775808, 9223372036854775807)
def fs0 : Nat → ByteArray := fun _ => eB
/-- A new sheet's cells; so many cells have their widest bounds. -/
structure ShZ (cs K : Array Value) (j : Nat) : Prop where
  size : cs.size = 755
  texts : ∀ c, c < 48 → cs[c]? = some (.string eB)
  lows : ∀ c, c < j → cs[48 + c * 2]? = some (.int .i64 (-9223372036854775808)) ∧ cs[48 + c * 2 + 1]? = some (.int .i64 9223372036854775807)
  kept : ∀ t, t < 611 → cs[144 + t]? = K[t]?
theorem shZ_new {K : Array Value} (hK : K.size = 611) : ShZ (layAt Tryz.zeroCells104 144 K) K 0 where
  size := by rw [layAt_size, size104]
  texts := fun c hc => by
    rw [layAt_get, if_neg (by omega)]
    have := congrArg (fun l => l[c]?) z_texts
    simp only [List.getElem?_take, if_pos hc, List.getElem?_replicate, Array.getElem?_toList] at this
    exact this
  lows := fun c hc => absurd hc (by omega)
  kept := fun t ht => by rw [layAt_get, if_pos (by rw [hK, size104]; omega), Nat.add_sub_cancel_left]
theorem shZ_next {cs K : Array Value} {j : Nat} (h : ShZ cs K j) (hj : j < 48) : ShZ ((cs.setIfInBounds (48 + j * 2) (.int .i64 (-9223372036854775808))).setIfInBounds (48 + j * 2 + 1) (.int .i64 9223372036854775807)) K (j + 1) where
  size := by simp [h.size]
  texts := fun c hc => by rw [Array.getElem?_setIfInBounds_ne (by omega), Array.getElem?_setIfInBounds_ne (by omega)]; exact h.texts c hc
  lows := fun c hc => by
    have hs := h.size
    by_cases e : c = j
    · subst e
      refine ⟨?_, ?_⟩
      · rw [Array.getElem?_setIfInBounds_ne (by omega), Array.getElem?_setIfInBounds_self_of_lt (by omega)]
      · rw [Array.getElem?_setIfInBounds_self_of_lt (by simp; omega)]
    · have h2 := h.lows c (by omega)
      refine ⟨?_, ?_⟩
      · rw [Array.getElem?_setIfInBounds_ne (by omega), Array.getElem?_setIfInBounds_ne (by omega)]; exact h2.1
      · rw [Array.getElem?_setIfInBounds_ne (by omega), Array.getElem?_setIfInBounds_ne (by omega)]; exact h2.2
  kept := fun t ht => by rw [Array.getElem?_setIfInBounds_ne (by omega), Array.getElem?_setIfInBounds_ne (by omega)]; exact h.kept t ht
theorem ansAt_zero {w : World} {b o : Nat} {Q : Nat → Prop} (h : ∀ t, t < 5 → w.cell? ⟨b, o + t, none⟩ = zAns[t]?) : AnsAt w b o ans0 Q where
  f := h 0 (by omega)
  rs := ⟨.slice none 0 0, h 1 (by omega), slc_nil _ _ _, fun g hg => by cases hg⟩
  k := h 2 (by omega)
  n := h 3 (by omega)
  s := h 4 (by omega)
theorem SR.new {w : World} {cs K : Array Value} {n : Nat} (h : ShZ cs K 48) (hK : KpZ K n 48) : SR (w.alloc (.cells cs 104)) w.heap.size fs0 bd0 (k0 n) := by
  have hb : (w.alloc (.cells cs 104)).heap[w.heap.size]? = some (.cells cs 104 (0, 0)) := heap_alloc_new w _
  have hc : ∀ t, (w.alloc (.cells cs 104)).cell? ⟨w.heap.size, t, none⟩ = cs[t]? := fun t => cell_of_row _ _ t cs 104 (0, 0) hb
  have hk : ∀ t, t < 611 → (w.alloc (.cells cs 104)).cell? ⟨w.heap.size, 144 + t, none⟩ = K[t]? := fun t ht => by rw [hc]; exact h.kept t ht
  refine { blk := ⟨cs, hb, h.size⟩, fs := fun c hl => by rw [hc]; exact h.texts c hl, bdr := fun c => by unfold bd0 I64; simp, bnd := fun c hl => by rw [hc, hc]; exact h.lows c hl, kp := ?_ }
  refine { last := fun c hl => ansAt_zero fun t ht => ?_, chl := by simp [k0], ch := fun j c hj => ?_, places := ?_, size := ?_, next := ?_, stl := by simp [k0], kept := fun j a hj => ?_ }
  · rw [Nat.add_assoc, hk _ (by omega), hK.rest _ (by omega) (by omega), z_lastAt c t hl ht]
  · have hj' : (List.range 48)[j]? = some c := hj
    obtain ⟨hlt, he⟩ := List.getElem?_eq_some_iff.1 hj'
    rw [List.length_range] at hlt
    rw [List.getElem_range] at he
    subst he
    rw [Nat.add_assoc, hk _ (by omega)]; exact hK.chain j hlt
  · rw [hk _ (by omega)]; exact hK.places
  · rw [hk _ (by omega), hK.rest _ (by omega) (by omega)]; exact z_mid.1
  · rw [hk _ (by omega), hK.rest _ (by omega) (by omega)]; exact z_mid.2
  · have hj' : (List.replicate 64 ans0)[j]? = some a := hj
    rw [List.getElem?_replicate] at hj'
    split at hj'
    · rename_i hlt
      cases hj'
      refine ansAt_zero fun t ht => ?_
      have e : 144 + 291 + j * 5 + t = 144 + (291 + (j * 5 + t)) := by omega
      rw [e, hk _ (by omega), hK.rest _ (by omega) (by omega), z_keptAt j t hlt ht]
    · cases hj'

set_option maxHeartbeats 4000000 in
set_option maxRecDepth 100000 in
theorem new_any (n : Nat) (hn : n ≤ 64) (w : World) :
    Calls Tryz.prog 43 #[.int .i64 n] w fun e w' => ∃ x, e = .returned (.tuple #[.pointer (some ⟨x, 0, none⟩), .int .i64 0]) ∧ Hid (w.heap.size ≤ x) ∧ Hid (Below w.heap.size w w') ∧ Hid (SR w' x fs0 bd0 (k0 n)) := by
  have h1 : ¬ (n : Int) < 0 := by omega
  have h2 : ¬ (64 : Int) < n := by omega
  go_enter Tryz.func43, Tryz.ntmps43
  go_wp2_with fail
  refine (newKept_w n _).mono ?_
  rintro e w1 ⟨K, rfl, hK, hb1⟩
  have hsz := hK.out.size
  obtain ⟨C, hC⟩ : ∃ C, Array.foldl (fun (cs : Array Value) x => cs.setIfInBounds (144 + x.snd) x.fst) Tryz.zeroCells104 K.zipIdx 0 611 = C := ⟨_, rfl⟩
  have HC : Hid (ShZ C K 0) := by
    have := shZ_new hsz
    unfold layAt at this
    rw [hsz, hC] at this
    exact this
  have hcs := HC.out.size
  go_wp2_with fail
  clear hC hcs hsz
  go_loopw [16] (fun x wr => ∃ (j : Nat) (cs : Array Value), j ≤ 48 ∧ x = .int .i64 j ∧ wr = w1.alloc (.cells cs 104) ∧ Hid (ShZ cs K j)) (fun x _ => 48 - (intOf x).toNat)
  case atStart => exact ⟨0, C, by omega, rfl, rfl, HC.out⟩
  case round =>
    obtain ⟨j, cs, hj, rfl, rfl, hN⟩ := hrel
    by_cases hlt : j < 48
    · have hlti : (j : Int) < 48 := by omega
      have hsz := hN.out.size
      obtain ⟨v0, hv0⟩ : ∃ v, cs[48 + j * 2]? = some v := ⟨_, Array.getElem?_eq_getElem (by omega)⟩
      obtain ⟨v1, hv1⟩ : ∃ v, (cs.setIfInBounds (48 + j * 2) (.int .i64 (-9223372036854775808)))[48 + j * 2 + 1]? = some v := ⟨_, Array.getElem?_eq_getElem (by simp; omega)⟩
      clear hsz
      go_wp2_with fail
      exact ⟨⟨j + 1, _, by omega, by go_num, rfl, shZ_next hN.out hlt⟩, by simp [intOf]; omega⟩
    · have hlti : ¬ (j : Int) < 48 := by omega
      have e : j = 48 := by omega
      subst e
      go_wp2_with fail
      go_ret2
      exact ⟨_, rfl, hb1.out.size, hb1.out.alloc hb1.out.size _, SR.new hN.out hK.out⟩
end Go.Proofs.YtiocnfambeochaaGreatDoor
