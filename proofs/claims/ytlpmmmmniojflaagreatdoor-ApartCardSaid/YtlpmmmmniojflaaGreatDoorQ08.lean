/- Texts put together. -/
import Derived.Test.YtlpmmmmniojflaaGreatDoorQ04
import Derived.Test.YtlpmmmmniojflaaGreatDoorQ07
import Derived.Test.YtlpmmmmniojflaaGreatDoorQ00
import Derived.Test.YtlpmmmmniojflaaGreatDoorQ01
/- How a sheet lies in memory: its formulas, bounds, and what it keeps. New. -/
set_option linter.unusedVariables false
set_option linter.unusedSimpArgs false
namespace Go.Proofs.YtlpmmmmniojflaaGreatDoor
open Go.RowKit
def rdC (r : Rd) : List Value := [.int .i64 r.nd.c, .bool r.nd.a, .int .i64 r.w.k, .int .i64 r.w.n, .string r.w.s]
def RdSl (w : World) (v : Value) (rs : List Rd) : Prop := Slc w 274 5 v rs.length (rs.flatMap rdC)
structure AnsAt (w : World) (b o : Nat) (a : Ans) (Q : Nat → Prop) : Prop where
  f : w.cell? ⟨b, o, none⟩ = some (.string a.f)
  rs : ∃ v, w.cell? ⟨b, o + 1, none⟩ = some v ∧ RdSl w v a.rs ∧ ∀ g, v.ownBlock = some g → Q g
  k : w.cell? ⟨b, o + 2, none⟩ = some (.int .i64 a.v.k)
  n : w.cell? ⟨b, o + 3, none⟩ = some (.int .i64 a.v.n)
  s : w.cell? ⟨b, o + 4, none⟩ = some (.string a.v.s)
structure KR (w : World) (b o : Nat) (k : Kp) (Q : Nat → Prop) : Prop where
  last : ∀ c, c < 48 → AnsAt w b (o + c * 5) (k.last c) Q
  chl : k.ch.length = 48
  ch : ∀ (j c : Nat), k.ch[j]? = some c → w.cell? ⟨b, o + 240 + j, none⟩ = some (.int .i64 c)
  places : w.cell? ⟨b, o + 288, none⟩ = some (.int .i64 k.store.places)
  size : w.cell? ⟨b, o + 289, none⟩ = some (.int .i64 k.store.size)
  next : w.cell? ⟨b, o + 290, none⟩ = some (.int .i64 k.store.next)
  stl : k.store.kept.length = 64
  kept : ∀ (j : Nat) (a : Ans), k.store.kept[j]? = some a → AnsAt w b (o + 291 + j * 5) a Q
structure SR (w : World) (x : Nat) (fs : Nat → ByteArray) (bd : Nat → Int × Int) (k : Kp) : Prop where
  blk : ∃ cs, w.heap[x]? = some (.cells cs 104 (0, 0)) ∧ cs.size = 755
  fs : ∀ c, c < 48 → w.cell? ⟨x, c, none⟩ = some (.string (fs c))
  bdr : ∀ c, I64 (bd c).1 ∧ I64 (bd c).2
  bnd : ∀ c, c < 48 → w.cell? ⟨x, 48 + c * 2, none⟩ = some (.int .i64 (bd c).1) ∧ w.cell? ⟨x, 48 + c * 2 + 1, none⟩ = some (.int .i64 (bd c).2)
  kp : KR w x 144 k (fun _ => True)
theorem SR.lt {w : World} {x : Nat} {fs : Nat → ByteArray} {bd : Nat → Int × Int} {k : Kp} (h : SR w x fs bd k) : x < w.heap.size := by
  obtain ⟨cs, h1, _⟩ := h.blk
  exact (Array.getElem?_eq_some_iff.1 h1).1
theorem AnsAt.kept {w w' : World} {b o b' o' : Nat} {a : Ans} {Q Q' : Nat → Prop} (h : AnsAt w b o a Q) (hc : ∀ t, t < 5 → w'.cell? ⟨b', o' + t, none⟩ = w.cell? ⟨b, o + t, none⟩)
    (hr : ∀ g cur, w.heap[g]? = some (.cells cur 274 (0, 0)) → Q g → w'.heap[g]? = w.heap[g]? ∧ Q' g) : AnsAt w' b' o' a Q' where
  f := by rw [show o' = o' + 0 from rfl, hc 0 (by omega)]; exact h.f
  rs := by
    obtain ⟨v, h1, h2, h3⟩ := h.rs
    have hq : ∀ g, v.ownBlock = some g → w'.heap[g]? = w.heap[g]? ∧ Q' g := by
      intro g hg
      rcases h2.2 with ⟨rfl, _⟩ | ⟨g', o, cap, cur, rfl, hb, _⟩
      · cases hg
      · cases hg; exact hr _ _ hb (h3 _ rfl)
    exact ⟨v, by rw [hc 1 (by omega)]; exact h1, h2.kept fun g hg => (hq g hg).1, fun g hg => (hq g hg).2⟩
  k := by rw [hc 2 (by omega)]; exact h.k
  n := by rw [hc 3 (by omega)]; exact h.n
  s := by rw [hc 4 (by omega)]; exact h.s
theorem KR.keep {w w' : World} {b o b' o' : Nat} {k : Kp} {Q Q' : Nat → Prop} (h : KR w b o k Q) (hc : ∀ t, t < 611 → w'.cell? ⟨b', o' + t, none⟩ = w.cell? ⟨b, o + t, none⟩)
    (hr : ∀ g cur, w.heap[g]? = some (.cells cur 274 (0, 0)) → Q g → w'.heap[g]? = w.heap[g]? ∧ Q' g) : KR w' b' o' k Q' where
  last := fun c hlt => (h.last c hlt).kept (fun t ht => by rw [Nat.add_assoc, Nat.add_assoc]; exact hc _ (by omega)) hr
  chl := h.chl
  ch := fun j c hj => by
    have hl := (List.getElem?_eq_some_iff.1 hj).1
    rw [h.chl] at hl
    rw [Nat.add_assoc, hc _ (by omega), ← Nat.add_assoc]; exact h.ch j c hj
  places := by rw [hc _ (by omega)]; exact h.places
  size := by rw [hc _ (by omega)]; exact h.size
  next := by rw [hc _ (by omega)]; exact h.next
  stl := h.stl
  kept := fun j a hj => by
    have hl := (List.getElem?_eq_some_iff.1 hj).1
    rw [h.stl] at hl
    exact (h.kept j a hj).kept (fun t ht => by rw [Nat.add_assoc, Nat.add_assoc, Nat.add_assoc, Nat.add_assoc]; exact hc _ (by omega)) hr
structure Only (x : Nat) (w w' : World) : Prop where
  os : w'.os = w.os
  tape : w'.tape = w.tape
  output : w'.output = w.output
  size : w.heap.size ≤ w'.heap.size
  block : ∀ k, k < w.heap.size → k ≠ x → w'.heap[k]? = w.heap[k]?
theorem Only.refl (x : Nat) (w : World) : Only x w w := ⟨rfl, rfl, rfl, Nat.le_refl _, fun _ _ _ => rfl⟩
theorem Only.trans {x : Nat} {a b c : World} (h : Only x a b) (g : Only x b c) : Only x a c :=
  ⟨g.os.trans h.os, g.tape.trans h.tape, g.output.trans h.output, Nat.le_trans h.size g.size, fun k hk hx => (g.block k (Nat.lt_of_lt_of_le hk h.size) hx).trans (h.block k hk hx)⟩
theorem Below.only {w w' : World} (h : Below w.heap.size w w') (x : Nat) : Only x w w' := ⟨h.os, h.tape, h.output, h.size, fun k hk _ => h.block k hk⟩
theorem Only.below {x B : Nat} {w w' : World} (h : Only x w w') (hx : B ≤ x) (hB : B ≤ w.heap.size) : Below B w w' := ⟨h.os, h.tape, h.output, h.size, fun k hk => h.block k (by omega) (by omega)⟩
theorem SR.only {w w' : World} {x y : Nat} {fs : Nat → ByteArray} {bd : Nat → Int × Int} {k : Kp} (h : SR w x fs bd k) (ho : Only y w w') (hne : x ≠ y) (hy : ∀ cur, w.heap[y]? ≠ some (.cells cur 274 (0, 0))) : SR w' x fs bd k := by
  have hb := ho.block x h.lt hne
  have hc : ∀ t, w'.cell? ⟨x, t, none⟩ = w.cell? ⟨x, t, none⟩ := fun t => World.cell?_of_block (w := w) hb
  obtain ⟨cs, h1, h2⟩ := h.blk
  refine { blk := ⟨cs, by rw [hb]; exact h1, h2⟩, fs := fun c hl => by rw [hc]; exact h.fs c hl, bdr := h.bdr, bnd := fun c hl => by rw [hc, hc]; exact h.bnd c hl, kp := h.kp.keep (fun t _ => hc _) fun g cur hg _ => ⟨ho.block g (Array.getElem?_eq_some_iff.1 hg).1 (fun e => hy cur (e ▸ hg)), trivial⟩ }
theorem SR.below {w w' : World} {x : Nat} {fs : Nat → ByteArray} {bd : Nat → Int × Int} {k : Kp} (h : SR w x fs bd k) (hb : Below w.heap.size w w') : SR w' x fs bd k :=
  h.only (y := w.heap.size) (Below.only hb _) (by have := h.lt; omega) (fun cur => by rw [Array.getElem?_eq_none (Nat.le_refl _)]; intro e; cases e)
theorem SR.notRead {w : World} {x : Nat} {fs : Nat → ByteArray} {bd : Nat → Int × Int} {k : Kp} (h : SR w x fs bd k) : ∀ cur, w.heap[x]? ≠ some (.cells cur 274 (0, 0)) := by
  obtain ⟨cs, h1, _⟩ := h.blk
  intro cur e
  rw [h1] at e
  cases e
def zAns : List Value := [.string eB, .slice none 0 0, .int .i64 0, .int .i64 0, .string eB]
theorem flat_rep {l : List Value} : ∀ (n i t : Nat), i < n → t < l.length → ((List.replicate n l).flatten)[i * l.length + t]? = l[t]?
  | 0, i, t, h, _ => absurd h (by omega)
  | n + 1, i, t, h, ht => by
    rw [List.replicate_succ, List.flatten_cons]
    cases i with
    | zero => rw [Nat.zero_mul, Nat.zero_add, List.getElem?_append_left ht]
    | succ i =>
      have e : (i + 1) * l.length + t = l.length + (i * l.length + t) := by rw [Nat.succ_mul]; omega
      rw [e, List.getElem?_append_right (by omega), Nat.add_sub_cancel_left]
      exact flat_rep n i t (by omega) ht
theorem z_last : Tryz.zeroCells102.toList.take 240 = (List.replicate 48 zAns).flatten := by kernel_rfl
theorem z_kept : Tryz.zeroCells102.toList.drop 291 = (List.replicate 64 zAns).flatten := by kernel_rfl
theorem z_mid : Tryz.zeroCells102[289]? = some (.int .i64 0) ∧ Tryz.zeroCells102[290]? = some (.int .i64 0) := by constructor <;> kernel_rfl
theorem z_lastAt (c t : Nat) (hc : c < 48) (ht : t < 5) : Tryz.zeroCells102[c * 5 + t]? = zAns[t]? := by
  have := congrArg (fun l => l[c * 5 + t]?) z_last
  simp only [List.getElem?_take, if_pos (show c * 5 + t < 240 by omega), Array.getElem?_toList] at this
  rw [this]
  exact flat_rep (l := zAns) 48 c t hc ht
theorem z_keptAt (j t : Nat) (hj : j < 64) (ht : t < 5) : Tryz.zeroCells102[291 + (j * 5 + t)]? = zAns[t]? := by
  have := congrArg (fun l => l[j * 5 + t]?) z_kept
  simp only [List.getElem?_drop, Array.getElem?_toList] at this
  rw [this]
  exact flat_rep (l := zAns) 64 j t hj ht
theorem z_texts : Tryz.zeroCells104.toList.take 48 = List.replicate 48 (.string eB) := by kernel_rfl
theorem size104 : Tryz.zeroCells104.size = 755 := by kernel_rfl
def k0 (n : Nat) : Kp := ⟨fun _ => ans0, List.range 48, ⟨n, 0, 0, List.replicate 64 ans0⟩⟩
def bd0 : Nat → Int × Int := fun _ => (-9223372036854775808, 9223372036854775807)
def fs0 : Nat → ByteArray := fun _ => eB
structure ShZ (cs K : Array Value) (j : Nat) : Prop where
  size : cs.size = 755
  texts : ∀ c, c < 48 → cs[c]? = some (.string eB)
  lows : ∀ c, c < j → cs[48 + c * 2]? = some (.int .i64 (-9223372036854775808)) ∧ cs[48 + c * 2 + 1]? = some (.int .i64 9223372036854775807)
  kept : ∀ t, t < 611 → cs[144 + t]? = K[t]?
theorem shZ_new {K : Array Value} (hK : K.size = 611) : ShZ (layAt Tryz.zeroCells104 144 K) K 0 where
  size := by rw [layAt_size, size104]
  texts := fun c hc => by
    rw [layAt_get, if_neg (by omega)]
    have := congrArg (fun l => l[c]?) z_texts
    simp only [List.getElem?_take, if_pos hc, List.getElem?_replicate, Array.getElem?_toList] at this
    exact this
  lows := fun c hc => absurd hc (by omega)
  kept := fun t ht => by rw [layAt_get, if_pos (by rw [hK, size104]; omega), Nat.add_sub_cancel_left]
theorem shZ_next {cs K : Array Value} {j : Nat} (h : ShZ cs K j) (hj : j < 48) : ShZ ((cs.setIfInBounds (48 + j * 2) (.int .i64 (-9223372036854775808))).setIfInBounds (48 + j * 2 + 1) (.int .i64 9223372036854775807)) K (j + 1) where
  size := by simp [h.size]
  texts := fun c hc => by rw [Array.getElem?_setIfInBounds_ne (by omega), Array.getElem?_setIfInBounds_ne (by omega)]; exact h.texts c hc
  lows := fun c hc => by
    have hs := h.size
    by_cases e : c = j
    · subst e
      refine ⟨?_, ?_⟩
      · rw [Array.getElem?_setIfInBounds_ne (by omega), Array.getElem?_setIfInBounds_self_of_lt (by omega)]
      · rw [Array.getElem?_setIfInBounds_self_of_lt (by simp; omega)]
    · have h2 := h.lows c (by omega)
      refine ⟨?_, ?_⟩
      · rw [Array.getElem?_setIfInBounds_ne (by omega), Array.getElem?_setIfInBounds_ne (by omega)]; exact h2.1
      · rw [Array.getElem?_setIfInBounds_ne (by omega), Array.getElem?_setIfInBounds_ne (by omega)]; exact h2.2
  kept := fun t ht => by rw [Array.getElem?_setIfInBounds_ne (by omega), Array.getElem?_setIfInBounds_ne (by omega)]; exact h.kept t ht
theorem ansAt_zero {w : World} {b o : Nat} {Q : Nat → Prop} (h : ∀ t, t < 5 → w.cell? ⟨b, o + t, none⟩ = zAns[t]?) : AnsAt w b o ans0 Q where
  f := h 0 (by omega)
  rs := ⟨.slice none 0 0, h 1 (by omega), slc_nil _ _ _, fun g hg => by cases hg⟩
  k := h 2 (by omega)
  n := h 3 (by omega)
  s := h 4 (by omega)
theorem SR.new {w : World} {cs K : Array Value} {n : Nat} (h : ShZ cs K 48) (hK : KpZ K n 48) : SR (w.alloc (.cells cs 104)) w.heap.size fs0 bd0 (k0 n) := by
  have hb : (w.alloc (.cells cs 104)).heap[w.heap.size]? = some (.cells cs 104 (0, 0)) := heap_alloc_new w _
  have hc : ∀ t, (w.alloc (.cells cs 104)).cell? ⟨w.heap.size, t, none⟩ = cs[t]? := fun t => cell_of_row _ _ t cs 104 (0, 0) hb
  have hk : ∀ t, t < 611 → (w.alloc (.cells cs 104)).cell? ⟨w.heap.size, 144 + t, none⟩ = K[t]? := fun t ht => by rw [hc]; exact h.kept t ht
  refine { blk := ⟨cs, hb, h.size⟩, fs := fun c hl => by rw [hc]; exact h.texts c hl, bdr := fun c => by unfold bd0 I64; simp, bnd := fun c hl => by rw [hc, hc]; exact h.lows c hl, kp := ?_ }
  refine { last := fun c hl => ansAt_zero fun t ht => ?_, chl := by simp [k0], ch := fun j c hj => ?_, places := ?_, size := ?_, next := ?_, stl := by simp [k0], kept := fun j a hj => ?_ }
  · rw [Nat.add_assoc, hk _ (by omega), hK.rest _ (by omega) (by omega), z_lastAt c t hl ht]
  · have hj' : (List.range 48)[j]? = some c := hj
    obtain ⟨hlt, he⟩ := List.getElem?_eq_some_iff.1 hj'
    rw [List.length_range] at hlt
    rw [List.getElem_range] at he
    subst he
    rw [Nat.add_assoc, hk _ (by omega)]; exact hK.chain j hlt
  · rw [hk _ (by omega)]; exact hK.places
  · rw [hk _ (by omega), hK.rest _ (by omega) (by omega)]; exact z_mid.1
  · rw [hk _ (by omega), hK.rest _ (by omega) (by omega)]; exact z_mid.2
  · have hj' : (List.replicate 64 ans0)[j]? = some a := hj
    rw [List.getElem?_replicate] at hj'
    split at hj'
    · rename_i hlt
      cases hj'
      refine ansAt_zero fun t ht => ?_
      have e : 144 + 291 + j * 5 + t = 144 + (291 + (j * 5 + t)) := by omega
      rw [e, hk _ (by omega), hK.rest _ (by omega) (by omega), z_keptAt j t hlt ht]
    · cases hj'
set_option maxHeartbeats 4000000 in
set_option maxRecDepth 100000 in
theorem new_any (n : Nat) (hn : n ≤ 64) (w : World) :
    Calls Tryz.prog 43 #[.int .i64 n] w fun e w' => ∃ x, e = .returned (.tuple #[.pointer (some ⟨x, 0, none⟩), .int .i64 0]) ∧ Hid (w.heap.size ≤ x) ∧ Hid (Below w.heap.size w w') ∧ Hid (SR w' x fs0 bd0 (k0 n)) := by
  have h1 : ¬ (n : Int) < 0 := by omega
  have h2 : ¬ (64 : Int) < n := by omega
  go_enter Tryz.func43, Tryz.ntmps43
  go_wp2_with fail
  refine (newKept_w n _).mono ?_
  rintro e w1 ⟨K, rfl, hK, hb1⟩
  have hsz := hK.out.size
  obtain ⟨C, hC⟩ : ∃ C, Array.foldl (fun (cs : Array Value) x => cs.setIfInBounds (144 + x.snd) x.fst) Tryz.zeroCells104 K.zipIdx 0 611 = C := ⟨_, rfl⟩
  have HC : Hid (ShZ C K 0) := by
    have := shZ_new hsz
    unfold layAt at this
    rw [hsz, hC] at this
    exact this
  have hcs := HC.out.size
  go_wp2_with fail
  clear hC hcs hsz
  go_loopw [16] (fun x wr => ∃ (j : Nat) (cs : Array Value), j ≤ 48 ∧ x = .int .i64 j ∧ wr = w1.alloc (.cells cs 104) ∧ Hid (ShZ cs K j)) (fun x _ => 48 - (intOf x).toNat)
  case atStart => exact ⟨0, C, by omega, rfl, rfl, HC.out⟩
  case round =>
    obtain ⟨j, cs, hj, rfl, rfl, hN⟩ := hrel
    by_cases hlt : j < 48
    · have hlti : (j : Int) < 48 := by omega
      have hsz := hN.out.size
      obtain ⟨v0, hv0⟩ : ∃ v, cs[48 + j * 2]? = some v := ⟨_, Array.getElem?_eq_getElem (by omega)⟩
      obtain ⟨v1, hv1⟩ : ∃ v, (cs.setIfInBounds (48 + j * 2) (.int .i64 (-9223372036854775808)))[48 + j * 2 + 1]? = some v := ⟨_, Array.getElem?_eq_getElem (by simp; omega)⟩
      clear hsz
      go_wp2_with fail
      exact ⟨⟨j + 1, _, by omega, by go_num, rfl, shZ_next hN.out hlt⟩, by simp [intOf]; omega⟩
    · have hlti : ¬ (j : Int) < 48 := by omega
      have e : j = 48 := by omega
      subst e
      go_wp2_with fail
      go_ret2
      exact ⟨_, rfl, hb1.out.size, hb1.out.alloc hb1.out.size _, SR.new hN.out hK.out⟩
end Go.Proofs.YtlpmmmmniojflaaGreatDoor
/- Plain mathematics: how a formula's tokens are turned into instructions, and that the machine does with these what the formula says. -/
set_option linter.unusedVariables false
set_option linter.unusedSimpArgs false
namespace Go.Proofs.YtlpmmmmniojflaaGreatDoor
def Sits (code : List Ins) (off : Nat) (seg : List Ins) : Prop := ∃ pre post, code = pre ++ (seg ++ post) ∧ pre.length = off
theorem Sits.left {code : List Ins} {off : Nat} {a b : List Ins} (h : Sits code off (a ++ b)) : Sits code off a := by
  obtain ⟨p, q, h1, h2⟩ := h
  exact ⟨p, b ++ q, by rw [h1]; simp, h2⟩
theorem Sits.right {code : List Ins} {off : Nat} {a b : List Ins} (h : Sits code off (a ++ b)) : Sits code (off + a.length) b := by
  obtain ⟨p, q, h1, h2⟩ := h
  exact ⟨p ++ a, q, by rw [h1]; simp, by simp [h2]⟩
theorem Sits.one {code : List Ins} {off : Nat} {i : Ins} {l : List Ins} (h : Sits code off (i :: l)) : code[off]? = some i := by
  obtain ⟨p, q, h1, h2⟩ := h
  rw [h1, ← h2, List.getElem?_append_right (Nat.le_refl _), Nat.sub_self]
  rfl
def hk (ts : List Tk) : Int := match ts with | t :: _ => t.k | [] => 0
def hx (ts : List Tk) : List UInt8 := match ts with | t :: _ => t.x | [] => []
def iPut (v : V) : Ins := ⟨0, v, 0, 0⟩
def iOp (op : Nat) : Ins := ⟨op, vN, 0, 0⟩
def iRead (op c : Nat) : Ins := ⟨op, vN, c, 0⟩
def iTo (op to : Nat) : Ins := ⟨op, vN, 0, to⟩
def signs (lv : Nat) : List Int := if lv = 0 then [21, 22] else if lv = 1 then [16, 17, 20] else [18, 19]
def signOp (k : Int) : Nat := if k = 16 then 5 else if k = 17 then 6 else if k = 18 then 7 else if k = 19 then 8 else if k = 20 then 9 else if k = 21 then 10 else 11
def binA (op : Nat) (d e : Beh) : Beh := bindE d (fun x => bindE e (fun y => retA (comb op x y)))
def negA (d : Beh) : Beh := bindE d (fun v => retA (vNeg v))
def ifA (d e f : Beh) : Beh := bindE d (fun v => if v.k ≠ 2 then retA (vE 4) else if v.n = 0 then f else e)
def atV (v : V) : Beh := if v.k ≠ 3 then retA (vE 4) else match cellN v.s.data.toList with | none => retA (vE 3) | some c => readA ⟨c, false⟩
def atA (d : Beh) : Beh := bindE d atV
def badA' (d : Beh) : Beh := bindA d (fun v => retA (vB (decide (v.k = 4))))
def sumA : List Nat → V → Beh
  | [], v => retA v
  | c :: l, v => bindE (readA ⟨c, false⟩) (fun x => bindE (retA (vAdd v x)) (sumA l))
def cntA : List Nat → V → Beh
  | [], v => retA v
  | c :: l, v => bindE (readA ⟨c, true⟩) (fun x => bindE (retA (if x.k = 1 then vAdd v (vI 1) else v)) (cntA l))
def rangeL (a b : Nat) : List Nat := (List.range' (a / 6) (b / 6 + 1 - a / 6)).flatMap fun row => (List.range' (a % 6) (b % 6 + 1 - a % 6)).map fun col => row * 6 + col
def eachI (o1 o2 : Nat) (l : List Nat) : List Ins := l.flatMap fun c => [iRead o1 c, iOp o2]
def cmp : Nat → Nat → Nat → List Ins → Beh → List Tk → Option (List Ins × Beh × List Tk)
  | 0, _, _, _, _, _ => none
  | f + 1, tag, off, s, d, ts =>
    if tag < 3 then (cmp f (tag + 1) off [] (retA vN) ts).bind fun x => cmp f (tag + 4) off x.1 x.2.1 x.2.2
    else if tag = 3 then
      if hk ts = 23 then (cmp f 3 off [] (retA vN) ts.tail).bind fun x => some (x.1 ++ [iOp 4], negA x.2.1, x.2.2)
      else if hk ts = 1 then (if valN (hx ts) ≤ 9223372036854775807 then some ([iPut (vI (valN (hx ts)))], retA (vI (valN (hx ts))), ts.tail) else none)
      else if hk ts = 2 then (if (hx ts).length ≤ 1000 then some ([iPut (vT ⟨((hx ts).drop 1).dropLast.toArray⟩)], retA (vT ⟨((hx ts).drop 1).dropLast.toArray⟩), ts.tail) else none)
      else if hk ts = 3 ∨ hk ts = 4 then some ([iPut (vB (decide (hk ts = 3)))], retA (vB (decide (hk ts = 3))), ts.tail)
      else if hk ts = 5 then (cellN (hx ts)).bind fun c => some ([iRead 1 c], readA ⟨c, false⟩, ts.tail)
      else if hk ts = 12 then (cmp f 0 off [] (retA vN) ts.tail).bind fun x => some (x.1, x.2.1, x.2.2.tail)
      else if hk ts = 6 then
        (cmp f 0 off [] (retA vN) ts.tail.tail).bind fun x =>
        (cmp f 0 (off + x.1.length + 1) [] (retA vN) x.2.2.tail).bind fun y =>
        (cmp f 0 (off + x.1.length + 1 + y.1.length + 1) [] (retA vN) y.2.2.tail).bind fun z =>
          some (x.1 ++ (iTo 13 (off + x.1.length + 1 + y.1.length + 1) :: (y.1 ++ (iTo 14 (off + x.1.length + 1 + y.1.length + 1 + z.1.length) :: z.1))), ifA x.2.1 y.2.1 z.2.1, z.2.2.tail)
      else if hk ts = 7 then (cmp f 0 off [] (retA vN) ts.tail.tail).bind fun x => some (x.1 ++ [iOp 3], atA x.2.1, x.2.2.tail)
      else if hk ts = 8 then (cmp f 0 (off + 1) [] (retA vN) ts.tail.tail).bind fun x => some (iTo 15 (off + 1 + x.1.length + 1) :: (x.1 ++ [iOp 16]), badA' x.2.1, x.2.2.tail)
      else if hk ts = 9 ∨ hk ts = 10 then
        (cellN (hx ts.tail.tail)).bind fun a => (cellN (hx ts.tail.tail.tail.tail)).bind fun b =>
          some (iPut (vI 0) :: (if hk ts = 9 then eachI 1 5 (rangeL a b) else eachI 2 12 (rangeL a b)), if hk ts = 9 then sumA (rangeL a b) (vI 0) else cntA (rangeL a b) (vI 0), ts.tail.tail.tail.tail.tail.tail)
      else none
    else if hk ts ∈ signs (tag - 4) then
      (cmp f (tag - 3) (off + s.length) [] (retA vN) ts.tail).bind fun x => cmp f tag off (s ++ (x.1 ++ [iOp (signOp (hk ts))])) (binA (signOp (hk ts)) d x.2.1) x.2.2
    else some (s, d, ts)
section
variable {code : List Ins} {off fin : Nat} {d e : Beh}
theorem run_ret {n : Nat} {code : List Ins} {off : Nat} {S : List V} {G : List (Nat × Nat)} {k : V → Beh} {v : V} (h : Cont n code off S G k) (hv : OKV v) : Runs n ⟨code, off, S ++ [v], G⟩ (bindA (retA v) k) := by
  rw [bind_ret]; exact h.val hv
theorem sg_put {v : V} (hv : OKV v) (hi : code[off]? = some (iPut v)) : Sg code off (off + 1) (retA v) := by
  refine ⟨0, fun S G n k hS hc => ?_⟩
  refine runs_step (m' := ⟨code, off + 1, S ++ [v], G⟩) ?_ (run_ret hc hv)
  rw [head_at hi hS.fail]
  rfl
theorem sg_read {c : Nat} (o : Nat) (ho : o = 1 ∨ o = 2) (hc : c < 48) (hi : code[off]? = some (iRead o c)) : Sg code off (off + 1) (readA ⟨c, decide (o = 2)⟩) := by
  refine ⟨1, fun S G n k hS hk => ?_⟩
  unfold readA
  rw [bind_ask]
  refine runs_ask (m' := ⟨code, off + 1, S, G⟩) ?_ hc fun x hx => run_ret hk hx
  rw [head_at hi hS.fail]
  unfold stepM iRead
  simp only
  rw [if_neg (by omega), if_pos ho]
theorem cont_e {n : Nat} {S : List V} {G : List (Nat × Nat)} {k : V → Beh} {g : V → Beh} {mid : Nat} {fin : Nat} (hc : Cont n code fin S G k) {n' : Nat} (hn : n ≤ n')
    (h : ∀ v, OKV v → v.k ≠ 4 → Runs n' ⟨code, mid, S ++ [v], G⟩ (bindA (g v) k)) : Cont n' code mid S G (fun v => bindA (if v.k = 4 then retA v else g v) k) := by
  refine ⟨fun v hv h4 => ?_, fun v hv h4 p T => ?_⟩
  · simp only [if_neg h4]; exact h v hv h4
  · simp only [if_pos h4]; rw [bind_ret]; exact (hc.err hv h4 p T).le hn
theorem sg_bindE {g : V → Beh} {mid : Nat} (h : Sg code off mid d) (m2 : Nat) (hg : ∀ v, OKV v → v.k ≠ 4 → ∀ S G n k, NF S → Cont n code fin S G k → Runs (n + m2) ⟨code, mid, S ++ [v], G⟩ (bindA (g v) k)) : Sg code off fin (bindE d g) := by
  obtain ⟨m1, h⟩ := h
  refine ⟨m2 + m1, fun S G n k hS hc => ?_⟩
  unfold bindE
  rw [bind_assoc, ← Nat.add_assoc]
  exact h S G (n + m2) _ hS (cont_e hc (by omega) fun v hv h4 => hg v hv h4 S G n k hS hc)
theorem step_top {S : List V} {G : List (Nat × Nat)} {v : V} {i : Ins} {p : Nat} (hi : code[p]? = some i) (h4 : v.k ≠ 4) :
    headM ⟨code, p, S ++ [v], G⟩ = match stepM ⟨code, p, S ++ [v], G⟩ i with | none => none | some (m', none) => some (.inl m') | some (m', some nd) => some (.inr (m', some nd)) :=
  head_at hi (NF.app h4).fail
theorem sg_neg {mid : Nat} (h : Sg code off mid d) (hi : code[mid]? = some (iOp 4)) : Sg code off (mid + 1) (negA d) := by
  refine sg_bindE h 0 fun v hv h4 S G n k hS hc => ?_
  refine runs_step (m' := ⟨code, mid + 1, S ++ [vNeg v], G⟩) ?_ (run_ret hc (ok_neg v))
  rw [step_top hi h4]
  simp [stepM, iOp]
theorem sg_bin {op mid mid2 : Nat} (h : Sg code off mid d) (h2 : Sg code mid mid2 e) (ho : 5 ≤ op ∧ op ≤ 11) (hi : code[mid2]? = some (iOp op)) : Sg code off (mid2 + 1) (binA op d e) := by
  obtain ⟨m2, h2⟩ := h2
  refine sg_bindE h m2 fun v hv h4 S G n k hS hc => ?_
  unfold bindE
  rw [bind_assoc]
  refine h2 (S ++ [v]) G n _ (NF.app h4) ⟨fun u hu hu4 => ?_, fun u hu hu4 p T => ?_⟩
  · simp only [if_neg hu4]
    refine runs_step (m' := ⟨code, mid2 + 1, S ++ [comb op v u], G⟩) ?_ (run_ret hc (ok_comb op v u))
    rw [step_top hi hu4]
    unfold stepM iOp
    simp only
    rw [if_neg (by omega), if_neg (by omega), if_neg (by omega), if_neg (by omega), List.getLast?_concat]
    simp only
    rw [if_neg (by omega), if_neg (by omega), if_neg (by omega), if_neg (by omega), if_neg (by omega), List.dropLast_concat, List.getLast?_concat]
    simp only
    rw [List.dropLast_concat, if_neg (by omega)]
  · simp only [if_pos hu4]
    rw [bind_ret]
    have := hc.err hu hu4 p ([v] ++ T)
    simpa using this
theorem sg_if {f : Beh} {m1 m2 m3 : Nat} {t1 t2 : Nat} (h1 : Sg code off m1 d) (hi1 : code[m1]? = some (iTo 13 (m2 + 1))) (h2 : Sg code (m1 + 1) m2 e) (hi2 : code[m2]? = some (iTo 14 m3)) (h3 : Sg code (m2 + 1) m3 f) : Sg code off m3 (ifA d e f) := by
  obtain ⟨a2, h2⟩ := h2
  obtain ⟨a3, h3⟩ := h3
  refine sg_bindE h1 (a2 + a3) fun v hv h4 S G n k hS hc => ?_
  by_cases hb : v.k = 2
  · simp only [if_neg (not_not_intro hb)]
    by_cases h0 : v.n = 0
    · simp only [if_pos h0]
      refine runs_step (m' := ⟨code, m2 + 1, S, G⟩) ?_ ((h3 S G n k hS hc).le (by omega))
      rw [step_top hi1 h4]
      simp [stepM, iTo, hb, h0]
    · simp only [if_neg h0]
      refine runs_step (m' := ⟨code, m1 + 1, S, G⟩) ?_ ((h2 S G n k hS ⟨fun u hu hu4 => ?_, fun u hu hu4 p T => hc.err hu hu4 p T⟩).le (by omega))
      · rw [step_top hi1 h4]
        simp [stepM, iTo, hb, h0]
      · refine runs_step (m' := ⟨code, m3, S ++ [u], G⟩) ?_ (hc.val hu)
        rw [step_top hi2 hu4]
        simp [stepM, iTo]
  · simp only [if_pos hb]
    refine runs_step (m' := ⟨code, m1 + 1, S ++ [vE 4], G⟩) ?_ ?_
    · rw [step_top hi1 h4]
      simp [stepM, iTo, hb]
    · rw [bind_ret]
      have := (hc.err ok_e4 rfl (m1 + 1) []).le (Nat.le_add_right n (a2 + a3))
      simpa using this
theorem sg_at {mid : Nat} (h : Sg code off mid d) (hi : code[mid]? = some (iOp 3)) : Sg code off (mid + 1) (atA d) := by
  refine sg_bindE h 1 fun v hv h4 S G n k hS hc => ?_
  unfold atV
  by_cases hb : v.k = 3
  · simp only [if_neg (not_not_intro hb)]
    cases hn : cellN v.s.data.toList with
    | none =>
      refine runs_step (m' := ⟨code, mid + 1, S ++ [vE 3], G⟩) ?_ ((run_ret hc ok_e3).le (by omega))
      rw [step_top hi h4]
      simp [stepM, iOp, hb, hn]
    | some c =>
      show Runs (n + 1) _ (bindA (readA ⟨c, false⟩) k)
      unfold readA
      rw [bind_ask]
      refine runs_ask (m' := ⟨code, mid + 1, S, G⟩) ?_ (cellN_lt hn) fun x hx => run_ret hc hx
      rw [step_top hi h4]
      simp [stepM, iOp, hb, hn]
  · simp only [if_pos hb]
    refine runs_step (m' := ⟨code, mid + 1, S ++ [vE 4], G⟩) ?_ ((run_ret hc ok_e4).le (by omega))
    rw [step_top hi h4]
    simp [stepM, iOp, hb]
theorem sg_bad {mid : Nat} (hi0 : code[off]? = some (iTo 15 (mid + 1))) (h : Sg code (off + 1) mid d) (hi : code[mid]? = some (iOp 16)) : Sg code off (mid + 1) (badA' d) := by
  obtain ⟨m1, h⟩ := h
  refine ⟨m1, fun S G n k hS hc => ?_⟩
  refine runs_step (m' := ⟨code, off + 1, S, G ++ [(mid + 1, S.length)]⟩) ?_ ?_
  · rw [head_at hi0 hS.fail]
    simp [stepM, iTo]
  · unfold badA'
    rw [bind_assoc]
    refine h S _ n _ hS ⟨fun v hv h4 => ?_, fun v hv h4 p T => ?_⟩
    · have e : decide (v.k = 4) = false := decide_eq_false h4
      dsimp only
      rw [e]
      refine runs_step (m' := ⟨code, mid + 1, S ++ [vB false], G⟩) ?_ (run_ret hc (ok_b false))
      rw [step_top hi h4]
      simp [stepM, iOp]
    · have e : decide (v.k = 4) = true := decide_eq_true h4
      dsimp only
      rw [e]
      refine runs_step (m' := ⟨code, mid + 1, S ++ [vB true], G⟩) ?_ (run_ret hc (ok_b true))
      unfold headM
      rw [if_pos (by unfold failB; simp only [List.getLast?_concat]; exact e)]
      simp only [List.getLast?_concat, List.dropLast_concat]
      rw [if_pos (by simp)]
      simp
theorem run_sum : ∀ (l : List Nat) (p : Nat) (v : V), (∀ c ∈ l, c < 48) → Sits code p (eachI 1 5 l) → OKV v → v.k ≠ 4 → ∀ S G n k, NF S → Cont n code (p + (eachI 1 5 l).length) S G k → Runs (n + l.length) ⟨code, p, S ++ [v], G⟩ (bindA (sumA l v) k)
  | [], p, v, _, _, hv, _, S, G, n, k, _, hc => by
    exact run_ret (by simpa [eachI] using hc) hv
  | c :: l, p, v, hl, hs, hv, h4, S, G, n, k, hS, hc => by
    have es : eachI 1 5 (c :: l) = [iRead 1 c, iOp 5] ++ eachI 1 5 l := rfl
    rw [es] at hs hc
    have i1 := hs.left.one
    have i2 : code[p + 1]? = some (iOp 5) := (Sits.right (a := [iRead 1 c]) (b := [iOp 5]) hs.left).one
    have hc' : Cont n code (p + 2 + (eachI 1 5 l).length) S G k := by
      have e : p + ([iRead 1 c, iOp 5] ++ eachI 1 5 l).length = p + 2 + (eachI 1 5 l).length := by simp; omega
      rw [e] at hc; exact hc
    have h1 := sg_read (code := code) (off := p) 1 (.inl rfl) (hl c List.mem_cons_self) i1
    show Runs _ _ (bindA (bindE (readA ⟨c, false⟩) _) k)
    unfold bindE readA
    rw [bind_assoc, bind_ask]
    simp only [bind_ret]
    refine runs_ask (m' := ⟨code, p + 1, S ++ [v], G⟩) (nd := ⟨c, false⟩) ?_ (hl c List.mem_cons_self) (n := n + l.length) ?_
    · rw [step_top i1 h4]
      simp [stepM, iRead]
    · intro x hx
      show Runs (n + l.length) ⟨code, p + 1, S ++ [v] ++ [x], G⟩ _
      by_cases hx4 : x.k = 4
      · simp only [if_pos hx4]
        rw [bind_ret]
        exact (hc.err hx hx4 (p + 1) [v]).le (by omega)
      · simp only [if_neg hx4]
        refine runs_step (m' := ⟨code, p + 2, S ++ [vAdd v x], G⟩) ?_ ?_
        · rw [step_top i2 hx4]
          simp [stepM, iOp, comb]
        · by_cases ha : (vAdd v x).k = 4
          · simp only [if_pos ha]
            rw [bind_ret]
            have := (hc.err (ok_add v x) ha (p + 2) []).le (Nat.le_add_right n l.length)
            simpa using this
          · simp only [if_neg ha]
            exact run_sum l (p + 2) _ (fun c hc => hl c (List.mem_cons_of_mem _ hc)) hs.right (ok_add v x) ha S G n k hS hc'
theorem run_cnt : ∀ (l : List Nat) (p : Nat) (v : V), (∀ c ∈ l, c < 48) → Sits code p (eachI 2 12 l) → OKV v → v.k ≠ 4 → ∀ S G n k, NF S → Cont n code (p + (eachI 2 12 l).length) S G k → Runs (n + l.length) ⟨code, p, S ++ [v], G⟩ (bindA (cntA l v) k)
  | [], p, v, _, _, hv, _, S, G, n, k, _, hc => by
    exact run_ret (by simpa [eachI] using hc) hv
  | c :: l, p, v, hl, hs, hv, h4, S, G, n, k, hS, hc => by
    have es : eachI 2 12 (c :: l) = [iRead 2 c, iOp 12] ++ eachI 2 12 l := rfl
    rw [es] at hs hc
    have i1 := hs.left.one
    have i2 : code[p + 1]? = some (iOp 12) := (Sits.right (a := [iRead 2 c]) (b := [iOp 12]) hs.left).one
    have hc' : Cont n code (p + 2 + (eachI 2 12 l).length) S G k := by
      have e : p + ([iRead 2 c, iOp 12] ++ eachI 2 12 l).length = p + 2 + (eachI 2 12 l).length := by simp; omega
      rw [e] at hc; exact hc
    show Runs _ _ (bindA (bindE (readA ⟨c, true⟩) _) k)
    unfold bindE readA
    rw [bind_assoc, bind_ask]
    simp only [bind_ret]
    refine runs_ask (m' := ⟨code, p + 1, S ++ [v], G⟩) (nd := ⟨c, true⟩) ?_ (hl c List.mem_cons_self) (n := n + l.length) ?_
    · rw [step_top i1 h4]
      simp [stepM, iRead]
    · intro x hx
      show Runs (n + l.length) ⟨code, p + 1, S ++ [v] ++ [x], G⟩ _
      by_cases hx4 : x.k = 4
      · simp only [if_pos hx4]
        rw [bind_ret]
        exact (hc.err hx hx4 (p + 1) [v]).le (by omega)
      · simp only [if_neg hx4]
        by_cases h1 : x.k = 1
        · simp only [if_pos h1]
          refine runs_step (m' := ⟨code, p + 2, S ++ [vAdd v (vI 1)], G⟩) ?_ ?_
          · rw [step_top i2 hx4]
            simp [stepM, iOp, h1]
          · by_cases ha : (vAdd v (vI 1)).k = 4
            · simp only [if_pos ha]
              rw [bind_ret]
              have := (hc.err (ok_add v (vI 1)) ha (p + 2) []).le (Nat.le_add_right n l.length)
              simpa using this
            · simp only [if_neg ha]
              exact run_cnt l (p + 2) _ (fun c hc => hl c (List.mem_cons_of_mem _ hc)) hs.right (ok_add v (vI 1)) ha S G n k hS hc'
        · simp only [if_neg h1, if_neg h4]
          refine runs_step (m' := ⟨code, p + 2, S ++ [v], G⟩) ?_ (run_cnt l (p + 2) _ (fun c hc => hl c (List.mem_cons_of_mem _ hc)) hs.right hv h4 S G n k hS hc')
          rw [step_top i2 hx4]
          simp [stepM, iOp, h1]
end
theorem rangeL_lt {a b : Nat} (ha : a < 48) (hb : b < 48) : ∀ c ∈ rangeL a b, c < 48 := by
  intro c hc
  unfold rangeL at hc
  rw [List.mem_flatMap] at hc
  obtain ⟨row, h1, h2⟩ := hc
  rw [List.mem_map] at h2
  obtain ⟨col, h3, rfl⟩ := h2
  rw [List.mem_range'_1] at h1 h3
  omega
theorem bind_some {α β : Type} {x : Option α} {g : α → Option β} {b : β} (h : x.bind g = some b) : ∃ a, x = some a ∧ g a = some b := by
  cases x with
  | none => cases h
  | some a => exact ⟨a, rfl, h⟩
theorem signs_op {lv : Nat} {q : Int} (h : q ∈ signs lv) : 5 ≤ signOp q ∧ signOp q ≤ 11 := by
  unfold signOp
  repeat' split
  all_goals omega
theorem cmp_sg (code : List Ins) : ∀ (f tag off : Nat) (s : List Ins) (d : Beh) (ts : List Tk) (seg : List Ins) (d' : Beh) (rest : List Tk), tag < 7 → cmp f tag off s d ts = some (seg, d', rest) →
    (3 < tag → Sits code off seg → Sits code off s → Sg code off (off + s.length) d) → Sits code off seg → (3 < tag → ∃ t, seg = s ++ t) ∧ Sg code off (off + seg.length) d'
  | 0, _, _, _, _, _, _, _, _, _, h, _, _ => by simp [cmp] at h
  | f + 1, tag, off, s, d, ts, seg, d', rest, htag, h, hp, hs => by
    have ih := cmp_sg code f
    rw [cmp] at h
    by_cases h3 : tag < 3
    · rw [if_pos h3] at h
      obtain ⟨x, hx, h⟩ := bind_some h
      obtain ⟨s1, d1, r1⟩ := x
      obtain ⟨i1, i2⟩ := ih (tag + 4) off s1 d1 r1 seg d' rest (by omega) h (fun _ _ hs1 => (ih (tag + 1) off _ _ ts s1 d1 r1 (by omega) hx (fun e => absurd e (by omega)) hs1).2) hs
      exact ⟨fun e => absurd e (by omega), i2⟩
    rw [if_neg h3] at h
    by_cases t3 : tag = 3
    · rw [if_pos t3] at h
      refine ⟨fun e => absurd e (by omega), ?_⟩
      by_cases k23 : hk ts = 23
      · rw [if_pos k23] at h
        obtain ⟨⟨s1, d1, r1⟩, hx, h⟩ := bind_some h
        cases h
        have j := (ih 3 off _ _ _ s1 d1 r1 (by omega) hx (fun e => absurd e (by omega)) hs.left).2
        rw [List.length_append, List.length_singleton, ← Nat.add_assoc]
        exact sg_neg j hs.right.one
      rw [if_neg k23] at h
      by_cases k1 : hk ts = 1
      · rw [if_pos k1] at h
        split at h
        · rename_i hv
          cases h
          exact sg_put (ok_i (by unfold I64; omega)) hs.one
        · cases h
      rw [if_neg k1] at h
      by_cases k2 : hk ts = 2
      · rw [if_pos k2] at h
        split at h
        · rename_i hv
          cases h
          exact sg_put (ok_t (by simp only [ByteArray.size, List.size_toArray, List.length_dropLast, List.length_drop]; omega)) hs.one
        · cases h
      rw [if_neg k2] at h
      by_cases k3 : hk ts = 3 ∨ hk ts = 4
      · rw [if_pos k3] at h
        cases h
        exact sg_put (ok_b _) hs.one
      rw [if_neg k3] at h
      by_cases k5 : hk ts = 5
      · rw [if_pos k5] at h
        obtain ⟨c, hc, h⟩ := bind_some h
        cases h
        exact sg_read 1 (.inl rfl) (cellN_lt hc) hs.one
      rw [if_neg k5] at h
      by_cases k12 : hk ts = 12
      · rw [if_pos k12] at h
        obtain ⟨⟨s1, d1, r1⟩, hx, h⟩ := bind_some h
        cases h
        exact (ih 0 off _ _ _ _ _ r1 (by omega) hx (fun e => absurd e (by omega)) hs).2
      rw [if_neg k12] at h
      by_cases k6 : hk ts = 6
      · rw [if_pos k6] at h
        obtain ⟨⟨s1, d1, r1⟩, hx, h⟩ := bind_some h
        obtain ⟨⟨s2, d2, r2⟩, hy, h⟩ := bind_some h
        obtain ⟨⟨s3, d3, r3⟩, hz, h⟩ := bind_some h
        cases h
        dsimp only at hs hy hz ⊢
        have e1 : ∀ (i : Ins) (l : List Ins), i :: l = [i] ++ l := fun _ _ => rfl
        have p2 : Sits code (off + s1.length + 1) (s2 ++ (iTo 14 (off + s1.length + 1 + s2.length + 1 + s3.length) :: s3)) := by
          have := hs.right; rw [e1] at this; exact this.right
        have p3 : Sits code (off + s1.length + 1 + s2.length + 1) s3 := by
          have := p2.right; rw [e1] at this; exact this.right
        have j1 := (ih 0 off _ _ _ s1 d1 r1 (by omega) hx (fun e => absurd e (by omega)) hs.left).2
        have j2 := (ih 0 _ _ _ _ s2 d2 r2 (by omega) hy (fun e => absurd e (by omega)) p2.left).2
        have j3 := (ih 0 _ _ _ _ s3 d3 r3 (by omega) hz (fun e => absurd e (by omega)) p3).2
        have := sg_if (t1 := 0) (t2 := 0) j1 hs.right.one j2 p2.right.one j3
        have el : off + (s1 ++ iTo 13 (off + s1.length + 1 + s2.length + 1) :: (s2 ++ iTo 14 (off + s1.length + 1 + s2.length + 1 + s3.length) :: s3)).length = off + s1.length + 1 + s2.length + 1 + s3.length := by simp; omega
        rw [el]; exact this
      rw [if_neg k6] at h
      by_cases k7 : hk ts = 7
      · rw [if_pos k7] at h
        obtain ⟨⟨s1, d1, r1⟩, hx, h⟩ := bind_some h
        cases h
        have j := (ih 0 off _ _ _ s1 d1 r1 (by omega) hx (fun e => absurd e (by omega)) hs.left).2
        rw [List.length_append, List.length_singleton, ← Nat.add_assoc]
        exact sg_at j hs.right.one
      rw [if_neg k7] at h
      by_cases k8 : hk ts = 8
      · rw [if_pos k8] at h
        obtain ⟨⟨s1, d1, r1⟩, hx, h⟩ := bind_some h
        cases h
        dsimp only at hs hx ⊢
        have p1 : Sits code (off + 1) (s1 ++ [iOp 16]) := Sits.right (a := [_]) hs
        have j := (ih 0 (off + 1) _ _ _ s1 d1 r1 (by omega) hx (fun e => absurd e (by omega)) p1.left).2
        have := sg_bad hs.one j p1.right.one
        have el : off + (iTo 15 (off + 1 + s1.length + 1) :: (s1 ++ [iOp 16])).length = off + 1 + s1.length + 1 := by simp; omega
        rw [el]; exact this
      rw [if_neg k8] at h
      by_cases k9 : hk ts = 9 ∨ hk ts = 10
      · rw [if_pos k9] at h
        obtain ⟨a, ha, h⟩ := bind_some h
        obtain ⟨b, hb, h⟩ := bind_some h
        cases h
        have hl := rangeL_lt (cellN_lt ha) (cellN_lt hb)
        by_cases k : hk ts = 9
        · simp only [if_pos k] at hs ⊢
          refine ⟨(rangeL a b).length, fun S G n k hS hc => ?_⟩
          refine runs_step (m' := ⟨code, off + 1, S ++ [vI 0], G⟩) ?_ (run_sum (rangeL a b) (off + 1) (vI 0) hl (Sits.right (a := [_]) hs) okv_zero (by unfold vI; decide) S G n k hS (by rw [List.length_cons, ← Nat.add_assoc, Nat.add_right_comm] at hc; exact hc))
          rw [head_at hs.one hS.fail]
          rfl
        · simp only [if_neg k] at hs ⊢
          refine ⟨(rangeL a b).length, fun S G n k hS hc => ?_⟩
          refine runs_step (m' := ⟨code, off + 1, S ++ [vI 0], G⟩) ?_ (run_cnt (rangeL a b) (off + 1) (vI 0) hl (Sits.right (a := [_]) hs) okv_zero (by unfold vI; decide) S G n k hS (by rw [List.length_cons, ← Nat.add_assoc, Nat.add_right_comm] at hc; exact hc))
          rw [head_at hs.one hS.fail]
          rfl
      rw [if_neg k9] at h
      cases h
    rw [if_neg t3] at h
    by_cases hq : hk ts ∈ signs (tag - 4)
    · rw [if_pos hq] at h
      obtain ⟨⟨s1, d1, r1⟩, hx, h⟩ := bind_some h
      dsimp only at h
      have main := ih tag off (s ++ (s1 ++ [iOp (signOp (hk ts))])) (binA (signOp (hk ts)) d d1) r1 seg d' rest htag h (fun _ hseg hs1 => by
        have j1 := hp (by omega) hs hs1.left
        have j2 := (ih (tag - 3) (off + s.length) _ _ _ s1 d1 r1 (by omega) hx (fun e => absurd e (by omega)) hs1.right.left).2
        have := sg_bin j1 j2 (signs_op hq) hs1.right.right.one
        have el : off + (s ++ (s1 ++ [iOp (signOp (hk ts))])).length = off + s.length + s1.length + 1 := by simp; omega
        rw [el]; exact this) hs
      refine ⟨fun e => ?_, main.2⟩
      obtain ⟨t, ht⟩ := main.1 e
      exact ⟨s1 ++ [iOp (signOp (hk ts))] ++ t, by rw [ht]; simp⟩
    · rw [if_neg hq] at h
      cases h
      exact ⟨fun _ => ⟨[], by simp⟩, hp (by omega) hs hs⟩
theorem cmp_runs {f : Nat} {ts rest : List Tk} {code : List Ins} {d : Beh} (h : cmp f 0 0 [] (retA vN) ts = some (code, d, rest)) : ∃ n, Runs n ⟨code, 0, [], []⟩ (bindA d retA) := by
  obtain ⟨_, m, hm⟩ := cmp_sg code f 0 0 [] (retA vN) ts code d rest (by omega) h (fun e => absurd e (by omega)) ⟨[], [], by simp, rfl⟩
  have := hm [] [] 0 retA (by intro v hv; cases hv) ⟨fun v hv h4 => ?_, fun v hv h4 p T => ?_⟩
  · exact ⟨_, this⟩
  · refine ⟨1, ⟨code, 0 + code.length, [] ++ [v], []⟩, v, ?_, List.getLast?_concat, hv, rfl⟩
    rw [goM]
    unfold headM
    rw [if_neg (by unfold failB; simp [h4])]
    simp
  · refine ⟨1, ⟨code, p, [] ++ T ++ [v], []⟩, v, ?_, List.getLast?_concat, hv, rfl⟩
    rw [goM]
    unfold headM
    rw [if_pos (by unfold failB; simp [h4])]
    simp
end Go.Proofs.YtlpmmmmniojflaaGreatDoor
