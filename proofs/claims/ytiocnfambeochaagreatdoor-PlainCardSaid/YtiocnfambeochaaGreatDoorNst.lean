/- A new store, what is kept of a new sheet. -/
import Derived.Test.YtiocnfambeochaaGreatDoorVals
import Derived.Deep.MidRow
import Derived.Deep.WholeRow
set_option linter.unusedVariables false
set_option linter.unusedSimpArgs false
namespace Go.Proofs.YtiocnfambeochaaGreatDoor
open Go.RowKit

theorem wpList_load_run {P : Program} {ops : Array Oper} {rest : List Oper} {op : Oper} {a : Act} {w : World} {Q : Exit → Act → World → Prop} (hgd : op.guard = none) (ty : TypeId) (x : Operand) (ho : op.op = .load ty x)
    (ad : Addr) (hx : a.eval x = .pointer (some ad)) (v : Value) (hr : (loadVar ty ad).run P w = .ok v w) (h : wpList P ops Q rest (a.put op.dst v) w) : wpList P ops Q (op :: rest) a w :=
  wpList_plain hgd fun _ hK => by
    unfold Oper.wp execOp
    simp only [ho, hx, Instr.loadAt, Instr.sureAddr, Sem.run_bind, Sem.run_pure, Result.andThen_ok, hr]
    exact hK _ _ h
theorem wpList_store_run {P : Program} {ops : Array Oper} {rest : List Oper} {op : Oper} {a : Act} {w : World} {Q : Exit → Act → World → Prop} (hgd : op.guard = none) (ty : TypeId) (x y : Operand) (ho : op.op = .store ty x y)
    (ad : Addr) (v : Value) (hx : a.eval x = .pointer (some ad)) (hy : a.eval y = v) (w2 : World) (hr : (storeVar ty ad v).run P w = .ok () w2) (h : wpList P ops Q rest (a.put op.dst undef) w2) : wpList P ops Q (op :: rest) a w :=
  wpList_plain hgd fun _ hK => by
    unfold Oper.wp execOp
    simp only [ho, hx, hy, Instr.storeAt, Instr.sureAddr, Sem.run_bind, Sem.run_pure, Result.andThen_ok, hr]
    exact hK _ _ h
theorem results_cell1 {fn : Func} {p : Tmp} {ty : TypeId} (h : fn.results = #[.cell p ty]) (tmps : Array Value) (P : Program) (w : World) (ad : Addr) (v : Value) (w' : World) (hp : tmps.getD p undef = .pointer (some ad)) (hl : (loadVar ty ad).run P w = .ok v w') :
    (results fn tmps).run P w = .ok v w' := by
  simp only [results, h]
  rw [Array.getD_eq_getD_getElem?] at hp
  simp [Sem.run_bind, Result.andThen, hp, asAddr, hl]
theorem info100 : (Tryz.prog.info? 100).map (·.size) = some 323 := by kernel_rfl
theorem size100 : Tryz.zeroCells100.size = 323 := by kernel_rfl
theorem one100 : Tryz.zeroCells100.all (·.oneCell') = true := by kernel_rfl
theorem all_set {z : Array Value} (h : z.all (·.oneCell') = true) (i : Nat) (u : Value) (hu : u.oneCell' = true) : (z.setIfInBounds i u).all (·.oneCell') = true := by
  refine Array.all_eq_true_iff_forall_mem.2 fun v hv => ?_
  rcases Array.mem_or_eq_of_mem_setIfInBounds hv with h1 | h1
  · exact Array.all_eq_true_iff_forall_mem.1 h v h1
  · rw [h1]; exact hu
set_option maxHeartbeats 1000000 in
set_option maxRecDepth 100000 in
theorem newStore_w (n : Nat) (w : World) : Calls Tryz.prog 97 #[.int .i64 n] w fun e w' => e = .returned (.agg (Tryz.zeroCells100.setIfInBounds 0 (.int .i64 n))) ∧ Below w.heap.size w w' := by
  have h2 : Hid ((storeVar 100 ⟨w.heap.size, 0, none⟩ (.agg (Tryz.zeroCells100.setIfInBounds 0 (.int .i64 n)))).run Tryz.prog (w.alloc (.cells Tryz.zeroCells100 100)) = .ok () (w.alloc (.cells (Tryz.zeroCells100.setIfInBounds 0 (.int .i64 n)) 100))) :=
    run_storeVar_new w 100 _ _ (by rw [Array.size_setIfInBounds, size100]; exact info100) (by rw [Array.size_setIfInBounds]) (all_set one100 _ _ rfl)
  have h3 : Hid ((loadVar 100 ⟨w.heap.size, 0, none⟩).run Tryz.prog (w.alloc (.cells (Tryz.zeroCells100.setIfInBounds 0 (.int .i64 n)) 100)) = .ok (.agg (Tryz.zeroCells100.setIfInBounds 0 (.int .i64 n))) (w.alloc (.cells (Tryz.zeroCells100.setIfInBounds 0 (.int .i64 n)) 100))) :=
    run_loadVar_row _ _ 100 100 _ (0, 0) _ (heap_alloc_new w _) Tryz.underlying100 rfl (by rw [Array.size_setIfInBounds, size100]; exact info100)
  go_enter Tryz.func97, Tryz.ntmps97
  go_wp2_with ((refine wpList_store_run (P := Tryz.prog) ?_ 100 (.tmp 2) (.tmp 4) ?_ ⟨w.heap.size, 0, none⟩ (.agg (Tryz.zeroCells100.setIfInBounds 0 (.int .i64 n))) ?_ ?_ (w.alloc (.cells (Tryz.zeroCells100.setIfInBounds 0 (.int .i64 n)) 100)) ?_ ?_; (rfl); (rfl); (rfl); (rfl); (exact h2.out)))
  refine bodyPost_ret (results_cell1 rfl _ _ _ ⟨w.heap.size, 0, none⟩ _ _ rfl h3.out) rfl ?_
  exact ⟨rfl, bl1 _ _⟩
/-- The cells of an empty store with so many places. -/
structure StZ (S : Array Value) (n : Nat) : Prop where
  size : S.size = 323
  places : S[0]? = some (.int .i64 n)
  rest : ∀ j, j ≠ 0 → S[j]? = Tryz.zeroCells100[j]?
  one : S.all (·.oneCell') = true
theorem stZ_new (n : Nat) : StZ (Tryz.zeroCells100.setIfInBounds 0 (.int .i64 n)) n where
  size := by rw [Array.size_setIfInBounds, size100]
  places := by rw [Array.getElem?_setIfInBounds_self_of_lt (by rw [size100]; omega)]
  rest := fun j hj => by rw [Array.getElem?_setIfInBounds_ne (fun e => hj e.symm)]
  one := all_set one100 _ _ rfl
theorem newStore_any (n : Nat) (w : World) : Calls Tryz.prog 97 #[.int .i64 n] w fun e w' => ∃ S, e = .returned (.agg S) ∧ Hid (StZ S n) ∧ Hid (Below w.heap.size w w') :=
  (newStore_w n w).mono fun e w' ⟨h1, h2⟩ => ⟨_, h1, stZ_new n, h2⟩
theorem info102 : (Tryz.prog.info? 102).map (·.size) = some 611 := by kernel_rfl
theorem size102 : Tryz.zeroCells102.size = 611 := by kernel_rfl
theorem one102 : Tryz.zeroCells102.all (·.oneCell') = true := by kernel_rfl
/-- Cells laid over others from a place on. -/
def layAt (z : Array Value) (o : Nat) (S : Array Value) : Array Value := Array.foldl (fun cs x => cs.setIfInBounds (o + x.snd) x.fst) z S.zipIdx 0 S.size
theorem lay_list (o : Nat) : ∀ (l : List Value) (k : Nat) (z : Array Value), (l.zipIdx k).foldl (fun (cs : Array Value) x => cs.setIfInBounds (o + x.snd) x.fst) z = ((l.zipIdx k).foldl (fun (cs : Array Value) x => cs.setIfInBounds (o + x.snd) x.fst) z) := fun _ _ _ => rfl
theorem lay_fold (o : Nat) : ∀ (l : List Value) (k : Nat) (z : Array Value), ((l.zipIdx k).foldl (fun (cs : Array Value) x => cs.setIfInBounds (o + x.snd) x.fst) z).size = z.size ∧
    ∀ j, ((l.zipIdx k).foldl (fun (cs : Array Value) x => cs.setIfInBounds (o + x.snd) x.fst) z)[j]? = if o + k ≤ j ∧ j < o + k + l.length ∧ j < z.size then l[j - (o + k)]? else z[j]?
  | [], k, z => ⟨rfl, fun j => by rw [if_neg (by simp; omega)]; rfl⟩
  | v :: r, k, z => by
    obtain ⟨h1, h2⟩ := lay_fold o r (k + 1) (z.setIfInBounds (o + k) v)
    rw [List.zipIdx_cons, List.foldl_cons]
    refine ⟨by rw [h1, Array.size_setIfInBounds], fun j => ?_⟩
    rw [h2 j, Array.size_setIfInBounds]
    by_cases hj : j = o + k
    · subst hj
      rw [if_neg (by omega)]
      by_cases hz : o + k < z.size
      · rw [Array.getElem?_setIfInBounds_self_of_lt hz, if_pos (by simp; omega)]; simp
      · rw [if_neg (by omega), Array.getElem?_eq_none (by simp; omega), Array.getElem?_eq_none (by omega)]
    · rw [Array.getElem?_setIfInBounds_ne (fun e => hj e.symm)]
      by_cases hin : o + (k + 1) ≤ j ∧ j < o + (k + 1) + r.length ∧ j < z.size
      · rw [if_pos hin, if_pos (by simp only [List.length_cons]; omega)]
        have : j - (o + k) = (j - (o + (k + 1))) + 1 := by omega
        rw [this, List.getElem?_cons_succ]
      · rw [if_neg hin, if_neg (by simp only [List.length_cons]; omega)]
theorem layAt_eq (z : Array Value) (o : Nat) (S : Array Value) : layAt z o S = (S.toList.zipIdx 0).foldl (fun (cs : Array Value) x => cs.setIfInBounds (o + x.snd) x.fst) z := by
  unfold layAt
  have : S.size = S.zipIdx.size := by simp
  rw [this, ← Array.foldl_toList]
  simp
theorem layAt_size (z : Array Value) (o : Nat) (S : Array Value) : (layAt z o S).size = z.size := by rw [layAt_eq]; exact (lay_fold o _ 0 z).1
theorem layAt_get (z : Array Value) (o : Nat) (S : Array Value) (j : Nat) : (layAt z o S)[j]? = if o ≤ j ∧ j < o + S.size ∧ j < z.size then S[j - o]? else z[j]? := by
  rw [layAt_eq, (lay_fold o _ 0 z).2 j]
  simp
theorem layAt_one {z S : Array Value} (o : Nat) (hz : z.all (·.oneCell') = true) (hS : S.all (·.oneCell') = true) : (layAt z o S).all (·.oneCell') = true := by
  refine Array.all_eq_true_iff_forall_mem.2 fun v hv => ?_
  obtain ⟨j, hj⟩ := Array.getElem?_of_mem hv
  rw [layAt_get] at hj
  split at hj
  · exact Array.all_eq_true_iff_forall_mem.1 hS v (Array.mem_of_getElem? hj)
  · exact Array.all_eq_true_iff_forall_mem.1 hz v (Array.mem_of_getElem? hj)
theorem below_setRow {B : Nat} {a w : World} (h : Below B a w) {g : Nat} (hg : B ≤ g) (cs : Array Value) : Below B a (w.setRow g cs) :=
  h.trans ⟨rfl, rfl, rfl, by simp, fun k hk => setRow_other w g k cs (by omega)⟩

/-- The cells of what is kept of a new sheet: its chain up to a place. -/
structure KpZ (K : Array Value) (n j : Nat) : Prop where
  size : K.size = 611
  chain : ∀ i, i < j → K[240 + i]? = some (.int .i64 i)
  places : K[288]? = some (.int .i64 n)
  rest : ∀ i, (i < 240 + j → i < 240) → i ≠ 288 → K[i]? = Tryz.zeroCells102[i]?
  one : K.all (·.oneCell') = true
theorem zero_tail : Tryz.zeroCells102.toList.drop 288 = Tryz.zeroCells100.toList := by kernel_rfl
theorem kpZ_new {S : Array Value} {n : Nat} (h : StZ S n) : KpZ (layAt Tryz.zeroCells102 288 S) n 0 where
  size := by rw [layAt_size, size102]
  chain := fun i hi => absurd hi (by omega)
  places := by rw [layAt_get, if_pos (by rw [h.size, size102]; omega)]; exact h.places
  rest := fun i h1 h2 => by
    rw [layAt_get]
    split
    · rename_i h3
      rw [h.rest _ (by omega)]
      have := congrArg (fun l => l[i - 288]?) zero_tail
      simp only [List.getElem?_drop, Array.getElem?_toList] at this
      rw [show 288 + (i - 288) = i by omega] at this
      exact this.symm
    · rfl
  one := layAt_one _ one102 h.one
theorem kpZ_next {K : Array Value} {n j : Nat} (h : KpZ K n j) (hj : j < 48) : KpZ (K.setIfInBounds (240 + j) (.int .i64 j)) n (j + 1) where
  size := by rw [Array.size_setIfInBounds, h.size]
  chain := fun i hi => by
    by_cases e : i = j
    · subst e; rw [Array.getElem?_setIfInBounds_self_of_lt (by rw [h.size]; omega)]
    · rw [Array.getElem?_setIfInBounds_ne (by omega)]; exact h.chain i (by omega)
  places := by rw [Array.getElem?_setIfInBounds_ne (by omega)]; exact h.places
  rest := fun i h1 h2 => by
    rw [Array.getElem?_setIfInBounds_ne (by omega)]; exact h.rest i (by omega) h2
  one := all_set h.one _ _ rfl
set_option maxHeartbeats 4000000 in
set_option maxRecDepth 100000 in
theorem newKept_w (n : Nat) (w : World) : Calls Tryz.prog 65 #[.int .i64 n] w fun e w' => ∃ K, e = .returned (.agg K) ∧ Hid (KpZ K n 48) ∧ Hid (Below w.heap.size w w') := by
  go_enter Tryz.func65, Tryz.ntmps65
  go_wp2_with fail
  refine (newStore_any n _).mono ?_
  rintro e w1 ⟨S, rfl, hS, hb1⟩
  have hsz := hS.out.size
  obtain ⟨K, hK⟩ : ∃ K, Array.foldl (fun (cs : Array Value) x => cs.setIfInBounds (288 + x.snd) x.fst) Tryz.zeroCells102 S.zipIdx 0 323 = K := ⟨_, rfl⟩
  have HK : Hid (KpZ K n 0) := by
    have := kpZ_new hS.out
    unfold layAt at this
    rw [hsz, hK] at this
    exact this
  have hks := HK.out.size
  have HE : Hid (w1.heap[w.heap.size]? = some (.cells Tryz.zeroCells102 102 (0, 0))) := by
    unfold Hid; rw [hb1.out.block _ (by simp)]; exact heap_alloc_new w _
  have HB : Hid (Below w.heap.size w w1) := (bl1 w _).trans (hb1.out.mono (by simp))
  have HLT : Hid (w.heap.size < w1.heap.size) := by have := hb1.out.size; simp at this; exact this
  have h2 : Hid ((storeVar 102 ⟨w1.heap.size, 0, none⟩ (.agg K)).run Tryz.prog (w1.alloc (.cells Tryz.zeroCells102 102)) = .ok () (w1.alloc (.cells K 102))) :=
    run_storeVar_new w1 102 _ _ (by rw [hks]; exact info102) (by rw [size102, hks]) HK.out.one
  clear hb1 hS
  go_wp2_with ((refine wpList_store_run (P := Tryz.prog) ?_ 102 (.tmp 3) (.tmp 7) ?_ ⟨w1.heap.size, 0, none⟩ (.agg K) ?_ ?_ (w1.alloc (.cells K 102)) ?_ ?_; (rfl); (rfl); (rfl); (rfl); (exact h2.out)))
  clear h2 hK hks hsz
  go_loopw [8] (fun x wr => ∃ (j : Nat) (cs : Array Value), j ≤ 48 ∧ x = .int .i64 j ∧ wr = w1.alloc (.cells cs 102) ∧ Hid (KpZ cs n j)) (fun x _ => 48 - (intOf x).toNat)
  case atStart => exact ⟨0, K, by omega, rfl, rfl, HK.out⟩
  case round =>
    obtain ⟨j, cs, hj, rfl, rfl, hN⟩ := hrel
    by_cases hlt : j < 48
    · have hlti : (j : Int) < 48 := by omega
      have hsz := hN.out.size
      obtain ⟨v0, hv0⟩ : ∃ v, cs[240 + j]? = some v := ⟨_, Array.getElem?_eq_getElem (by omega)⟩
      clear hsz
      go_wp2_with fail
      exact ⟨⟨j + 1, _, by omega, by go_num, rfl, kpZ_next hN.out hlt⟩, by simp [intOf]; omega⟩
    · have hlti : ¬ (j : Int) < 48 := by omega
      have e : j = 48 := by omega
      subst e
      have hsz := hN.out.size
      have h3 : Hid ((loadVar 102 ⟨w1.heap.size, 0, none⟩).run Tryz.prog (w1.alloc (.cells cs 102)) = .ok (.agg cs) (w1.alloc (.cells cs 102))) :=
        run_loadVar_row _ _ 102 102 cs (0, 0) _ (heap_alloc_new w1 _) Tryz.underlying102 rfl (by rw [hsz]; exact info102)
      have HE1 : Hid ((w1.alloc (.cells cs 102)).heap[w.heap.size]? = some (.cells Tryz.zeroCells102 102 (0, 0))) := by
        unfold Hid; rw [Below.heap_alloc _ _ _ HLT.out]; exact HE.out
      have h4 : Hid ((storeVar 102 ⟨w.heap.size, 0, none⟩ (.agg cs)).run Tryz.prog (w1.alloc (.cells cs 102)) = .ok () ((w1.alloc (.cells cs 102)).setRow w.heap.size cs)) :=
        run_storeVar_row _ _ 102 102 _ cs HE1.out (by rw [hsz]; exact info102) (by rw [size102, hsz]) hN.out.one
      have h5 : Hid ((loadVar 102 ⟨w.heap.size, 0, none⟩).run Tryz.prog ((w1.alloc (.cells cs 102)).setRow w.heap.size cs) = .ok (.agg cs) ((w1.alloc (.cells cs 102)).setRow w.heap.size cs)) :=
        run_loadVar_row _ _ 102 102 cs (0, 0) _ (setRow_heap _ _ _ _ _ _ HE1.out) Tryz.underlying102 rfl (by rw [hsz]; exact info102)
      clear hsz
      go_wp2_with (first
        | (refine wpList_load_run (P := Tryz.prog) ?_ 102 (.tmp 3) ?_ ⟨w1.heap.size, 0, none⟩ ?_ (.agg cs) ?_ ?_; (rfl); (rfl); (rfl); (exact h3.out))
        | (refine wpList_store_run (P := Tryz.prog) ?_ 102 (.tmp 2) (.tmp 16) ?_ ⟨w.heap.size, 0, none⟩ (.agg cs) ?_ ?_ ((w1.alloc (.cells cs 102)).setRow w.heap.size cs) ?_ ?_; (rfl); (rfl); (rfl); (rfl); (exact h4.out)))
      refine bodyPost_ret (results_cell1 rfl _ _ _ ⟨w.heap.size, 0, none⟩ _ _ rfl h5.out) rfl ?_
      exact ⟨cs, rfl, hN, below_setRow (HB.out.alloc HB.out.size _) (Nat.le_refl _) _⟩
end Go.Proofs.YtiocnfambeochaaGreatDoor
