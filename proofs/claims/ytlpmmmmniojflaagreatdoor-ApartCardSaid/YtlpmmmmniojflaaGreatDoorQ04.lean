/- Texts put together. -/
import Derived.Test.YtlpmmmmniojflaaGreatDoorQ02
import Derived.Deep.MidRow
import Derived.Deep.WholeRow
import Derived.WalkKit
import Derived.Laws.OwnMore
import Derived.Below
/- Values, walked: the other signs. -/
set_option linter.unusedVariables false
set_option linter.unusedSimpArgs false
namespace Go.Proofs.YtlpmmmmniojflaaGreatDoor
open Go.RowKit
theorem tdiv_out {a b s : Int} (hb1 : -9223372036854775808 ≤ b) (hb2 : b ≤ 9223372036854775807) (hb0 : b ≠ 0) (hs : wrap64 (a * b) = s) (ht : s.tdiv b = a) : s = a * b := by
  have h1 := Int.mul_tdiv_add_tmod s b
  rw [ht, Int.mul_comm] at h1
  have h2 : (s.tmod b).natAbs < b.natAbs := by rw [Int.natAbs_tmod]; exact Nat.mod_lt _ (by omega)
  generalize a * b = m at *
  unfold wrap64 at hs
  omega
set_option maxHeartbeats 4000000 in
theorem mul_w (a b : V) (ha : I64 a.n) (hb : I64 b.n) : Gives 240 #[vV a, vV b] (vV (vMul a b)) := by
  intro w
  unfold I64 at ha hb
  obtain ⟨ha1, ha2⟩ := ha
  obtain ⟨hb1, hb2⟩ := hb
  have HR : Hid (vMul a b = if a.k = 1 ∧ b.k = 1 then vNum (a.n * b.n) else vE 4) := rfl
  generalize vMul a b = res at *
  unfold vV
  by_cases h1 : a.k = 1
  · by_cases h2 : b.k = 1
    · obtain ⟨s, hs⟩ : ∃ s, wrap64 (a.n * b.n) = s := ⟨_, rfl⟩
      have HW : Hid (wrap64 (a.n * b.n) = s) := hs
      have HN : Hid (res = vNum (a.n * b.n)) := by unfold Hid; rw [HR.out, if_pos ⟨h1, h2⟩]
      by_cases p : b.n = 0
      · have HF : Hid (res = vI 0) := by unfold Hid; rw [HN.out, p, Int.mul_zero]; rfl
        go_enter Tryz.func240, Tryz.ntmps240
        go_wp2
        go_quiet (fail)
        go_wp2
        go_returns
        rw [HF.out]
        exact ⟨rfl, by repeat (first | exact Below.refl _ _ | refine bal ?_ _ | refine below_drewN ?_ _ | refine Below.setCell ?_ (by dsimp only; omega) _)⟩
      · have p' : (b.n == 0) = false := by simpa using p
        have p2 : (b.n != 0) = true := by simpa using p
        by_cases q : b.n = -1
        · have q2 : (b.n == -1) = true := by simpa using q
          by_cases r : a.n = -9223372036854775808
          · have r' : (a.n == -9223372036854775808) = true := by simpa using r
            have HF : Hid (res = vE 1) := by unfold Hid; rw [HN.out, q, r]; rfl
            clear q r
            go_enter Tryz.func240, Tryz.ntmps240
            go_wp2
            go_quiet (fail)
            go_wp2
            go_returns
            rw [HF.out]
            exact ⟨rfl, by repeat (first | exact Below.refl _ _ | refine bal ?_ _ | refine below_drewN ?_ _ | refine Below.setCell ?_ (by dsimp only; omega) _)⟩
          · have r' : (a.n == -9223372036854775808) = false := by simpa using r
            have hsv : s = -a.n := by rw [q] at hs; unfold wrap64 at hs; omega
            have t1 : IntKind.i64.wrap (s.tdiv b.n) = a.n := by
              have e : s.tdiv b.n = a.n := by rw [q, hsv, Int.tdiv_neg, Int.tdiv_one]; omega
              rw [e, IntKind.wrap_i64]; omega
            have t2 : (IntKind.i64.wrap (s.tdiv b.n) != a.n) = false := by rw [t1]; simp
            have t3 : (wrap64 (s.tdiv b.n) != a.n) = false := by (have h9 := t2; rw [IntKind.wrap_i64] at h9; unfold wrap64; exact h9)
            have HF : Hid (res = vI s) := by unfold Hid; rw [HN.out]; exact num_in HW.out (by rw [q]; omega)
            clear q r hsv t1
            go_enter Tryz.func240, Tryz.ntmps240
            go_wp2
            go_quiet (fail)
            go_wp2
            go_returns
            rw [HF.out]
            exact ⟨rfl, by repeat (first | exact Below.refl _ _ | refine bal ?_ _ | refine below_drewN ?_ _ | refine Below.setCell ?_ (by dsimp only; omega) _)⟩
        · have q' : (b.n == -1) = false := by simpa using q
          have hsr : -9223372036854775808 ≤ s ∧ s ≤ 9223372036854775807 := by unfold wrap64 at hs; omega
          have hw : IntKind.i64.wrap (s.tdiv b.n) = s.tdiv b.n := by
            have h3 : (s.tdiv b.n).natAbs ≤ s.natAbs := by rw [Int.natAbs_tdiv]; exact Nat.div_le_self _ _
            have h4 : s.tdiv b.n ≠ 9223372036854775808 := by
              intro e
              have h5 : s = -9223372036854775808 := by rw [e] at h3; omega
              have h6 := Int.mul_tdiv_add_tmod s b.n
              rw [e] at h6
              have h7 : (s.tmod b.n).natAbs < b.n.natAbs := by rw [Int.natAbs_tmod]; exact Nat.mod_lt _ (by omega)
              omega
            rw [IntKind.wrap_i64]; omega
          by_cases r : s.tdiv b.n = a.n
          · have t2 : (IntKind.i64.wrap (s.tdiv b.n) != a.n) = false := by rw [hw, r]; simp
            have t3 : (wrap64 (s.tdiv b.n) != a.n) = false := by (have h9 := t2; rw [IntKind.wrap_i64] at h9; unfold wrap64; exact h9)
            have HF : Hid (res = vI s) := by
              unfold Hid; rw [HN.out]
              have := tdiv_out hb1 hb2 p hs r
              exact num_in HW.out (by rw [← this]; exact hsr)
            clear q r hw hsr
            go_enter Tryz.func240, Tryz.ntmps240
            go_wp2
            go_quiet (fail)
            go_wp2
            go_returns
            rw [HF.out]
            exact ⟨rfl, by repeat (first | exact Below.refl _ _ | refine bal ?_ _ | refine below_drewN ?_ _ | refine Below.setCell ?_ (by dsimp only; omega) _)⟩
          · have t2 : (IntKind.i64.wrap (s.tdiv b.n) != a.n) = true := by rw [hw]; simpa using r
            have t3 : (wrap64 (s.tdiv b.n) != a.n) = true := by (have h9 := t2; rw [IntKind.wrap_i64] at h9; unfold wrap64; exact h9)
            have HF : Hid (res = vE 1) := by
              unfold Hid; rw [HN.out]
              refine num_out fun hin => r ?_
              have e : s = a.n * b.n := by unfold wrap64 at hs; omega
              rw [e]; exact Int.mul_tdiv_cancel a.n p
            clear q r hw hsr
            go_enter Tryz.func240, Tryz.ntmps240
            go_wp2
            go_quiet (fail)
            go_wp2
            go_returns
            rw [HF.out]
            exact ⟨rfl, by repeat (first | exact Below.refl _ _ | refine bal ?_ _ | refine below_drewN ?_ _ | refine Below.setCell ?_ (by dsimp only; omega) _)⟩
    · have HN : Hid (res = vE 4) := by unfold Hid; rw [HR.out, if_neg (fun h => h2 h.2)]
      have e2 : (b.k == 1) = false := by simpa using h2
      go_enter Tryz.func240, Tryz.ntmps240
      go_wp2
      go_returns
      rw [HN.out]
      exact ⟨rfl, by repeat (first | exact Below.refl _ _ | refine bal ?_ _ | refine below_drewN ?_ _ | refine Below.setCell ?_ (by dsimp only; omega) _)⟩
  · have HN : Hid (res = vE 4) := by unfold Hid; rw [HR.out, if_neg (fun h => h1 h.1)]
    have e1 : (a.k == 1) = false := by simpa using h1
    go_enter Tryz.func240, Tryz.ntmps240
    go_wp2
    go_returns
    rw [HN.out]
    exact ⟨rfl, by repeat (first | exact Below.refl _ _ | refine bal ?_ _ | refine below_drewN ?_ _ | refine Below.setCell ?_ (by dsimp only; omega) _)⟩
end Go.Proofs.YtlpmmmmniojflaaGreatDoor
/- A new store, what is kept of a new sheet. -/
set_option linter.unusedVariables false
set_option linter.unusedSimpArgs false
namespace Go.Proofs.YtlpmmmmniojflaaGreatDoor
open Go.RowKit
theorem wpList_load_run {P : Program} {ops : Array Oper} {rest : List Oper} {op : Oper} {a : Act} {w : World} {Q : Exit → Act → World → Prop} (hgd : op.guard = none) (ty : TypeId) (x : Operand) (ho : op.op = .load ty x)
    (ad : Addr) (hx : a.eval x = .pointer (some ad)) (v : Value) (hr : (loadVar ty ad).run P w = .ok v w) (h : wpList P ops Q rest (a.put op.dst v) w) : wpList P ops Q (op :: rest) a w :=
  wpList_plain hgd fun _ hK => by
    unfold Oper.wp execOp
    simp only [ho, hx, Instr.loadAt, Instr.sureAddr, Sem.run_bind, Sem.run_pure, Result.andThen_ok, hr]
    exact hK _ _ h
theorem wpList_store_run {P : Program} {ops : Array Oper} {rest : List Oper} {op : Oper} {a : Act} {w : World} {Q : Exit → Act → World → Prop} (hgd : op.guard = none) (ty : TypeId) (x y : Operand) (ho : op.op = .store ty x y)
    (ad : Addr) (v : Value) (hx : a.eval x = .pointer (some ad)) (hy : a.eval y = v) (w2 : World) (hr : (storeVar ty ad v).run P w = .ok () w2) (h : wpList P ops Q rest (a.put op.dst undef) w2) : wpList P ops Q (op :: rest) a w :=
  wpList_plain hgd fun _ hK => by
    unfold Oper.wp execOp
    simp only [ho, hx, hy, Instr.storeAt, Instr.sureAddr, Sem.run_bind, Sem.run_pure, Result.andThen_ok, hr]
    exact hK _ _ h
theorem results_cell1 {fn : Func} {p : Tmp} {ty : TypeId} (h : fn.results = #[.cell p ty]) (tmps : Array Value) (P : Program) (w : World) (ad : Addr) (v : Value) (w' : World) (hp : tmps.getD p undef = .pointer (some ad)) (hl : (loadVar ty ad).run P w = .ok v w') :
    (results fn tmps).run P w = .ok v w' := by
  simp only [results, h]
  rw [Array.getD_eq_getD_getElem?] at hp
  simp [Sem.run_bind, Result.andThen, hp, asAddr, hl]
theorem info100 : (Tryz.prog.info? 100).map (·.size) = some 323 := by kernel_rfl
theorem size100 : Tryz.zeroCells100.size = 323 := by kernel_rfl
theorem one100 : Tryz.zeroCells100.all (·.oneCell') = true := by kernel_rfl
theorem all_set {z : Array Value} (h : z.all (·.oneCell') = true) (i : Nat) (u : Value) (hu : u.oneCell' = true) : (z.setIfInBounds i u).all (·.oneCell') = true := by
  refine Array.all_eq_true_iff_forall_mem.2 fun v hv => ?_
  rcases Array.mem_or_eq_of_mem_setIfInBounds hv with h1 | h1
  · exact Array.all_eq_true_iff_forall_mem.1 h v h1
  · rw [h1]; exact hu
set_option maxHeartbeats 1000000 in
set_option maxRecDepth 100000 in
theorem newStore_w (n : Nat) (w : World) : Calls Tryz.prog 97 #[.int .i64 n] w fun e w' => e = .returned (.agg (Tryz.zeroCells100.setIfInBounds 0 (.int .i64 n))) ∧ Below w.heap.size w w' := by
  have h2 : Hid ((storeVar 100 ⟨w.heap.size, 0, none⟩ (.agg (Tryz.zeroCells100.setIfInBounds 0 (.int .i64 n)))).run Tryz.prog (w.alloc (.cells Tryz.zeroCells100 100)) = .ok () (w.alloc (.cells (Tryz.zeroCells100.setIfInBounds 0 (.int .i64 n)) 100))) :=
    run_storeVar_new w 100 _ _ (by rw [Array.size_setIfInBounds, size100]; exact info100) (by rw [Array.size_setIfInBounds]) (all_set one100 _ _ rfl)
  have h3 : Hid ((loadVar 100 ⟨w.heap.size, 0, none⟩).run Tryz.prog (w.alloc (.cells (Tryz.zeroCells100.setIfInBounds 0 (.int .i64 n)) 100)) = .ok (.agg (Tryz.zeroCells100.setIfInBounds 0 (.int .i64 n))) (w.alloc (.cells (Tryz.zeroCells100.setIfInBounds 0 (.int .i64 n)) 100))) :=
    run_loadVar_row _ _ 100 100 _ (0, 0) _ (heap_alloc_new w _) Tryz.underlying100 rfl (by rw [Array.size_setIfInBounds, size100]; exact info100)
  go_enter Tryz.func97, Tryz.ntmps97
  go_wp2_with ((refine wpList_store_run (P := Tryz.prog) ?_ 100 (.tmp 2) (.tmp 4) ?_ ⟨w.heap.size, 0, none⟩ (.agg (Tryz.zeroCells100.setIfInBounds 0 (.int .i64 n))) ?_ ?_ (w.alloc (.cells (Tryz.zeroCells100.setIfInBounds 0 (.int .i64 n)) 100)) ?_ ?_; (rfl); (rfl); (rfl); (rfl); (exact h2.out)))
  refine bodyPost_ret (results_cell1 rfl _ _ _ ⟨w.heap.size, 0, none⟩ _ _ rfl h3.out) rfl ?_
  exact ⟨rfl, bl1 _ _⟩
structure StZ (S : Array Value) (n : Nat) : Prop where
  size : S.size = 323
  places : S[0]? = some (.int .i64 n)
  rest : ∀ j, j ≠ 0 → S[j]? = Tryz.zeroCells100[j]?
  one : S.all (·.oneCell') = true
theorem stZ_new (n : Nat) : StZ (Tryz.zeroCells100.setIfInBounds 0 (.int .i64 n)) n where
  size := by rw [Array.size_setIfInBounds, size100]
  places := by rw [Array.getElem?_setIfInBounds_self_of_lt (by rw [size100]; omega)]
  rest := fun j hj => by rw [Array.getElem?_setIfInBounds_ne (fun e => hj e.symm)]
  one := all_set one100 _ _ rfl
theorem newStore_any (n : Nat) (w : World) : Calls Tryz.prog 97 #[.int .i64 n] w fun e w' => ∃ S, e = .returned (.agg S) ∧ Hid (StZ S n) ∧ Hid (Below w.heap.size w w') :=
  (newStore_w n w).mono fun e w' ⟨h1, h2⟩ => ⟨_, h1, stZ_new n, h2⟩
theorem info102 : (Tryz.prog.info? 102).map (·.size) = some 611 := by kernel_rfl
theorem size102 : Tryz.zeroCells102.size = 611 := by kernel_rfl
theorem one102 : Tryz.zeroCells102.all (·.oneCell') = true := by kernel_rfl
def layAt (z : Array Value) (o : Nat) (S : Array Value) : Array Value := Array.foldl (fun cs x => cs.setIfInBounds (o + x.snd) x.fst) z S.zipIdx 0 S.size
theorem lay_fold (o : Nat) : ∀ (l : List Value) (k : Nat) (z : Array Value), ((l.zipIdx k).foldl (fun (cs : Array Value) x => cs.setIfInBounds (o + x.snd) x.fst) z).size = z.size ∧
    ∀ j, ((l.zipIdx k).foldl (fun (cs : Array Value) x => cs.setIfInBounds (o + x.snd) x.fst) z)[j]? = if o + k ≤ j ∧ j < o + k + l.length ∧ j < z.size then l[j - (o + k)]? else z[j]?
  | [], k, z => ⟨rfl, fun j => by rw [if_neg (by simp; omega)]; rfl⟩
  | v :: r, k, z => by
    obtain ⟨h1, h2⟩ := lay_fold o r (k + 1) (z.setIfInBounds (o + k) v)
    rw [List.zipIdx_cons, List.foldl_cons]
    refine ⟨by rw [h1, Array.size_setIfInBounds], fun j => ?_⟩
    rw [h2 j, Array.size_setIfInBounds]
    by_cases hj : j = o + k
    · subst hj
      rw [if_neg (by omega)]
      by_cases hz : o + k < z.size
      · rw [Array.getElem?_setIfInBounds_self_of_lt hz, if_pos (by simp; omega)]; simp
      · rw [if_neg (by omega), Array.getElem?_eq_none (by simp; omega), Array.getElem?_eq_none (by omega)]
    · rw [Array.getElem?_setIfInBounds_ne (fun e => hj e.symm)]
      by_cases hin : o + (k + 1) ≤ j ∧ j < o + (k + 1) + r.length ∧ j < z.size
      · rw [if_pos hin, if_pos (by simp only [List.length_cons]; omega)]
        have : j - (o + k) = (j - (o + (k + 1))) + 1 := by omega
        rw [this, List.getElem?_cons_succ]
      · rw [if_neg hin, if_neg (by simp only [List.length_cons]; omega)]
theorem layAt_eq (z : Array Value) (o : Nat) (S : Array Value) : layAt z o S = (S.toList.zipIdx 0).foldl (fun (cs : Array Value) x => cs.setIfInBounds (o + x.snd) x.fst) z := by
  unfold layAt
  have : S.size = S.zipIdx.size := by simp
  rw [this, ← Array.foldl_toList]
  simp
theorem layAt_size (z : Array Value) (o : Nat) (S : Array Value) : (layAt z o S).size = z.size := by rw [layAt_eq]; exact (lay_fold o _ 0 z).1
theorem layAt_get (z : Array Value) (o : Nat) (S : Array Value) (j : Nat) : (layAt z o S)[j]? = if o ≤ j ∧ j < o + S.size ∧ j < z.size then S[j - o]? else z[j]? := by
  rw [layAt_eq, (lay_fold o _ 0 z).2 j]
  simp
theorem layAt_one {z S : Array Value} (o : Nat) (hz : z.all (·.oneCell') = true) (hS : S.all (·.oneCell') = true) : (layAt z o S).all (·.oneCell') = true := by
  refine Array.all_eq_true_iff_forall_mem.2 fun v hv => ?_
  obtain ⟨j, hj⟩ := Array.getElem?_of_mem hv
  rw [layAt_get] at hj
  split at hj
  · exact Array.all_eq_true_iff_forall_mem.1 hS v (Array.mem_of_getElem? hj)
  · exact Array.all_eq_true_iff_forall_mem.1 hz v (Array.mem_of_getElem? hj)
theorem below_setRow {B : Nat} {a w : World} (h : Below B a w) {g : Nat} (hg : B ≤ g) (cs : Array Value) : Below B a (w.setRow g cs) :=
  h.trans ⟨rfl, rfl, rfl, by simp, fun k hk => setRow_other w g k cs (by omega)⟩
structure KpZ (K : Array Value) (n j : Nat) : Prop where
  size : K.size = 611
  chain : ∀ i, i < j → K[240 + i]? = some (.int .i64 i)
  places : K[288]? = some (.int .i64 n)
  rest : ∀ i, (i < 240 + j → i < 240) → i ≠ 288 → K[i]? = Tryz.zeroCells102[i]?
  one : K.all (·.oneCell') = true
theorem zero_tail : Tryz.zeroCells102.toList.drop 288 = Tryz.zeroCells100.toList := by kernel_rfl
theorem kpZ_new {S : Array Value} {n : Nat} (h : StZ S n) : KpZ (layAt Tryz.zeroCells102 288 S) n 0 where
  size := by rw [layAt_size, size102]
  chain := fun i hi => absurd hi (by omega)
  places := by rw [layAt_get, if_pos (by rw [h.size, size102]; omega)]; exact h.places
  rest := fun i h1 h2 => by
    rw [layAt_get]
    split
    · rename_i h3
      rw [h.rest _ (by omega)]
      have := congrArg (fun l => l[i - 288]?) zero_tail
      simp only [List.getElem?_drop, Array.getElem?_toList] at this
      rw [show 288 + (i - 288) = i by omega] at this
      exact this.symm
    · rfl
  one := layAt_one _ one102 h.one
theorem kpZ_next {K : Array Value} {n j : Nat} (h : KpZ K n j) (hj : j < 48) : KpZ (K.setIfInBounds (240 + j) (.int .i64 j)) n (j + 1) where
  size := by rw [Array.size_setIfInBounds, h.size]
  chain := fun i hi => by
    by_cases e : i = j
    · subst e; rw [Array.getElem?_setIfInBounds_self_of_lt (by rw [h.size]; omega)]
    · rw [Array.getElem?_setIfInBounds_ne (by omega)]; exact h.chain i (by omega)
  places := by rw [Array.getElem?_setIfInBounds_ne (by omega)]; exact h.places
  rest := fun i h1 h2 => by
    rw [Array.getElem?_setIfInBounds_ne (by omega)]; exact h.rest i (by omega) h2
  one := all_set h.one _ _ rfl
set_option maxHeartbeats 4000000 in
set_option maxRecDepth 100000 in
theorem newKept_w (n : Nat) (w : World) : Calls Tryz.prog 65 #[.int .i64 n] w fun e w' => ∃ K, e = .returned (.agg K) ∧ Hid (KpZ K n 48) ∧ Hid (Below w.heap.size w w') := by
  go_enter Tryz.func65, Tryz.ntmps65
  go_wp2_with fail
  refine (newStore_any n _).mono ?_
  rintro e w1 ⟨S, rfl, hS, hb1⟩
  have hsz := hS.out.size
  obtain ⟨K, hK⟩ : ∃ K, Array.foldl (fun (cs : Array Value) x => cs.setIfInBounds (288 + x.snd) x.fst) Tryz.zeroCells102 S.zipIdx 0 323 = K := ⟨_, rfl⟩
  have HK : Hid (KpZ K n 0) := by
    have := kpZ_new hS.out
    unfold layAt at this
    rw [hsz, hK] at this
    exact this
  have hks := HK.out.size
  have HE : Hid (w1.heap[w.heap.size]? = some (.cells Tryz.zeroCells102 102 (0, 0))) := by
    unfold Hid; rw [hb1.out.block _ (by simp)]; exact heap_alloc_new w _
  have HB : Hid (Below w.heap.size w w1) := (bl1 w _).trans (hb1.out.mono (by simp))
  have HLT : Hid (w.heap.size < w1.heap.size) := by have := hb1.out.size; simp at this; exact this
  have h2 : Hid ((storeVar 102 ⟨w1.heap.size, 0, none⟩ (.agg K)).run Tryz.prog (w1.alloc (.cells Tryz.zeroCells102 102)) = .ok () (w1.alloc (.cells K 102))) :=
    run_storeVar_new w1 102 _ _ (by rw [hks]; exact info102) (by rw [size102, hks]) HK.out.one
  clear hb1 hS
  go_wp2_with ((refine wpList_store_run (P := Tryz.prog) ?_ 102 (.tmp 3) (.tmp 7) ?_ ⟨w1.heap.size, 0, none⟩ (.agg K) ?_ ?_ (w1.alloc (.cells K 102)) ?_ ?_; (rfl); (rfl); (rfl); (rfl); (exact h2.out)))
  clear h2 hK hks hsz
  go_loopw [8] (fun x wr => ∃ (j : Nat) (cs : Array Value), j ≤ 48 ∧ x = .int .i64 j ∧ wr = w1.alloc (.cells cs 102) ∧ Hid (KpZ cs n j)) (fun x _ => 48 - (intOf x).toNat)
  case atStart => exact ⟨0, K, by omega, rfl, rfl, HK.out⟩
  case round =>
    obtain ⟨j, cs, hj, rfl, rfl, hN⟩ := hrel
    by_cases hlt : j < 48
    · have hlti : (j : Int) < 48 := by omega
      have hsz := hN.out.size
      obtain ⟨v0, hv0⟩ : ∃ v, cs[240 + j]? = some v := ⟨_, Array.getElem?_eq_getElem (by omega)⟩
      clear hsz
      go_wp2_with fail
      exact ⟨⟨j + 1, _, by omega, by go_num, rfl, kpZ_next hN.out hlt⟩, by simp [intOf]; omega⟩
    · have hlti : ¬ (j : Int) < 48 := by omega
      have e : j = 48 := by omega
      subst e
      have hsz := hN.out.size
      have h3 : Hid ((loadVar 102 ⟨w1.heap.size, 0, none⟩).run Tryz.prog (w1.alloc (.cells cs 102)) = .ok (.agg cs) (w1.alloc (.cells cs 102))) :=
        run_loadVar_row _ _ 102 102 cs (0, 0) _ (heap_alloc_new w1 _) Tryz.underlying102 rfl (by rw [hsz]; exact info102)
      have HE1 : Hid ((w1.alloc (.cells cs 102)).heap[w.heap.size]? = some (.cells Tryz.zeroCells102 102 (0, 0))) := by
        unfold Hid; rw [Below.heap_alloc _ _ _ HLT.out]; exact HE.out
      have h4 : Hid ((storeVar 102 ⟨w.heap.size, 0, none⟩ (.agg cs)).run Tryz.prog (w1.alloc (.cells cs 102)) = .ok () ((w1.alloc (.cells cs 102)).setRow w.heap.size cs)) :=
        run_storeVar_row _ _ 102 102 _ cs HE1.out (by rw [hsz]; exact info102) (by rw [size102, hsz]) hN.out.one
      have h5 : Hid ((loadVar 102 ⟨w.heap.size, 0, none⟩).run Tryz.prog ((w1.alloc (.cells cs 102)).setRow w.heap.size cs) = .ok (.agg cs) ((w1.alloc (.cells cs 102)).setRow w.heap.size cs)) :=
        run_loadVar_row _ _ 102 102 cs (0, 0) _ (setRow_heap _ _ _ _ _ _ HE1.out) Tryz.underlying102 rfl (by rw [hsz]; exact info102)
      clear hsz
      go_wp2_with (first
        | (refine wpList_load_run (P := Tryz.prog) ?_ 102 (.tmp 3) ?_ ⟨w1.heap.size, 0, none⟩ ?_ (.agg cs) ?_ ?_; (rfl); (rfl); (rfl); (exact h3.out))
        | (refine wpList_store_run (P := Tryz.prog) ?_ 102 (.tmp 2) (.tmp 16) ?_ ⟨w.heap.size, 0, none⟩ (.agg cs) ?_ ?_ ((w1.alloc (.cells cs 102)).setRow w.heap.size cs) ?_ ?_; (rfl); (rfl); (rfl); (rfl); (exact h4.out)))
      refine bodyPost_ret (results_cell1 rfl _ _ _ ⟨w.heap.size, 0, none⟩ _ _ rfl h5.out) rfl ?_
      exact ⟨cs, rfl, hN, below_setRow (HB.out.alloc HB.out.size _) (Nat.le_refl _) _⟩
end Go.Proofs.YtlpmmmmniojflaaGreatDoor
/- Slices that begin anywhere in their row: what append does to them. -/
set_option linter.unusedVariables false
set_option linter.unusedSimpArgs false
namespace Go.Proofs.YtlpmmmmniojflaaGreatDoor
open Go.RowKit
def Slc (w : World) (e : TypeId) (size : Nat) (v : Value) (n : Nat) (xs : List Value) : Prop :=
  xs.length = n * size ∧ ((v = .slice none 0 0 ∧ n = 0) ∨
    ∃ g o cap cur, v = .slice (some ⟨g, o, none⟩) n cap ∧ w.heap[g]? = some (.cells cur e (0, 0)) ∧ n ≤ cap ∧ cap ≤ maxLen ∧ o + cap * size ≤ cur.size ∧ (cur.toList.drop o).take (n * size) = xs)
theorem slc_nil (w : World) (e : TypeId) (size : Nat) : Slc w e size (.slice none 0 0) 0 [] := ⟨by simp, .inl ⟨rfl, rfl⟩⟩
theorem Slc.lt {w : World} {e : TypeId} {size : Nat} {v : Value} {n : Nat} {xs : List Value} (h : Slc w e size v n xs) : ∀ g, v.ownBlock = some g → g < w.heap.size := by
  intro g hg
  rcases h.2 with ⟨rfl, _⟩ | ⟨g', o, cap, cur, rfl, hb, _⟩
  · cases hg
  · cases hg
    exact (Array.getElem?_eq_some_iff.1 hb).1
theorem Slc.kept {w w' : World} {e : TypeId} {size : Nat} {v : Value} {n : Nat} {xs : List Value} (h : Slc w e size v n xs) (hb : ∀ g, v.ownBlock = some g → w'.heap[g]? = w.heap[g]?) : Slc w' e size v n xs := by
  refine ⟨h.1, ?_⟩
  rcases h.2 with h2 | ⟨g, o, cap, cur, rfl, hg, h3⟩
  · exact .inl h2
  · exact .inr ⟨g, o, cap, cur, rfl, by rw [hb g rfl]; exact hg, h3⟩
theorem Slc.grown {w w' : World} {row : Option Nat} {e : TypeId} {size : Nat} {v : Value} {n : Nat} {xs : List Value} (h : Slc w e size v n xs) (hg : w.grownBy w' row) (hne : v.ownBlock = none ∨ v.ownBlock ≠ row) : Slc w' e size v n xs := by
  refine h.kept fun g hb => hg.block g (h.lt g hb) ?_
  rcases hne with hne | hne
  · rw [hne] at hb; cases hb
  · rw [← hb]; exact hne
theorem Slc.cell {w : World} {e : TypeId} {size : Nat} {g o n cap : Nat} {xs : List Value} (h : Slc w e size (.slice (some ⟨g, o, none⟩) n cap) n xs) (j : Nat) (u : Value) (hj : xs[j]? = some u) : w.cell? ⟨g, o + j, none⟩ = some u := by
  rcases h.2 with ⟨h2, _⟩ | ⟨g', o', cap', cur, h2, hg, h3, h4, h5, h6⟩
  · cases h2
  · cases h2
    have : (cur.toList.drop o)[j]? = some u := by
      have hj' := hj
      rw [← h6, List.getElem?_take] at hj'
      split at hj'
      · exact hj'
      · cases hj'
    rw [List.getElem?_drop, Array.getElem?_toList] at this
    simp only [World.cell?, hg]
    exact this
section
variable {P : Program}
theorem run_append_sl (w : World) (t ty e : TypeId) (i : TypeInfo) (z : Value) (size bytes : Nat) (ht : P.underlying t = some (.slice e)) (hi : P.info? e = some i) (hz : i.zero = some z)
    (hsize : i.size = size) (hby : i.bytes = bytes) (hzs : z.cells.size = size)
    (v : Value) (n : Nat) (xs : List Value) (hown : Slc w e size v n xs)
    (a : Addr) (m c : Nat) (news : List Value) (hm0 : 0 < m) (hl : news.length = m * size) (hnews : ∀ j u, news[j]? = some u → w.cell? (a.add j) = some u) (h1 : ∀ u ∈ news, u.oneCell' = true)
    (h63 : n + m ≤ maxLen) (hbytes : (n + m) * bytes ≤ 140737488355328) :
    ∃ v' w', (Builtin.append_ #[t, t] ty #[v, .slice (some a) m c]).run P w = .ok v' w' ∧ Slc w' e size v' (n + m) (xs ++ news) ∧ w.grownBy w' v.ownBlock ∧
      ((v'.ownBlock = v.ownBlock ∧ v.ownBlock ≠ none) ∨ (v'.ownBlock = some w.heap.size ∧ w.grownBy w' none)) := by
  subst hsize
  subst hby
  have hsmall : n + m ≤ 9223372036854775807 := by simp only [maxLen] at h63; omega
  have hlen : (xs ++ news).length = (n + m) * i.size := by rw [List.length_append, hown.1, hl, Nat.add_mul]
  have grown : ∀ (old : Nat), old < n + m → ∀ (row : Option Nat),
      Slc (w.drew.alloc (.cells (xs.toArray ++ news.toArray ++ Builtin.zeroCells z.cells (grownCap w (n + m) old e - (n + m))) e)) e i.size
        (.slice (some ⟨w.heap.size, 0, none⟩) (n + m) (grownCap w (n + m) old e)) (n + m) (xs ++ news) ∧
      w.grownBy (w.drew.alloc (.cells (xs.toArray ++ news.toArray ++ Builtin.zeroCells z.cells (grownCap w (n + m) old e - (n + m))) e)) row := by
    intro old ho row
    have hge := grownCap_ge w (n + m) old e
    have hcm : grownCap w (n + m) old e ≤ maxLen := grownCap_le_maxLen w (n + m) old e h63
    refine ⟨⟨hlen, .inr ⟨w.heap.size, 0, _, _, rfl, heap_alloc_new w.drew _, hge, hcm, ?_, ?_⟩⟩, ⟨rfl, rfl, rfl, by simp, fun k hk _ => Below.heap_alloc w.drew _ k hk⟩⟩
    · simp only [Array.size_append, List.size_toArray, size_zeroCells, hzs, hown.1, hl, ← Nat.add_mul]
      rw [Nat.zero_add]
      exact Nat.mul_le_mul_right _ (by omega)
    · simp only [Array.toList_append, List.append_assoc, List.drop_zero]
      rw [← List.append_assoc, ← hlen]
      exact List.take_left
  rcases hown.2 with ⟨rfl, rfl⟩ | ⟨g, o, cap, cur, rfl, hg, hnc, hcm, hcs, htake⟩
  · have hx : xs = [] := List.eq_nil_of_length_eq_zero (by simpa using hown.1)
    subst hx
    have hr := run_append_nil (P := P) w t ty e i z ht hi hz a m c news hl hnews (by omega) (by omega) (by have hb := hbytes; simp only [Nat.zero_add] at hb; omega)
    have hgr := grown 0 (by omega) none
    simp only [Nat.zero_add, List.nil_append, Array.empty_append] at hgr ⊢
    exact ⟨_, _, hr, hgr.1, hgr.2, .inr ⟨rfl, hgr.2⟩⟩
  · have hcell : ∀ j u, xs[j]? = some u → w.cell? ((⟨g, o, none⟩ : Addr).add j) = some u := by
      intro j u hj
      rw [Addr.add_lit]
      exact hown.cell j u hj
    by_cases hroom : n + m ≤ cap
    · have hfit : o + n * i.size + news.length ≤ cur.size := by
        rw [hl, Nat.add_assoc, ← Nat.add_mul]
        exact Nat.le_trans (Nat.add_le_add_left (Nat.mul_le_mul_right _ hroom) _) hcs
      have hf := run_firstCells_some (P := P) w i.size m a m c news hl hnews
      have hst := run_storeCells_at P g (o + n * i.size) e news 0 cur w hg (by simpa using hfit) h1
      simp only [Nat.add_zero] at hst
      have hr : (Builtin.append_ #[t, t] ty #[.slice (some ⟨g, o, none⟩) n cap, .slice (some a) m c]).run P w =
          .ok (.slice (some ⟨g, o, none⟩) (n + m) cap) (w.setRow g (cur.toList.take (o + n * i.size) ++ news ++ cur.toList.drop (o + n * i.size + news.length)).toArray) := by
        simp [Builtin.append_, run_underlying ht, sizeOf, typeInfo, hi, Builtin.lenOf, hroom, hf, Addr.add_lit, hst]
      have hle : o + n * i.size ≤ cur.toList.length := by rw [Array.length_toList]; omega
      refine ⟨_, _, hr, ⟨hlen, .inr ⟨g, o, cap, _, rfl, setRow_heap w g cur _ e _ hg, hroom, hcm, ?_, ?_⟩⟩, ⟨rfl, rfl, rfl, by simp, fun k _ hk => setRow_other w g k _ (fun e => hk (by simp [Value.ownBlock, e]))⟩, .inl ⟨rfl, by simp [Value.ownBlock]⟩⟩
      · simp only [List.size_toArray, List.length_append, List.length_take, List.length_drop, Array.length_toList] at hle ⊢
        omega
      · have hxl := hown.1
        have e1 : (cur.toList.take (o + n * i.size)).drop o = xs := by
          rw [List.drop_take, Nat.add_sub_cancel_left]; exact htake
        show List.take _ (List.drop o (cur.toList.take (o + n * i.size) ++ news ++ cur.toList.drop (o + n * i.size + news.length))) = _
        rw [List.append_assoc, List.drop_append_of_le_length (by rw [List.length_take]; omega), e1, ← List.append_assoc, ← hlen]
        exact List.take_left
    · have hr := run_append_grow (P := P) w t ty e i z ht hi hz ⟨g, o, none⟩ n cap xs hown.1 hcell a m c news hl hnews (by omega) (by omega) (growslice_fits (by omega) hbytes)
      have hgr := grown cap (by omega)
      exact ⟨_, _, hr, (hgr none).1, (hgr _).2, .inr ⟨rfl, (hgr none).2⟩⟩
theorem wpList_append_sl {w : World} {ops : Array Oper} {rest : List Oper} {op : Oper} {a : Act} {Q : Exit → Act → World → Prop} (hgd : op.guard = none) (s x : Operand) (t : TypeId)
    (ho : op.op = .call { callee := .builtin .append, args := #[s, x], argTypes := #[t, t] })
    (e : TypeId) (i : TypeInfo) (z : Value) (size bytes : Nat) (ht : P.underlying t = some (.slice e)) (hi : P.info? e = some i) (hz : i.zero = some z)
    (hsize : i.size = size) (hby : i.bytes = bytes) (hzs : z.cells.size = size)
    (v : Value) (n : Nat) (xs : List Value) (hs : a.eval s = v) (hown : Slc w e size v n xs)
    (ad : Addr) (m c : Nat) (news : List Value) (hx : a.eval x = .slice (some ad) m c) (hm0 : 0 < m) (hl : news.length = m * size) (hnews : ∀ j u, news[j]? = some u → w.cell? (ad.add j) = some u) (h1 : ∀ u ∈ news, u.oneCell' = true)
    (h63 : n + m ≤ maxLen) (hbytes : (n + m) * bytes ≤ 140737488355328)
    (h : ∀ v' w', Slc w' e size v' (n + m) (xs ++ news) → w.grownBy w' v.ownBlock → ((v'.ownBlock = v.ownBlock ∧ v.ownBlock ≠ none) ∨ (v'.ownBlock = some w.heap.size ∧ w.grownBy w' none)) → wpList P ops Q rest (a.put op.dst v') w') : wpList P ops Q (op :: rest) a w :=
  wpList_plain hgd fun _ hK => by
    obtain ⟨v', w', hr, h2, h3, h4⟩ := run_append_sl (P := P) w t op.type e i z size bytes ht hi hz hsize hby hzs v n xs hown ad m c news hm0 hl hnews h1 h63 hbytes
    unfold Oper.wp execOp
    simp only [ho, resolve, invoke, builtin, Sem.run_bind, Sem.run_pure, Result.andThen_ok, List.map_toArray, List.map_cons, List.map_nil, hs, hx, hr]
    exact hK _ _ (h v' w' h2 h3 h4)
end
end Go.Proofs.YtlpmmmmniojflaaGreatDoor
