/- Texts put together. -/
import Derived.Test.YtlpmmmmniojflaaGreatDoorSk
import Derived.Test.YtlpmmmmniojflaaGreatDoorSi
import Derived.Test.YtlpmmmmniojflaaGreatDoorSj
/- A working out, walked: the answers of a formula that the store holds. -/
set_option linter.unusedVariables false
set_option linter.unusedSimpArgs false
namespace Go.Proofs.YtlpmmmmniojflaaGreatDoor
open Go.RowKit
theorem info95c : (Tryz.prog.info? 95).map (fun i => (i.zero, i.size, i.bytes)) = some (some (.agg #[.string ⟨#[]⟩, .slice none 0 0, .int .i64 0, .int .i64 0, .string ⟨#[]⟩]), 5, 72) := by kernel_rfl
def ofAt (s : Sto) (f : ByteArray) (j : Nat) : List Ans := (s.kept.take j).filter (fun a => decide (a.f = f))
theorem ofAt_zero (s : Sto) (f : ByteArray) : ofAt s f 0 = [] := by unfold ofAt; simp
theorem ofAt_next {s : Sto} {f : ByteArray} {j : Nat} {a : Ans} (h : s.kept[j]? = some a) : ofAt s f (j + 1) = ofAt s f j ++ (if a.f = f then [a] else []) := by
  unfold ofAt
  rw [List.take_add_one, h, List.filter_append]
  by_cases hf : a.f = f
  · simp [hf]
  · simp [hf]
def OfS (w : World) (own : Nat → Nat) (l : List Ans) (v : Value) (wr : World) : Prop := ∃ xs, Slc wr 95 5 v l.length xs ∧ AL w own l xs ∧ (∀ g, v.ownBlock = some g → w.heap.size ≤ g) ∧ Below w.heap.size w wr
set_option maxRecDepth 100000 in
set_option maxHeartbeats 4000000 in
theorem of_w (w : World) (own : Nat → Nat) (b x : Nat) (r : Rn) (f : ByteArray) (h : Hid (RR w own b x r)) (hsw : Hid (SW r.store)) :
    Calls Tryz.prog 171 #[.pointer (some ⟨x, 432, none⟩), .string f] w fun e w' => ∃ v, e = .returned v ∧ Hid (OfS w own (r.store.of f) v w') := by
  obtain ⟨i0, hi, hz0, hz1, hz2⟩ := info_parts info95c
  have p1 := h.out.sto.size
  have hs1 : r.store.size ≤ 64 := Nat.le_trans hsw.out.size hsw.out.places
  have hs2 : (r.store.size : Int) ≤ 64 := by omega
  have hs0 : 0 ≤ (r.store.size : Int) := by omega
  have hxl := h.out.xlt
  have HSZ : Hid (r.store.size ≤ 64) := hs1
  go_enter Tryz.func171, Tryz.ntmps171
  go_wp2_with fail
  go_quiet (fail)
  go_wp2_with fail
  go_loopw [5, 17] (fun v i wr => ∃ j : Nat, i = .int .i64 j ∧ Hid (j ≤ r.store.size) ∧ Hid (OfS w own (ofAt r.store f j) v wr)) (fun _ i _ => ((r.store.size : Int) - intOf i).toNat)
  case atStart => exact ⟨0, rfl, Nat.zero_le _, [], by rw [ofAt_zero]; exact slc_nil _ _ _, by rw [ofAt_zero]; exact rfl, fun g hg => (by cases hg), ⟨rfl, rfl, rfl, Nat.le_refl _, fun _ _ => rfl⟩⟩
  case round =>
    obtain ⟨j, rfl, hj, hS⟩ := hrel
    by_cases hjs : j < r.store.size
    · have hlt : (j : Int) < (r.store.size : Int) := by omega
      have hj0 : 0 ≤ (j : Int) := by omega
      have hj64 := HSZ.out
      obtain ⟨a, ha⟩ : ∃ a, r.store.kept[j]? = some a := ⟨_, List.getElem?_eq_getElem (by rw [h.out.sto.len]; omega)⟩
      have hA := h.out.sto.kept j a ha
      obtain ⟨rv, k1, k2, k3⟩ := hA.rs
      obtain ⟨xs, hsl, hal, hgg, hbl⟩ := hS.out
      have cc : ∀ o, wr.cell? ⟨x, o, none⟩ = w.cell? ⟨x, o, none⟩ := fun o => hbl.cell (p := ⟨x, o, none⟩) hxl
      have c0 := hA.f
      have c2 := hA.k
      have c3 := hA.n
      have c4 := hA.s
      have hnx := ofAt_next (f := f) ha
      obtain ⟨ao, cp, hrv⟩ := Slc.len k2
      rw [← cc] at c0 k1 c2 c3 c4
      have HNX : Hid (ofAt r.store f (j + 1) = ofAt r.store f j ++ (if a.f = f then [a] else [])) := hnx
      have HRD : Hid (RdSl w rv a.rs) := k2
      have HRG : Hid (∀ g, rv.ownBlock = some g → own g = 0) := k3
      have HSL : Hid (Slc wr 95 5 u5 (ofAt r.store f j).length xs) := hsl
      have HAL : Hid (AL w own (ofAt r.store f j) xs) := hal
      have HGG : Hid (∀ g, u5.ownBlock = some g → w.heap.size ≤ g) := hgg
      have HBL : Hid (Below w.heap.size w wr) := hbl
      have HRV : Hid (rv = .slice ao a.rs.length cp) := hrv
      have HLN : Hid ((ofAt r.store f j).length ≤ 64) := by
        unfold Hid ofAt
        refine Nat.le_trans (List.length_filter_le _ _) ?_
        rw [List.length_take, h.out.sto.len]
        omega
      rw [hrv] at k1
      have w1' : IntKind.i64.wrap ((j : Int) + 1) = (j : Int) + 1 := by rw [IntKind.wrap_i64]; omega
      have w2' : wrap64 ((j : Int) + 1) = (j : Int) + 1 := by unfold wrap64; omega
      clear hA k2 k3 hsl hal hgg hbl cc hnx hrv hS ha hj
      by_cases hf : a.f = f
      · have hfd : decide (a.f.toList = f.toList) = true := by rw [hf]; simp
        have hfl : a.f.toList = f.toList := by rw [hf]
        go_wp2_with (at_builtin; go_must (refine wpList_append_sl (w := _) rfl _ _ 174 rfl 95 i0 _ 5 72 Tryz.underlying174 hi hz0 hz1 hz2 rfl _ _ _ rfl (Slc.kept HSL.out ?c0) ⟨wr.heap.size + 1, 0, none⟩ 1 1 [.string f, .slice ao a.rs.length cp, .int .i64 a.v.k, .int .i64 a.v.n, .string a.v.s] rfl (by decide) rfl ?c1 ?c2 ?c3 ?c4 ?_))
        case c0 => intro g hg; rw [Below.heap_alloc _ _ _ (by have := HSL.out.lt g hg; simp; omega), Below.heap_alloc _ _ _ (HSL.out.lt g hg)]
        case c1 => exact World.news_of_block (cs := #[.string f, .slice ao a.rs.length cp, .int .i64 a.v.k, .int .i64 a.v.n, .string a.v.s]) (t := 95) (fr := (0, 0)) (by exact news2 wr _ _)
        case c2 => simp [Value.oneCell']
        case c3 => have := HLN.out; unfold maxLen; omega
        case c4 => have := HLN.out; omega
        intro v' w2 hsl hgr hob
        have HFIN : Hid (OfS w own (ofAt r.store f (j + 1)) v' w2) := by
          have hbW : Below w.heap.size w ((wr.alloc (.cells #[.string f, .slice ao a.rs.length cp, .int .i64 a.v.k, .int .i64 a.v.n, .string a.v.s] 95)).alloc (.cells #[.string f, .slice ao a.rs.length cp, .int .i64 a.v.k, .int .i64 a.v.n, .string a.v.s] 95)) :=
            (HBL.out.alloc HBL.out.size _).alloc (by have := HBL.out.size; simp; omega) _
          refine ⟨xs ++ aC a rv, ?_, ?_, ?_, hbW.grown hgr (by have := HBL.out.size; simp; omega) (fun k hk => HGG.out k hk)⟩
          · rw [HNX.out, if_pos hf, List.length_append, HRV.out]
            unfold aC
            rw [hf]
            exact hsl
          · rw [HNX.out, if_pos hf]
            exact AL.app _ _ _ _ HAL.out ⟨rv, [], by simp, HRD.out, HRG.out, rfl⟩
          · intro g hg
            rcases hob with ⟨h, _⟩ | ⟨h, _⟩
            · rw [h] at hg; exact HGG.out g hg
            · rw [h] at hg; cases hg; have := HBL.out.size; simp; omega
        clear hsl hgr hob HSL HAL HGG HBL
        go_wp2_with fail
        go_roundw
        case rel => exact ⟨j + 1, by go_num, by unfold Hid; omega, HFIN.out⟩
        case measure => simp [intOf]; omega
      · have hfl : ¬ a.f.toList = f.toList := fun e => hf (ba_list e)
        have hfd : decide (a.f.toList = f.toList) = false := decide_eq_false hfl
        have hfb : (a.f.toList == f.toList) = false := by simpa using hfl
        go_wp2_with fail
        go_roundw
        case rel =>
          refine ⟨j + 1, by go_num, by unfold Hid; omega, xs, ?_⟩
          rw [HNX.out, if_neg hf, List.append_nil]
          exact ⟨Slc.kept HSL.out (fun g hg => Below.heap_alloc _ _ _ (HSL.out.lt g hg)), HAL.out, HGG.out, HBL.out.alloc HBL.out.size _⟩
        case measure => simp [intOf]; omega
    · have hjn : Hid (ofAt r.store f j = r.store.of f) := by
        have : j = r.store.size := by have := hj.out; omega
        rw [this]; exact rfl
      have hge : ¬ (j : Int) < (r.store.size : Int) := by omega
      go_wp2_with fail
      go_ret
      rw [← hjn.out]
      exact ⟨_, rfl, hS⟩
end Go.Proofs.YtlpmmmmniojflaaGreatDoor
/- Appending a whole slice to another. -/
set_option linter.unusedVariables false
set_option linter.unusedSimpArgs false
namespace Go.Proofs.YtlpmmmmniojflaaGreatDoor
open Go.RowKit
section
variable {P : Program}
theorem run_append_none (w : World) (t ty e : TypeId) (i : TypeInfo) (ht : P.underlying t = some (.slice e)) (hi : P.info? e = some i) (base ad : Option Addr) (n cap c : Nat) (hle : n ≤ cap) :
    (Builtin.append_ #[t, t] ty #[.slice base n cap, .slice ad 0 c]).run P w = .ok (.slice base n cap) w := by
  cases base <;> cases ad <;> simp [Builtin.append_, run_underlying ht, sizeOf, typeInfo, hi, hle, storeCells, loadCells, loadCellsFrom, Builtin.lenOf, Builtin.firstCells]
theorem run_append_two (w : World) (t ty e : TypeId) (i : TypeInfo) (z : Value) (size bytes : Nat) (ht : P.underlying t = some (.slice e)) (hi : P.info? e = some i) (hz : i.zero = some z)
    (hsize : i.size = size) (hby : i.bytes = bytes) (hzs : z.cells.size = size)
    (v : Value) (n : Nat) (xs : List Value) (hown : Slc w e size v n xs) (u : Value) (m : Nat) (news : List Value) (hu : Slc w e size u m news) (h1 : ∀ u ∈ news, u.oneCell' = true)
    (h63 : n + m ≤ maxLen) (hbytes : (n + m) * bytes ≤ 140737488355328) :
    ∃ v' w', (Builtin.append_ #[t, t] ty #[v, u]).run P w = .ok v' w' ∧ Slc w' e size v' (n + m) (xs ++ news) ∧ w.grownBy w' v.ownBlock ∧ (v'.ownBlock = v.ownBlock ∨ (v'.ownBlock = some w.heap.size ∧ w.grownBy w' none)) := by
  by_cases hm : m = 0
  · subst hm
    have hnil : news = [] := List.eq_nil_of_length_eq_zero (by rw [hu.1]; omega)
    subst hnil
    refine ⟨v, w, ?_, by rw [List.append_nil, Nat.add_zero]; exact hown, gb_refl _ _, .inl rfl⟩
    obtain ⟨bs, cp, hv, hle⟩ : ∃ bs cp, v = .slice bs n cp ∧ n ≤ cp := by
      rcases hown.2 with ⟨rfl, rfl⟩ | ⟨g, o, cap, cur, rfl, _, h, _⟩
      · exact ⟨_, _, rfl, Nat.le_refl _⟩
      · exact ⟨_, _, rfl, h⟩
    obtain ⟨ad, c, hx⟩ : ∃ ad c, u = .slice ad 0 c := by
      rcases hu.2 with ⟨rfl, _⟩ | ⟨g, o, cap, cur, rfl, _⟩
      · exact ⟨_, _, rfl⟩
      · exact ⟨_, _, rfl⟩
    rw [hv, hx]
    exact run_append_none w t ty e i ht hi _ _ _ _ _ hle
  · rcases hu.2 with ⟨rfl, e0⟩ | ⟨g, o, cap, cur, rfl, _⟩
    · exact absurd e0 hm
    · obtain ⟨v', w', h2, h3, h4, h5⟩ := run_append_sl (P := P) w t ty e i z size bytes ht hi hz hsize hby hzs v n xs hown ⟨g, o, none⟩ m cap news (by omega) hu.1 (fun j u hj => by have h0 := hu.cell j u hj; unfold Addr.add; split; (rename_i e0; rw [e0] at h0; exact h0); exact h0) h1 h63 hbytes
      exact ⟨v', w', h2, h3, h4, h5.imp (fun h => h.1) id⟩
end
theorem step_append_two {P : Program} {w : World} {ops : Array Oper} {op : Oper} {a : Act} {K : Act → World → Prop} {Q : Exit → Act → World → Prop} {E : Prop} (hgd : op.guard = none) (s x : Operand) (t : TypeId)
    (ho : op.op = .call { callee := .builtin .append, args := #[s, x], argTypes := #[t, t] })
    (e : TypeId) (i : TypeInfo) (z : Value) (size bytes : Nat) (ht : P.underlying t = some (.slice e)) (hi : P.info? e = some i) (hz : i.zero = some z)
    (hsize : i.size = size) (hby : i.bytes = bytes) (hzs : z.cells.size = size)
    (v : Value) (n : Nat) (xs : List Value) (hs : a.eval s = v) (hown : Slc w e size v n xs)
    (u : Value) (m : Nat) (news : List Value) (hx : a.eval x = u) (hu : Slc w e size u m news) (h1 : ∀ u ∈ news, u.oneCell' = true)
    (h63 : n + m ≤ maxLen) (hbytes : (n + m) * bytes ≤ 140737488355328)
    (h : ∀ v' w', Slc w' e size v' (n + m) (xs ++ news) → w.grownBy w' v.ownBlock → (v'.ownBlock = v.ownBlock ∨ (v'.ownBlock = some w.heap.size ∧ w.grownBy w' none)) → K (a.put op.dst v') w') :
    if Region.wanted op (yielded ops a.tmps) = true then Oper.wp P op a w K Q else E := by
  have hw : Region.wanted op (yielded ops a.tmps) = true := by simp [Region.wanted, hgd]
  rw [if_pos hw]
  obtain ⟨v', w', hr, h2, h3, h4⟩ := run_append_two (P := P) w t op.type e i z size bytes ht hi hz hsize hby hzs v n xs hown u m news hu h1 h63 hbytes
  unfold Oper.wp execOp
  simp only [ho, resolve, invoke, builtin, Sem.run_bind, Sem.run_pure, Result.andThen_ok, List.map_toArray, List.map_cons, List.map_nil, hs, hx, hr]
  exact h v' w' h2 h3 h4
end Go.Proofs.YtlpmmmmniojflaaGreatDoor
/- A working out, walked: known. -/
set_option linter.unusedVariables false
set_option linter.unusedSimpArgs false
namespace Go.Proofs.YtlpmmmmniojflaaGreatDoor
open Go.RowKit
theorem OfS.nil (w : World) (own : Nat → Nat) {w' : World} (h : Below w.heap.size w w') : OfS w own [] (.slice none 0 0) w' := ⟨[], slc_nil _ _ _, rfl, fun g hg => (by cases hg), h⟩
def own1 (own : Nat → Nat) (n : Nat) : Nat → Nat := fun k => if k < n then own k else 1
theorem AL.back {w w' : World} {own : Nat → Nat} (hb : Below w.heap.size w w') : ∀ (l : List Ans) (xs : List Value), AL w' (own1 own w.heap.size) l xs → AL w own l xs
  | [], xs, h => h
  | a :: l, xs, ⟨rv, r, h1, h2, h3, h4⟩ => by
    have hg : ∀ g, rv.ownBlock = some g → g < w.heap.size ∧ own g = 0 := fun g hg => by
      have := h3 g hg
      unfold own1 at this
      split at this
      · exact ⟨by assumption, this⟩
      · cases this
    exact ⟨rv, r, h1, h2.kept fun g hg' => (hb.block g (hg g hg').1).symm, fun g hg' => (hg g hg').2, AL.back hb l r h4⟩
theorem OfS.app {w w3 w4 : World} {own : Nat → Nat} {l m : List Ans} {v v' : Value} {xs news : List Value} (hal : AL w own l xs) (hg : ∀ g, v.ownBlock = some g → w.heap.size ≤ g) (hb : Below w.heap.size w w3) (hn : AL w own m news)
    (hsl : Slc w4 95 5 v' (l.length + m.length) (xs ++ news)) (hgr : w3.grownBy w4 v.ownBlock) (hob : v'.ownBlock = v.ownBlock ∨ (v'.ownBlock = some w3.heap.size ∧ w3.grownBy w4 none)) : OfS w own (l ++ m) v' w4 := by
  refine ⟨xs ++ news, by rw [List.length_append]; exact hsl, AL.app _ _ _ _ hal hn, fun g hgv => ?_, hb.grown hgr hb.size (fun k hk => hg k hk)⟩
  rcases hob with h | ⟨h, _⟩
  · rw [h] at hgv; exact hg g hgv
  · rw [h] at hgv; cases hgv; exact hb.size
theorem of_len (s : Sto) (f : ByteArray) (h : s.kept.length = 64) : (s.of f).length ≤ 64 := by
  unfold Sto.of Sto.has
  refine Nat.le_trans (List.length_filter_le _ _) ?_
  rw [List.length_take, h]; omega
set_option maxRecDepth 100000 in
set_option maxHeartbeats 4000000 in
theorem known_w (w : World) (own : Nat → Nat) (b x : Nat) (r : Rn) (c : Nat) (hc : c < 48) (h : Hid (RR w own b x r)) (hsw : Hid (SW r.store)) :
    Calls Tryz.prog 142 #[.pointer (some ⟨b, 0, none⟩), .int .i64 c] w fun e w' => ∃ v, e = .returned v ∧ Hid (OfS w own (known r c) v w') := by
  obtain ⟨i0, hi, hz0, hz1, hz2⟩ := info_parts info95c
  have hci : (c : Int) < 48 := by omega
  have hc0 : 0 ≤ (c : Int) := by omega
  have HC : Hid (c < 48) := hc
  have hlt := h.out.lt
  have p0 := h.out.way
  by_cases h0 : r.way = 0
  · have b0 : ((r.way : Int) == 0) = true := by simpa using (by omega : (r.way : Int) = 0)
    have HK : Hid (known r c = []) := by unfold Hid known; rw [if_pos h0]
    go_enter Tryz.func142, Tryz.ntmps142
    go_wp2_with fail
    go_ret
    rw [HK.out]
    exact ⟨_, rfl, OfS.nil w own (Below.refl _ _)⟩
  · have b0 : ((r.way : Int) == 0) = false := by simpa using (by omega : ¬ (r.way : Int) = 0)
    have HK : Hid (known r c = (if stays r c = true then [r.last c] else []) ++ (if r.way = 2 then r.store.of (r.fs c) else [])) := by unfold Hid known; rw [if_neg h0]
    clear hc
    go_enter Tryz.func142, Tryz.ntmps142
    go_wp2_with fail
    refine (stays_w w own b x r c HC.out h).mono ?_
    rintro e w1 ⟨rfl, hb1⟩
    have HB1 : Hid (Below w.heap.size w w1) := hb1
    clear hb1
    cases hst : stays r c with
    | false =>
      have HKK : Hid (known r c = [] ++ (if r.way = 2 then r.store.of (r.fs c) else [])) := by unfold Hid; rw [HK.out, hst]; simp
      have HOF : Hid (OfS w own [] (.slice none 0 0) w1) := OfS.nil w own HB1.out
      clear hst HK
      obtain ⟨xs, hsl0, hal0, hgg0, hbl0⟩ := HOF.out
      have HSL : Hid (Slc w1 95 5 (Value.slice none 0 0) (([] : List Ans)).length xs) := hsl0
      have HAL : Hid (AL w own (([] : List Ans)) xs) := hal0
      have HGG : Hid (∀ g, (Value.slice none 0 0).ownBlock = some g → w.heap.size ≤ g) := hgg0
      have HBL : Hid (Below w.heap.size w w1) := hbl0
      have p1 : w1.cell? ⟨b, 289, none⟩ = some (.int .i64 r.way) := by rw [hbl0.cell (p := ⟨b, 289, none⟩) hlt]; exact p0
      clear hsl0 hal0 hgg0 hbl0 HOF
      by_cases h2 : r.way = 2
      · have b2 : ((r.way : Int) == 2) = true := by simpa using (by omega : (r.way : Int) = 2)
        have HRX : Hid (RR w1.drew (own1 own w.heap.size) b x r) := (h.out.below (own' := own1 own w.heap.size) (HBL.out.drew) (fun k hk => if_pos hk)).1
        have sp := HRX.out.sp
        have fs := HRX.out.fs c HC.out
        have HLT : Hid (b < w1.heap.size) := HRX.out.lt
        have HLN : Hid ((r.store.of (r.fs c)).length ≤ 64) := of_len _ _ h.out.sto.len
        rw [if_pos h2] at HKK
        go_wp2_with fail
        go_region_held3 (fun w' => w'.cell? ⟨b, 288, none⟩ = some (.pointer (some ⟨x, 432, none⟩)) ∧ w'.cell? ⟨b, c, none⟩ = some (.string (r.fs c))) (go_keep)
          (first
          | (refine step_append_two (by rfl) _ _ _ (by rfl) 95 i0 _ 5 72 Tryz.underlying174 hi hz0 hz1 hz2 rfl _ _ xs (by rfl) HS3.out uu (r.store.of (r.fs c)).length news (by rfl) HU.out HON.out (by have := HLN.out; unfold maxLen; simp; omega) (by have := HLN.out; simp; omega) ?_; intro v2 w4 hsl hgr hob; have sp4 := grown_cell hgr (q := b) (j := 288) sp3 hbv.out; have fs4 := grown_cell hgr (q := b) (j := c) fs3 hbv.out)
          | (go_at_call 171; refine (of_w _ _ b x r (r.fs c) HRX hsw).mono ?_; rintro e w3 ⟨uu, rfl, hO⟩; obtain ⟨news, hu1, hu2, hu3, hu4⟩ := hO.out; have HU : Hid (Slc w3 95 5 uu (r.store.of (r.fs c)).length news) := hu1; have HN : Hid (AL w own (r.store.of (r.fs c)) news) := AL.back HBL.out.drew _ _ hu2; have HON : Hid (∀ u ∈ news, u.oneCell' = true) := AL.one _ _ hu2; have HB3 : Hid (Below w.heap.size w w3) := HBL.out.drew.trans (hu4.mono HBL.out.size); have HS3 : Hid (Slc w3 95 5 (Value.slice none 0 0) (([] : List Ans)).length xs) := Slc.kept HSL.out (fun g hg => hu4.block g (HSL.out.lt g hg)); have sp3 := (hu4.cell (p := ⟨b, 288, none⟩) HLT.out).trans sp; have fs3 := (hu4.cell (p := ⟨b, c, none⟩) HLT.out).trans fs; have hbv : Hid (some b ≠ (Value.slice none 0 0).ownBlock) := (fun e => absurd (HGG.out b e.symm) (by omega)); clear hu1 hu2 hu3 hu4 hO))
        all_goals
          have HFIN : Hid (OfS w own (known r c) v2 w4) := by rw [HKK.out]; exact OfS.app HAL.out HGG.out HB3.out HN.out hsl hgr hob
          clear hsl hgr hob
          go_wp2_with fail
          go_ret
          exact ⟨_, rfl, HFIN⟩
      · have b2 : ((r.way : Int) == 2) = false := by simpa using (by omega : ¬ (r.way : Int) = 2)
        rw [if_neg h2] at HKK
        go_wp2_with fail
        go_ret
        rw [HKK.out, List.append_nil]
        exact ⟨_, rfl, xs, HSL.out, HAL.out, HGG.out, HBL.out⟩
    | true =>
      have HKK : Hid (known r c = [r.last c] ++ (if r.way = 2 then r.store.of (r.fs c) else [])) := by unfold Hid; rw [HK.out, if_pos hst]
      have hA := h.out.last c HC.out
      obtain ⟨rv, k1, k2, k3⟩ := hA.rs
      have cc : ∀ o, w1.cell? ⟨b, o, none⟩ = w.cell? ⟨b, o, none⟩ := fun o => HB1.out.cell (p := ⟨b, o, none⟩) hlt
      have c0 := hA.f
      have c2 := hA.k
      have c3 := hA.n
      have c4 := hA.s
      obtain ⟨ao, cp, hrv⟩ := Slc.len k2
      rw [← cc] at c0 k1 c2 c3 c4
      have HRD : Hid (RdSl w rv (r.last c).rs) := k2
      have HRG : Hid (∀ g, rv.ownBlock = some g → own g = 0) := k3
      have HRV : Hid (rv = .slice ao (r.last c).rs.length cp) := hrv
      rw [hrv] at k1
      clear hst HK hA k2 k3 cc hrv
      go_wp2_with (at_builtin; go_must (refine wpList_append_sl (w := _) rfl _ _ 174 rfl 95 i0 _ 5 72 Tryz.underlying174 hi hz0 hz1 hz2 rfl _ _ _ rfl (slc_nil _ 95 5) ⟨w1.heap.size, 0, none⟩ 1 1 [.string (r.last c).f, .slice ao (r.last c).rs.length cp, .int .i64 (r.last c).v.k, .int .i64 (r.last c).v.n, .string (r.last c).v.s] rfl (by decide) rfl ?c1 ?c2 ?c3 ?c4 ?_))
      case c1 => exact World.news_of_block (cs := #[.string (r.last c).f, .slice ao (r.last c).rs.length cp, .int .i64 (r.last c).v.k, .int .i64 (r.last c).v.n, .string (r.last c).v.s]) (t := 95) (fr := (0, 0)) (by exact rnew w1 _ _)
      case c2 => simp [Value.oneCell']
      case c3 => unfold maxLen; omega
      case c4 => omega
      intro v1 w2 hsl hgr hob
      have HOF : Hid (OfS w own [r.last c] v1 w2) := by
        have hbW : Below w.heap.size w (w1.alloc (.cells #[.string (r.last c).f, .slice ao (r.last c).rs.length cp, .int .i64 (r.last c).v.k, .int .i64 (r.last c).v.n, .string (r.last c).v.s] 95)) := HB1.out.alloc HB1.out.size _
        refine ⟨aC (r.last c) rv, ?_, ⟨rv, [], by simp, HRD.out, HRG.out, rfl⟩, ?_, hbW.grown hgr (by have := HB1.out.size; simp; omega) (fun k hk => by cases hk)⟩
        · rw [HRV.out]; exact hsl
        · intro g hg
          rcases hob with ⟨_, h⟩ | ⟨h, _⟩
          · exact absurd rfl h
          · rw [h] at hg; cases hg; have := HB1.out.size; simp; omega
      clear hsl hgr hob c0 c2 c3 c4 k1 HRD HRG HRV
      obtain ⟨xs, hsl0, hal0, hgg0, hbl0⟩ := HOF.out
      have HSL : Hid (Slc w2 95 5 v1 (([r.last c] : List Ans)).length xs) := hsl0
      have HAL : Hid (AL w own (([r.last c] : List Ans)) xs) := hal0
      have HGG : Hid (∀ g, (v1).ownBlock = some g → w.heap.size ≤ g) := hgg0
      have HBL : Hid (Below w.heap.size w w2) := hbl0
      have p1 : w2.cell? ⟨b, 289, none⟩ = some (.int .i64 r.way) := by rw [hbl0.cell (p := ⟨b, 289, none⟩) hlt]; exact p0
      clear hsl0 hal0 hgg0 hbl0 HOF
      by_cases h2 : r.way = 2
      · have b2 : ((r.way : Int) == 2) = true := by simpa using (by omega : (r.way : Int) = 2)
        have HRX : Hid (RR w2.drew (own1 own w.heap.size) b x r) := (h.out.below (own' := own1 own w.heap.size) (HBL.out.drew) (fun k hk => if_pos hk)).1
        have sp := HRX.out.sp
        have fs := HRX.out.fs c HC.out
        have HLT : Hid (b < w2.heap.size) := HRX.out.lt
        have HLN : Hid ((r.store.of (r.fs c)).length ≤ 64) := of_len _ _ h.out.sto.len
        rw [if_pos h2] at HKK
        go_wp2_with fail
        go_region_held3 (fun w' => w'.cell? ⟨b, 288, none⟩ = some (.pointer (some ⟨x, 432, none⟩)) ∧ w'.cell? ⟨b, c, none⟩ = some (.string (r.fs c))) (go_keep)
          (first
          | (refine step_append_two (by rfl) _ _ _ (by rfl) 95 i0 _ 5 72 Tryz.underlying174 hi hz0 hz1 hz2 rfl _ _ xs (by rfl) HS3.out uu (r.store.of (r.fs c)).length news (by rfl) HU.out HON.out (by have := HLN.out; unfold maxLen; simp; omega) (by have := HLN.out; simp; omega) ?_; intro v2 w4 hsl hgr hob; have sp4 := grown_cell hgr (q := b) (j := 288) sp3 hbv.out; have fs4 := grown_cell hgr (q := b) (j := c) fs3 hbv.out)
          | (go_at_call 171; refine (of_w _ _ b x r (r.fs c) HRX hsw).mono ?_; rintro e w3 ⟨uu, rfl, hO⟩; obtain ⟨news, hu1, hu2, hu3, hu4⟩ := hO.out; have HU : Hid (Slc w3 95 5 uu (r.store.of (r.fs c)).length news) := hu1; have HN : Hid (AL w own (r.store.of (r.fs c)) news) := AL.back HBL.out.drew _ _ hu2; have HON : Hid (∀ u ∈ news, u.oneCell' = true) := AL.one _ _ hu2; have HB3 : Hid (Below w.heap.size w w3) := HBL.out.drew.trans (hu4.mono HBL.out.size); have HS3 : Hid (Slc w3 95 5 v1 (([r.last c] : List Ans)).length xs) := Slc.kept HSL.out (fun g hg => hu4.block g (HSL.out.lt g hg)); have sp3 := (hu4.cell (p := ⟨b, 288, none⟩) HLT.out).trans sp; have fs3 := (hu4.cell (p := ⟨b, c, none⟩) HLT.out).trans fs; have hbv : Hid (some b ≠ (v1).ownBlock) := (fun e => absurd (HGG.out b e.symm) (by omega)); clear hu1 hu2 hu3 hu4 hO))
        all_goals
          have HFIN : Hid (OfS w own (known r c) v2 w4) := by rw [HKK.out]; exact OfS.app HAL.out HGG.out HB3.out HN.out hsl hgr hob
          clear hsl hgr hob
          go_wp2_with fail
          go_ret
          exact ⟨_, rfl, HFIN⟩
      · have b2 : ((r.way : Int) == 2) = false := by simpa using (by omega : ¬ (r.way : Int) = 2)
        rw [if_neg h2] at HKK
        go_wp2_with fail
        go_ret
        rw [HKK.out, List.append_nil]
        exact ⟨_, rfl, xs, HSL.out, HAL.out, HGG.out, HBL.out⟩
end Go.Proofs.YtlpmmmmniojflaaGreatDoor
/- Plain mathematics: how often a cell that is begun goes on. -/
set_option linter.unusedVariables false
set_option linter.unusedSimpArgs false
namespace Go.Proofs.YtlpmmmmniojflaaGreatDoor
theorem SVal.put {r : Rn} {c : Nat} {t : Tsk} (h : SVal r) (ht : t.st ≠ 3) : SVal (r.put c t) := by
  intro o ho
  by_cases hoc : o = c
  · subst hoc; rw [put_same] at ho; exact absurd ho ht
  · rw [put_ne _ _ _ hoc] at ho ⊢; exact h o ho
theorem runP_fuel (E : Env) (c : Nat) : ∀ (k n : Nat) (r : Rn), k ≤ n → (r.tk c).st = 2 → SVal r → ActN k (r.tk c).d → runP E c (n + 1) r = runP E c (k + 1) r
  | k, n, r, hkn, hs, hV, hA => by
    cases hd : (r.tk c).d [] with
    | inl v => rw [runP_done hd, runP_done hd]
    | inr nd =>
      obtain ⟨_, k', rfl, hk⟩ := hA.next hd
      obtain ⟨n', rfl⟩ : ∃ n', n = n' + 1 := ⟨n - 1, by omega⟩
      cases hl : (look E r c nd.c).2 with
      | none => rw [runP_wait hd (Prod.ext rfl hl), runP_wait hd (Prod.ext rfl hl)]
      | some v =>
        have hlk := look_some hl
        cases hv : v.eqB cyc with
        | true => rw [runP_cyc hd hlk hv, runP_cyc hd hlk hv]
        | false =>
          rw [runP_next hd hlk hv, runP_next hd hlk hv]
          refine runP_fuel E c k' n' _ (by omega) (by rw [put_same]; exact hs) (hV.put (by rw [hs]; decide)) ?_
          rw [put_same]
          exact hk _ (okv_see (look_val hV hl hv))
structure RunOK (E : Env) (r : Rn) (c : Nat) : Prop where
  wt : WtOK r
  st : ∀ o, (r.tk o).st ≤ 3
  s2 : (r.tk c).st = 2
  act : ∃ k, k ≤ E.B (r.fs c) ∧ ActN k (r.tk c).d ∧ (r.tk c).an.rs.length + k ≤ 90000
  val : SVal r
  sw : SW r.store
theorem RunOK.start {E : Env} {r : Rn} {c : Nat} (h : RunOK E r c) {w : World} {own : Nat → Nat} {b x : Nat} (hR : RR w own b x r) : ∃ k, runP E c (E.B (r.fs c) + 1) r = runP E c (k + 1) r ∧ RunS E w own b x c (runP E c (k + 1) r) k w := by
  obtain ⟨k, h1, h2, h3⟩ := h.act
  exact ⟨k, runP_fuel E c k _ r h1 h.s2 h.val h2, own, r, hR, RStep.refl _ _ _ _, h.wt, h.st, h.s2, h2, h.val, h.sw, h3, rfl⟩
end Go.Proofs.YtlpmmmmniojflaaGreatDoor
/- A working out, walked: a cell's turn, where it is begun or settled. -/
set_option linter.unusedVariables false
set_option linter.unusedSimpArgs false
namespace Go.Proofs.YtlpmmmmniojflaaGreatDoor
open Go.RowKit
def trnV (t : Rn × Int × Bool) : Value := .tuple #[.int .i64 t.2.1, .bool t.2.2]
set_option maxRecDepth 100000 in
set_option maxHeartbeats 4000000 in
theorem turn3 (E : Env) (w : World) (own : Nat → Nat) (b x : Nat) (r : Rn) (c : Nat) (hc : c < 48) (h : Hid (RR w own b x r)) (h3 : Hid ((r.tk c).st = 3)) :
    Calls Tryz.prog 115 #[.pointer (some ⟨b, 0, none⟩), .int .i64 c] w fun e w' => e = .returned (trnV (turnP E r c)) ∧ Hid (RS w own b x w' (turnP E r c).1) := by
  have hci : (c : Int) < 48 := by omega
  have hc0 : 0 ≤ (c : Int) := by omega
  have hT := h.out.tk c hc
  have s1 := hT.st
  have s2 := hT.wt
  rw [← T_addr] at s1 s2
  rw [h3.out] at s1
  have HF : Hid (turnP E r c = (r, (r.tk c).wt, true)) := by unfold Hid turnP; simp [h3.out]
  clear hT
  go_enter Tryz.func115, Tryz.ntmps115
  go_wp2_with fail
  go_quiet (fail)
  go_wp2_with fail
  go_ret2
  rw [HF.out]
  exact ⟨rfl, own, h.out.below ⟨rfl, rfl, rfl, Nat.le_refl _, fun _ _ => rfl⟩ (fun _ _ => rfl)⟩
set_option maxRecDepth 100000 in
set_option maxHeartbeats 4000000 in
theorem turn2 (E : Env) (hE : Hid (RightW E)) (w : World) (own : Nat → Nat) (b x : Nat) (r : Rn) (c : Nat) (hc : c < 48) (h : Hid (RR w own b x r)) (h2 : Hid (RunOK E r c)) :
    Calls Tryz.prog 115 #[.pointer (some ⟨b, 0, none⟩), .int .i64 c] w fun e w' => e = .returned (trnV (turnP E r c)) ∧ Hid (RS w own b x w' (turnP E r c).1) := by
  have hci : (c : Int) < 48 := by omega
  have hc0 : 0 ≤ (c : Int) := by omega
  have HC : Hid (c < 48) := hc
  have hT := h.out.tk c hc
  have s1 := hT.st
  rw [← T_addr] at s1
  rw [h2.out.s2] at s1
  obtain ⟨k, hk1, hk2⟩ := h2.out.start h.out
  have HF : Hid (turnP E r c = runT E r c) := by unfold Hid turnP; simp [h2.out.s2]
  have HF2 : Hid (runT E r c = (runP E c (k + 1) r, ((runP E c (k + 1) r).tk c).wt, decide (((runP E c (k + 1) r).tk c).st = 3))) := by unfold Hid runT; rw [hk1]
  have HK : Hid (RunS E w own b x c (runP E c (k + 1) r) k w) := hk2
  rw [HF.out, HF2.out]
  have HRW := runC_w E hE w own b x r c k HC.out HK
  clear hT hk1 hk2 hc HF HF2 HK
  generalize runP E c (k + 1) r = F at *
  go_enter Tryz.func115, Tryz.ntmps115
  go_wp2_with fail
  refine HRW.mono ?_
  rintro e w1 ⟨rfl, h1⟩
  obtain ⟨own1, R1, S1⟩ := h1.out
  have t1 := (R1.tk c HC.out).st
  have t2 := (R1.tk c HC.out).wt
  rw [← T_addr] at t1 t2
  have HR1 : Hid (RS w own b x w1 F) := h1
  clear R1 S1 h1 s1
  by_cases h3 : (F.tk c).st = 3
  · rw [h3] at t1
    have H3 : Hid ((F.tk c).st = 3) := h3
    go_wp2_with fail
    go_quiet (fail)
    go_wp2_with fail
    go_ret2
    refine ⟨?_, HR1.out.then ⟨rfl, rfl, rfl, Nat.le_refl _, fun _ _ => rfl⟩⟩
    rw [show decide ((F.tk c).st = 3) = true from decide_eq_true H3.out]; rfl
  · have b3 : (((F.tk c).st : Int) == 3) = false := by simpa using (by omega : ¬ ((F.tk c).st : Int) = 3)
    have b3' : ¬ ((F.tk c).st : Int) = 3 := by omega
    have H3 : Hid (¬ (F.tk c).st = 3) := h3
    go_wp2_with fail
    go_quiet (fail)
    go_wp2_with fail
    go_ret2
    refine ⟨?_, HR1.out.then ⟨rfl, rfl, rfl, Nat.le_refl _, fun _ _ => rfl⟩⟩
    rw [show decide ((F.tk c).st = 3) = false from decide_eq_false H3.out]; rfl
end Go.Proofs.YtlpmmmmniojflaaGreatDoor
/- A working out, walked: a cell's turn, where it tries. -/
set_option linter.unusedVariables false
set_option linter.unusedSimpArgs false
namespace Go.Proofs.YtlpmmmmniojflaaGreatDoor
open Go.RowKit
structure TryOK (E : Env) (r : Rn) (c : Nat) : Prop where
  wt : WtOK r
  st : ∀ o, (r.tk o).st ≤ 3
  s1 : (r.tk c).st = 1
  kn : KnOK (r.tk c).kn
  go : (tryK E c (r.tk c).kn r).2 = true → ((tryK E c (r.tk c).kn r).1.tk c).st ≠ 3 → (∃ code, FmlOK E ((tryK E c (r.tk c).kn r).1.fs c) code) ∧ RunOK E (beginP E (tryK E c (r.tk c).kn r).1 c) c ∧ (tryK E c (r.tk c).kn r).1.bg.length ≤ 100000
set_option maxRecDepth 100000 in
set_option maxHeartbeats 4000000 in
theorem turn1 (E : Env) (hE : Hid (RightW E)) (w : World) (own : Nat → Nat) (b x : Nat) (r : Rn) (c : Nat) (hc : c < 48) (h : Hid (RR w own b x r)) (hV : Hid (EVc w own)) (h2 : Hid (TryOK E r c)) :
    Calls Tryz.prog 115 #[.pointer (some ⟨b, 0, none⟩), .int .i64 c] w fun e w' => e = .returned (trnV (turnP E r c)) ∧ Hid (RS w own b x w' (turnP E r c).1) := by
  have hci : (c : Int) < 48 := by omega
  have hc0 : 0 ≤ (c : Int) := by omega
  have HC : Hid (c < 48) := hc
  have s1 := (h.out.tk c hc).st
  rw [← T_addr] at s1
  rw [h2.out.s1] at s1
  have HF : Hid (turnP E r c = tryT E r c) := by unfold Hid turnP; simp [h2.out.s1]
  have HT := try_w E hE w own b x r c hc h h2.out.wt h2.out.st h2.out.s1 h2.out.kn
  have HGO : Hid _ := h2.out.go
  rw [HF.out]
  unfold tryT
  obtain ⟨⟨r1, B⟩, hr1⟩ : ∃ q, tryK E c (r.tk c).kn r = q := ⟨_, rfl⟩
  rw [hr1] at HT HGO ⊢
  dsimp only at HT HGO
  clear hr1 HF h2 hc
  cases B with
  | false =>
    dsimp only
    go_enter Tryz.func115, Tryz.ntmps115
    go_wp2_with fail
    refine HT.mono ?_
    rintro e w1 ⟨rfl, h1⟩
    obtain ⟨o1, R1, S1⟩ := h1.out
    have t2 := (R1.tk c HC.out).wt
    rw [← T_addr] at t2
    clear R1 S1 HT
    go_wp2_with fail
    go_ret2
    exact ⟨rfl, h1⟩
  | true =>
    dsimp only
    by_cases h3 : (r1.tk c).st = 3
    · rw [if_pos h3]
      go_enter Tryz.func115, Tryz.ntmps115
      go_wp2_with fail
      refine HT.mono ?_
      rintro e w1 ⟨rfl, h1⟩
      obtain ⟨o1, R1, S1⟩ := h1.out
      have t2 := (R1.tk c HC.out).st
      rw [← T_addr] at t2
      rw [h3] at t2
      clear R1 S1 HT HGO
      go_wp2_with fail
      go_ret2
      exact ⟨rfl, h1⟩
    · rw [if_neg h3]
      obtain ⟨⟨code, hcode⟩, hrun, hbg⟩ := HGO.out rfl h3
      have HCO : Hid (FmlOK E (r1.fs c) code) := hcode
      have HRU : Hid (RunOK E (beginP E r1 c) c) := hrun
      have HBG : Hid (r1.bg.length ≤ 100000) := hbg
      have H3 : Hid (¬ (r1.tk c).st = 3) := h3
      obtain ⟨k, hk1⟩ : ∃ k, ∀ (w : World) (own : Nat → Nat) (b x : Nat), RR w own b x (beginP E r1 c) → runP E c (E.B ((beginP E r1 c).fs c) + 1) (beginP E r1 c) = runP E c (k + 1) (beginP E r1 c) ∧ RunS E w own b x c (runP E c (k + 1) (beginP E r1 c)) k w := by
        obtain ⟨k, q1, q2, q3⟩ := hrun.act
        exact ⟨k, fun w own b x hR => ⟨runP_fuel E c k _ _ q1 hrun.s2 hrun.val q2, own, _, hR, RStep.refl _ _ _ _, hrun.wt, hrun.st, hrun.s2, q2, hrun.val, hrun.sw, q3, rfl⟩⟩
      have HK1 : Hid _ := hk1
      clear hcode hrun hbg hk1 HGO h3
      go_enter Tryz.func115, Tryz.ntmps115
      go_wp2_with fail
      refine HT.mono ?_
      rintro e w1 ⟨rfl, h1⟩
      obtain ⟨o1, R1, S1⟩ := h1.out
      have t2 := (R1.tk c HC.out).st
      rw [← T_addr] at t2
      have b3 : (((r1.tk c).st : Int) == 3) = false := by have := H3.out; simpa using (by omega : ¬ ((r1.tk c).st : Int) = 3)
      have b3' : ¬ ((r1.tk c).st : Int) = 3 := by have := H3.out; omega
      have HR1 : Hid (RR w1 o1 b x r1) := R1
      have HS1 : Hid (RStep w own w1 o1 b x) := S1
      have HV1 : Hid (EVc w1 o1) := hV.out.step h.out S1
      clear R1 S1 HT h1
      go_wp2_with fail
      refine (begin_w E w1 o1 b x r1 c code HC.out HR1 HV1 HCO HBG).mono ?_
      rintro e w2 ⟨rfl, h2'⟩
      obtain ⟨o2, R2, S2⟩ := h2'.out
      obtain ⟨HFU, HRS⟩ := HK1.out w2 o2 b x R2
      have HFU' : Hid _ := HFU
      have HRW := runC_w E hE w2 o2 b x (beginP E r1 c) c k HC.out HRS
      have HS2 : Hid (RStep w own w2 o2 b x) := HS1.out.trans S2
      clear R2 S2 h2' HR1 HV1 HFU HRS t2
      go_wp2_with fail
      refine HRW.mono ?_
      rintro e w3 ⟨rfl, h3'⟩
      have HR3 : Hid (RS w own b x w3 (runP E c (k + 1) (beginP E r1 c))) := RS.comp HS2.out h3'.out
      obtain ⟨o3, R3, S3⟩ := h3'.out
      have t3 := (R3.tk c HC.out).st
      have t4 := (R3.tk c HC.out).wt
      rw [← T_addr] at t3 t4
      have HF3 : Hid (runT E (beginP E r1 c) c = (runP E c (k + 1) (beginP E r1 c), ((runP E c (k + 1) (beginP E r1 c)).tk c).wt, decide (((runP E c (k + 1) (beginP E r1 c)).tk c).st = 3))) := by unfold Hid runT; rw [HFU'.out]
      clear R3 S3 h3' HRW HFU'
      generalize runP E c (k + 1) (beginP E r1 c) = F at *
      by_cases h3 : (F.tk c).st = 3
      · have H4 : Hid ((F.tk c).st = 3) := h3
        rw [h3] at t3
        go_wp2_with fail
        go_quiet (fail)
        go_wp2_with fail
        go_ret2
        rw [HF3.out]
        refine ⟨?_, HR3.out.then ⟨rfl, rfl, rfl, Nat.le_refl _, fun _ _ => rfl⟩⟩
        rw [show decide ((F.tk c).st = 3) = true from decide_eq_true H4.out]; rfl
      · have c3 : (((F.tk c).st : Int) == 3) = false := by simpa using (by omega : ¬ ((F.tk c).st : Int) = 3)
        have c3' : ¬ ((F.tk c).st : Int) = 3 := by omega
        have H4 : Hid (¬ (F.tk c).st = 3) := h3
        go_wp2_with fail
        go_quiet (fail)
        go_wp2_with fail
        go_ret2
        rw [HF3.out]
        refine ⟨?_, HR3.out.then ⟨rfl, rfl, rfl, Nat.le_refl _, fun _ _ => rfl⟩⟩
        rw [show decide ((F.tk c).st = 3) = false from decide_eq_false H4.out]; rfl
end Go.Proofs.YtlpmmmmniojflaaGreatDoor
/- A working out: a cell that is fresh is given what is known of it. -/
set_option linter.unusedVariables false
set_option linter.unusedSimpArgs false
namespace Go.Proofs.YtlpmmmmniojflaaGreatDoor
open Go.RowKit
theorem app_close2 {own : Nat → Nat} {b lo hi col : Nat} {w W w1 : World} {e : TypeId} {size : Nat} {v v1 : Value} {n n' : Nat} {xs xs' : List Value} (hs : SlC w own b col e size v n xs) (hb : b < w.heap.size) (hW : Below w.heap.size w W)
    (hg : W.grownBy w1 v.ownBlock) (hob : v1.ownBlock = v.ownBlock ∨ (v1.ownBlock = some W.heap.size ∧ W.grownBy w1 none)) (hsl : Slc w1 e size v1 n' xs') {j : Nat} (h1 : lo ≤ j) (h2 : j < hi) :
    ∃ own', (∀ k, k < w.heap.size → own' k = own k) ∧ SlC (w1.setCell ⟨b, j, none⟩ v1) own' b col e size v1 n' xs' ∧ Chg own (fun c => c = col) b lo hi w (w1.setCell ⟨b, j, none⟩ v1) := by
  have hbv : some b ≠ v.ownBlock := fun e => (hs.col b e.symm).2 rfl
  have hbW : w1.heap[b]? = w.heap[b]? := by rw [hg.block b (Nat.lt_of_lt_of_le hb hW.size) hbv, hW.block b hb]
  refine ⟨fun k => if k < w.heap.size then own k else col, fun k hk => if_pos hk, ?_, ?_⟩
  · have hcol : ∀ g, v1.ownBlock = some g → (if g < w.heap.size then own g else col) = col ∧ g ≠ b := by
      intro g hg'
      rcases hob with h3 | ⟨h3, _⟩
      · rw [h3] at hg'
        have hl := hs.sl.lt g hg'
        rw [if_pos hl]; exact hs.col g hg'
      · rw [h3] at hg'
        cases hg'
        have := hW.size
        rw [if_neg (by omega)]; exact ⟨rfl, by omega⟩
    exact ⟨hsl.kept fun g hg' => Below.heap_setCell _ _ _ _ (hcol g hg').2, hcol⟩
  · refine Chg.put ⟨hg.os.trans hW.os, hg.tape.trans hW.tape, hg.output.trans hW.output, Nat.le_trans hW.size hg.size, fun k hk hkb hc => ?_, fun cs t hc => ⟨cs, by rw [hbW]; exact hc, rfl, fun _ _ => rfl⟩⟩ h1 h2 _
    rw [hg.block k (Nat.lt_of_lt_of_le hk hW.size) (fun e => hc (hs.col k e.symm).1), hW.block k hk]
theorem fresh_close {w W w1 : World} {own : Nat → Nat} {b x c : Nat} {r : Rn} {v v1 : Value} {xs news : List Value} {l : List Ans} (h : RR w own b x r) (hc : c < 48) (hs0 : (r.tk c).st = 0) (hs : SlC w own b (cK c) 95 5 v (r.tk c).kn.length xs) (hal : AL w own (r.tk c).kn xs) (hnew : AL w own l news) (hW : Below w.heap.size w W)
    (hg : W.grownBy w1 v.ownBlock) (hob : v1.ownBlock = v.ownBlock ∨ (v1.ownBlock = some W.heap.size ∧ W.grownBy w1 none)) (hsl : Slc w1 95 5 v1 ((r.tk c).kn.length + l.length) (xs ++ news)) : RS w own b x ((w1.setCell ⟨b, T c + 2, none⟩ v1).setCell ⟨b, T c, none⟩ (.int .i64 1)) { r.put c { r.tk c with kn := (r.tk c).kn ++ l, st := 1 } with bg := r.bg } := by
  obtain ⟨cs, hb, hsz⟩ := h.blk
  have hne : some b ≠ v.ownBlock := fun e => (hs.col b e.symm).2 rfl
  obtain ⟨own', o1, o2, o3⟩ := app_close2 (lo := T c + 2) (hi := T c + 3) hs h.lt hW hg hob hsl (j := T c + 2) (by omega) (by omega)
  have kb : w1.heap[b]? = some (.cells cs 187 (0, 0)) := by rw [hg.block b (Nat.lt_of_lt_of_le h.lt hW.size) hne, hW.block b h.lt]; exact hb
  have ht := h.tk c hc
  have hcell : ∀ j, j ≠ T c + 2 → (w1.setCell ⟨b, T c + 2, none⟩ v1).cell? ⟨b, j, none⟩ = w.cell? ⟨b, j, none⟩ := fun j hj => o3.cell hb (by omega)
  have hcK : cK c ≠ 0 := by unfold cK; omega
  have T1 : RR (w1.setCell ⟨b, T c + 2, none⟩ v1) own' b x (r.put c { r.tk c with kn := (r.tk c).kn ++ l }) ∧ RStep w own (w1.setCell ⟨b, T c + 2, none⟩ v1) own' b x := by
    refine h.task hc (o3.mono (fun k e => .inl e) (by omega) (by omega)) (fun k hk _ => o1 k hk) ?_
    refine { st := by rw [hcell _ (by omega)]; exact ht.st, wt := by rw [hcell _ (by omega)]; exact ht.wt, kn := ⟨v1, xs ++ news, ?_, ?_, ?_⟩, held := by rw [hcell _ (by omega)]; exact ht.held, run := fun e => by have e : (r.tk c).st = 2 := e; omega, ans := fun e => (by have e : (r.tk c).st = 3 := e; omega), mz := fun e => by have e : (r.tk c).st = 3 := e; omega }
    · exact csame187 kb (by unfold T; omega) _
    · show SlC _ own' b (cK c) 95 5 v1 ((r.tk c).kn ++ l).length (xs ++ news)
      rw [List.length_append]; exact o2
    · refine AL.keptB hb (fun k hk h0 hkb => ⟨o3.blk k hk hkb (by rw [h0]; exact fun e => hcK e.symm), by rw [o1 k hk]; exact h0⟩) _ _ (AL.app _ _ _ _ hal hnew)
  obtain ⟨own2, R2, S2⟩ := T1.1.setSt hc 1 1 rfl (by omega)
  refine ⟨own2, ?_, T1.2.trans S2⟩
  rw [put_put, put_same] at R2
  exact R2
end Go.Proofs.YtlpmmmmniojflaaGreatDoor
