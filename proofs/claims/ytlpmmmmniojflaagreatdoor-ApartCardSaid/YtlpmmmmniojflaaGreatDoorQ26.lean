/- Texts put together. -/
import Derived.Test.YtlpmmmmniojflaaGreatDoorCmB
import Derived.Test.YtlpmmmmniojflaaGreatDoorQ14
/- The compiler in memory: formula, sum, product; brackets, ranges. -/
set_option linter.unusedVariables false
set_option linter.unusedSimpArgs false
namespace Go.Proofs.YtlpmmmmniojflaaGreatDoor
open Go.RowKit
theorem sga_new {w : World} {cb : Nat} {cv : Value} {ts : List Tk} {code : List Ins} (h : CW w cb cv ts code) (l : List Int) (arr : Array Value) (ha : arr = (l.map (fun k => Value.int .i64 k)).toArray) : SgA (w.alloc (.cells arr 140)) cb cv (.slice (some ⟨w.heap.size, 0, none⟩) l.length l.length) l := by
  subst ha
  refine ⟨⟨w.heap.size, rfl, rnew _ _ _⟩, fun g hg => ?_⟩
  have e : g = w.heap.size := by cases hg; rfl
  subst e
  have := h.lt
  exact ⟨by omega, fun e => by have := h.code.lt _ e; omega⟩
set_option maxRecDepth 100000 in
set_option maxHeartbeats 2000000 in
theorem form_step (f : Nat) (sub : ∀ g, g ≤ f → CAL 237 1 g) : CAL 219 0 (f + 1) := by
  intro w cb cv ts code seg d rest h hb hc
  have HB : Hid _ := hb
  clear hb
  go_enter Tryz.func219, Tryz.ntmps219
  go_wp2_with fail
  refine (row_step 0 237 f (by omega) (by simp) sub _ cb cv _ ts code seg d rest (h.out.below (bl1 _ _)) HB.out (sga_new h.out [21, 22] _ rfl) hc).mono ?_
  rintro e w1 ⟨rfl, h1⟩
  have H1 : Hid (CCs cb w cv w1 rest (code ++ seg)) := CCs.comp (CC.below _ (bl1 _ _)) h1.out
  clear h1
  go_wp2_with fail
  refine bodyPost_end (results_none rfl _ _ _) rfl ?_
  exact ⟨rfl, H1⟩
set_option maxRecDepth 100000 in
set_option maxHeartbeats 2000000 in
theorem sum_stepC (f : Nat) (sub : ∀ g, g ≤ f → CAL 254 2 g) : CAL 237 1 (f + 1) := by
  intro w cb cv ts code seg d rest h hb hc
  have HB : Hid _ := hb
  clear hb
  go_enter Tryz.func237, Tryz.ntmps237
  go_wp2_with fail
  refine (row_step 1 254 f (by omega) (by simp) sub _ cb cv _ ts code seg d rest (h.out.below (bl1 _ _)) HB.out (sga_new h.out [16, 17, 20] _ rfl) hc).mono ?_
  rintro e w1 ⟨rfl, h1⟩
  have H1 : Hid (CCs cb w cv w1 rest (code ++ seg)) := CCs.comp (CC.below _ (bl1 _ _)) h1.out
  clear h1
  go_wp2_with fail
  refine bodyPost_end (results_none rfl _ _ _) rfl ?_
  exact ⟨rfl, H1⟩
set_option maxRecDepth 100000 in
set_option maxHeartbeats 2000000 in
theorem prod_stepC (f : Nat) (sub : ∀ g, g ≤ f → CAL 261 3 g) : CAL 254 2 (f + 1) := by
  intro w cb cv ts code seg d rest h hb hc
  have HB : Hid _ := hb
  clear hb
  go_enter Tryz.func254, Tryz.ntmps254
  go_wp2_with fail
  refine (row_step 2 261 f (by omega) (by simp) sub _ cb cv _ ts code seg d rest (h.out.below (bl1 _ _)) HB.out (sga_new h.out [18, 19] _ rfl) hc).mono ?_
  rintro e w1 ⟨rfl, h1⟩
  have H1 : Hid (CCs cb w cv w1 rest (code ++ seg)) := CCs.comp (CC.below _ (bl1 _ _)) h1.out
  clear h1
  go_wp2_with fail
  refine bodyPost_end (results_none rfl _ _ _) rfl ?_
  exact ⟨rfl, H1⟩
def BRK (f : Nat) : Prop := ∀ (w : World) (cb : Nat) (cv : Value) (ts : List Tk) (code seg : List Ins) (d : Beh) (rest : List Tk), Hid (CW w cb cv ts code) → code.length + 100 * ts.length ≤ 90000 → Hid (cmp f 0 code.length [] (retA vN) ts.tail = some (seg, d, rest)) →
  Calls Tryz.prog 264 #[.pointer (some ⟨cb, 0, none⟩)] w fun e w' => e = .returned (.tuple #[]) ∧ Hid (CCs cb w cv w' rest.tail (code ++ seg))
set_option maxRecDepth 100000 in
set_option maxHeartbeats 2000000 in
theorem brk_step (f : Nat) (sub : CAL 219 0 f) : BRK f := by
  intro w cb cv ts code seg d rest h hb hc
  have HB : Hid (code.length + 100 * ts.tail.length ≤ 90000) := by have := hk_tail ts; unfold Hid; omega
  clear hb
  go_enter Tryz.func264, Tryz.ntmps264
  go_wp2_with fail
  refine (ctake_w _ cb cv ts code h).mono ?_
  rintro e w1 ⟨rfl, h1⟩
  unfold tkV
  go_wp2_with fail
  refine (sub _ cb cv ts.tail code seg d rest h1.out.1 HB.out hc).mono ?_
  rintro e w2 ⟨rfl, h2⟩
  obtain ⟨cv2, c2, g2⟩ := h2.out
  have HC2 : Hid _ := c2
  have HG2 : Hid (CC cb w w2 cv cv2) := h1.out.2.trans g2
  clear h1 h2 c2 g2
  go_wp2_with fail
  refine (ctake_w _ cb cv2 rest _ HC2).mono ?_
  rintro e w3 ⟨rfl, h3⟩
  have H3 : Hid (CCs cb w cv w3 rest.tail (code ++ seg)) := ⟨cv2, h3.out.1, HG2.out.trans h3.out.2⟩
  clear h3
  unfold tkV
  go_wp2_with fail
  refine bodyPost_end (results_none rfl _ _ _) rfl ?_
  exact ⟨rfl, H3⟩
def setTo (code : List Ins) (j to : Nat) : List Ins := match code[j]? with | some i => code.set j { i with to := to } | none => code
theorem flat_set {α : Type} {f : α → List Value} {m : Nat} (hf : ∀ a, (f a).length = m) : ∀ (l : List α) (j : Nat) (a a' : α) (t : Nat) (u : Value), l[j]? = some a → f a' = (f a).set t u → t < m → (l.set j a').flatMap f = (l.flatMap f).set (j * m + t) u
  | [], j, a, a', t, u, h, _, _ => by simp at h
  | x :: l, 0, a, a', t, u, h, hu, ht => by
    simp at h; subst h
    rw [List.set_cons_zero, List.flatMap_cons, List.flatMap_cons, hu, Nat.zero_mul, Nat.zero_add, List.set_append_left _ _ (by rw [hf]; exact ht)]
  | x :: l, j + 1, a, a', t, u, h, hu, ht => by
    rw [List.getElem?_cons_succ] at h
    rw [List.set_cons_succ, List.flatMap_cons, List.flatMap_cons, flat_set hf l j a a' t u h hu ht, List.set_append_right _ _ (by rw [hf, Nat.succ_mul]; omega), hf, show (j + 1) * m + t - m = j * m + t by rw [Nat.succ_mul]; omega]
theorem Slc.setC {w : World} {e : TypeId} {size : Nat} {g o n cap : Nat} {xs : List Value} (h : Slc w e size (.slice (some ⟨g, o, none⟩) n cap) n xs) {p : Nat} (hp : p < xs.length) (u : Value) : Slc (w.setCell ⟨g, o + p, none⟩ u) e size (.slice (some ⟨g, o, none⟩) n cap) n (xs.set p u) := by
  rcases h.2 with ⟨h2, _⟩ | ⟨g', o', cap', cur, h2, hg, h3, h4, h5, h6⟩
  · cases h2
  · cases h2
    refine ⟨by rw [List.length_set]; exact h.1, .inr ⟨g, o, cap, cur.setIfInBounds (o + p) u, rfl, rset hg, h3, h4, by rw [Array.size_setIfInBounds]; exact h5, ?_⟩⟩
    rw [← h6, Array.toList_setIfInBounds, List.drop_set]
    rw [if_neg (by omega), show o + p - o = p by omega, List.take_set]
theorem CW.setTo {w : World} {cb : Nat} {ts : List Tk} {code : List Ins} {g o cap j to : Nat} {i : Ins} (h : CW w cb (.slice (some ⟨g, o, none⟩) code.length cap) ts code) (hi : code[j]? = some i) (q : Int) (hq : q = to) :
    CW (w.setCell ⟨g, o + j * 6 + 5, none⟩ (.int .i64 q)) cb (.slice (some ⟨g, o, none⟩) code.length cap) ts (Go.Proofs.YtlpmmmmniojflaaGreatDoor.setTo code j to) ∧ CC cb w (w.setCell ⟨g, o + j * 6 + 5, none⟩ (.int .i64 q)) (.slice (some ⟨g, o, none⟩) code.length cap) (.slice (some ⟨g, o, none⟩) code.length cap) := by
  subst hq
  have hjl := (List.getElem?_eq_some_iff.1 hi).1
  have hgc : g ≠ cb := fun e => h.cb (by rw [e]; rfl)
  obtain ⟨lv, h1, h2, h3⟩ := h.blk
  refine ⟨{ blk := ⟨lv, by rw [Below.heap_setCell _ _ _ _ (by show cb ≠ g; exact fun e => hgc e.symm)]; exact h1, h2.kept fun k hk => Below.heap_setCell _ _ _ _ (fun e => (h3 k hk).2 (by rw [e]; rfl)), h3⟩, code := ?_, cb := h.cb, tok := h.tok }, ⟨rfl, rfl, rfl, by simp [World.setCell], fun k _ _ hk => Below.heap_setCell _ _ _ _ (fun e => hk (by rw [e]; rfl)), .inl rfl⟩⟩
  have hlen : (Go.Proofs.YtlpmmmmniojflaaGreatDoor.setTo code j to).length = code.length := by unfold Go.Proofs.YtlpmmmmniojflaaGreatDoor.setTo; rw [hi]; simp
  have hfl : (Go.Proofs.YtlpmmmmniojflaaGreatDoor.setTo code j to).flatMap insC = (code.flatMap insC).set (j * 6 + 5) (.int .i64 to) := by
    unfold Go.Proofs.YtlpmmmmniojflaaGreatDoor.setTo
    rw [hi]
    exact flat_set insC_len code j i { i with to := to } 5 _ hi rfl (by omega)
  rw [hlen, hfl, Nat.add_assoc]
  exact h.code.setC (by rw [flatLen3 insC_len]; omega) _
theorem CW.row {w : World} {cb : Nat} {cv : Value} {ts : List Tk} {code : List Ins} (h : CW w cb cv ts code) (hl : 0 < code.length) : ∃ lv g o cap, cv = .slice (some ⟨g, o, none⟩) code.length cap ∧ w.heap[cb]? = some (.cells #[lv, .slice (some ⟨g, o, none⟩) code.length cap] 312 (0, 0)) ∧ g ≠ cb ∧ code.length ≤ cap ∧ ∀ j, w.frozen? ⟨g, j, none⟩ = false := by
  obtain ⟨lv, h1, h2, h3⟩ := h.blk
  rcases h.code.2 with ⟨_, h0⟩ | ⟨g, o, cap, cur, rfl, hg, hn, _⟩
  · omega
  · exact ⟨lv, g, o, cap, rfl, h1, fun e => h.cb (by rw [e]; rfl), hn, fun j => by simp [World.frozen?, hg]⟩
end Go.Proofs.YtlpmmmmniojflaaGreatDoor
/- The compiler in memory: bad, if, ranges. -/
set_option linter.unusedVariables false
set_option linter.unusedSimpArgs false
namespace Go.Proofs.YtlpmmmmniojflaaGreatDoor
open Go.RowKit
theorem setTo_at (code : List Ins) (i : Ins) (l : List Ins) (to : Nat) : setTo (code ++ (i :: l)) code.length to = code ++ ({ i with to := to } :: l) := by
  unfold setTo
  rw [List.getElem?_append_right (Nat.le_refl _), Nat.sub_self]
  simp only [List.getElem?_cons_zero]
  rw [List.set_append_right _ _ (Nat.le_refl _), Nat.sub_self, List.set_cons_zero]
theorem get_at (code : List Ins) (i : Ins) (l : List Ins) : (code ++ (i :: l))[code.length]? = some i := by
  rw [List.getElem?_append_right (Nat.le_refl _), Nat.sub_self]; rfl
set_option maxRecDepth 100000 in
set_option maxHeartbeats 2000000 in
theorem grd_step (f : Nat) (sub : BRK f) (w : World) (cb : Nat) (cv : Value) (ts : List Tk) (code seg : List Ins) (d : Beh) (rest : List Tk) (h : Hid (CW w cb cv ts code)) (hb : code.length + 1 + 100 * ts.length ≤ 90000) (hc : Hid (cmp f 0 (code.length + 1) [] (retA vN) ts.tail = some (seg, d, rest))) :
    Calls Tryz.prog 265 #[.pointer (some ⟨cb, 0, none⟩)] w fun e w' => e = .returned (.tuple #[]) ∧ Hid (CCs cb w cv w' rest.tail (code ++ (iTo 15 (code.length + 1 + seg.length + 1) :: (seg ++ [iOp 16])))) := by
  have hok := (cmp_ok f 0 (code.length + 1) [] (retA vN) ts.tail seg d rest (by omega) hc.out (fun e => absurd e (by omega)) (fun _ => rfl)).2
  have hl : code.length + 1 + seg.length ≤ 90000 := by have := hk_tail ts; simp at hok; omega
  have HL : Hid _ := hl
  have HB : Hid _ := hb
  clear hok hl hb
  go_enter Tryz.func265, Tryz.ntmps265
  go_wp2_with fail
  refine (emit_w _ cb cv ts code (iOp 15) h (by have := HL.out; omega)).mono ?_
  rintro e w1 ⟨rfl, h1⟩
  obtain ⟨cv1, c1, g1⟩ := h1.out
  have HG1 : Hid _ := g1
  have HC1 : Hid _ := c1
  clear h1 c1 g1
  go_wp2_with fail
  refine (sub _ cb cv1 ts (code ++ [iOp 15]) seg d rest HC1 (by have := HB.out; simp only [List.length_append, List.length_singleton]; omega) (by unfold Hid; rw [List.length_append]; exact hc.out)).mono ?_
  rintro e w2 ⟨rfl, h2⟩
  obtain ⟨cv2, c2, g2⟩ := h2.out
  have HG2 : Hid (CC cb w w2 cv cv2) := HG1.out.trans g2
  have HC2 : Hid _ := c2
  clear h2 c2 g2 HG1 HC1
  go_wp2_with fail
  refine (emit_w _ cb cv2 rest.tail (code ++ [iOp 15] ++ seg) (iOp 16) HC2 (by have := HL.out; simp only [List.length_append, List.length_singleton]; omega)).mono ?_
  rintro e w3 ⟨rfl, h3⟩
  obtain ⟨cv3, c3, g3⟩ := h3.out
  have HG3 : Hid (CC cb w w3 cv cv3) := HG2.out.trans g3
  have e3 : code ++ [iOp 15] ++ seg ++ [iOp 16] = code ++ (iOp 15 :: (seg ++ [iOp 16])) := by simp
  rw [e3] at c3
  obtain ⟨lv, g, o, cap, rfl, hcb, hgc, hcap, hfz⟩ := c3.row (by simp; omega)
  have hlen : (code ++ (iOp 15 :: (seg ++ [iOp 16]))).length = code.length + 1 + seg.length + 1 := by simp; omega
  have HS := c3.setTo (to := code.length + 1 + seg.length + 1) (get_at code (iOp 15) (seg ++ [iOp 16])) ((code.length + 1 + seg.length + 1 : Nat) : Int) rfl
  rw [setTo_at] at HS
  have hv5 : w3.cell? ⟨g, o + code.length * 6 + 5, none⟩ = some (.int .i64 0) := by
    rw [Nat.add_assoc]
    exact c3.code.cell _ _ (flat3_get insC_len _ code.length (iOp 15) 5 _ (get_at _ _ _) rfl)
  rw [hlen] at hcb hcap HS
  have G3' := HG3.out
  rw [hlen] at G3'
  have HG3 : Hid _ := G3'
  clear G3'
  have d1 := boxc hcb 1 (.slice (some ⟨g, o, none⟩) (code.length + 1 + seg.length + 1) cap) rfl
  have z5 := hfz (o + code.length * 6 + 5)
  have p1 : (code.length : Int) < ((code.length + 1 + seg.length + 1 : Nat) : Int) := by omega
  have p2 : 0 ≤ (code.length : Int) := by omega
  have HS' : Hid _ := HS
  clear h3 c3 g3 hcb hfz HS HG2 HC2 e3
  generalize hN : code.length + 1 + seg.length + 1 = N at *
  go_wp2_with fail
  go_region
  all_goals
    subst hN
    change bodyPost Tryz.prog Tryz.f265 (fun e w' => e = Ending.returned (Value.tuple #[]) ∧ Hid (CCs cb w cv w' rest.tail (code ++ iTo 15 (code.length + 1 + seg.length + 1) :: (seg ++ [iOp 16])))) Exit.normal _ _
    refine bodyPost_end (results_none rfl _ _ _) rfl ⟨rfl, ?_⟩
    exact CCs.then (⟨_, HS'.out.1, HG3.out.trans HS'.out.2⟩ : CCs cb w cv _ rest.tail (code ++ iTo 15 (code.length + 1 + seg.length + 1) :: (seg ++ [iOp 16]))) (Below.refl _ _).drew
set_option maxRecDepth 100000 in
set_option maxHeartbeats 4000000 in
theorem cho_step (f : Nat) (sub : BRK f) (sub0 : CAL 219 0 f) (w : World) (cb : Nat) (cv : Value) (ts : List Tk) (code s1 s2 s3 : List Ins) (d1 d2 d3 : Beh) (r1 r2 r3 : List Tk) (h : Hid (CW w cb cv ts code)) (hb : code.length + 2 + 100 * ts.length ≤ 90000)
    (hc1 : Hid (cmp f 0 code.length [] (retA vN) ts.tail = some (s1, d1, r1))) (hc2 : Hid (cmp f 0 (code.length + s1.length + 1) [] (retA vN) r1.tail = some (s2, d2, r2))) (hc3 : Hid (cmp f 0 (code.length + s1.length + 1 + s2.length + 1) [] (retA vN) r2.tail = some (s3, d3, r3))) :
    Calls Tryz.prog 263 #[.pointer (some ⟨cb, 0, none⟩)] w fun e w' => e = .returned (.tuple #[]) ∧ Hid (CCs cb w cv w' r3.tail (code ++ (s1 ++ (iTo 13 (code.length + s1.length + 1 + s2.length + 1) :: (s2 ++ (iTo 14 (code.length + s1.length + 1 + s2.length + 1 + s3.length) :: s3)))))) := by
  have k1 := (cmp_ok f 0 _ [] (retA vN) ts.tail s1 d1 r1 (by omega) hc1.out (fun e => absurd e (by omega)) (fun _ => rfl)).2
  have k2 := (cmp_ok f 0 _ [] (retA vN) r1.tail s2 d2 r2 (by omega) hc2.out (fun e => absurd e (by omega)) (fun _ => rfl)).2
  have k3 := (cmp_ok f 0 _ [] (retA vN) r2.tail s3 d3 r3 (by omega) hc3.out (fun e => absurd e (by omega)) (fun _ => rfl)).2
  have t0 := hk_tail ts
  have t1 := hk_tail r1
  have t2 := hk_tail r2
  simp only [List.length_nil] at k1 k2 k3
  have HL : Hid (code.length + 100 * ts.length ≤ 90000 ∧ code.length + s1.length + 1 + 100 * r1.tail.length ≤ 90000 ∧ code.length + s1.length + 1 + s2.length + 1 + 100 * r2.length ≤ 90000 ∧ code.length + s1.length + 1 + s2.length + 1 + s3.length ≤ 90000) := by unfold Hid; omega
  clear k1 k2 k3 t0 t1 t2 hb
  obtain ⟨A, hA⟩ : ∃ A, (code ++ s1).length = A := ⟨_, rfl⟩
  obtain ⟨B, hB⟩ : ∃ B, (code ++ s1 ++ [iOp 13] ++ s2).length = B := ⟨_, rfl⟩
  have HA : Hid ((code ++ s1).length = A) := hA
  have HB : Hid ((code ++ s1 ++ [iOp 13] ++ s2).length = B) := hB
  have HA2 : Hid (A = code.length + s1.length) := by unfold Hid; rw [← hA]; simp
  have HB2 : Hid (B = code.length + s1.length + 1 + s2.length) := by unfold Hid; rw [← hB]; simp; omega
  clear hA hB
  go_enter Tryz.func263, Tryz.ntmps263
  go_wp2_with fail
  refine (sub _ cb cv ts code s1 d1 r1 h HL.out.1 hc1).mono ?_
  rintro e w1 ⟨rfl, h1⟩
  obtain ⟨cv1, c1, g1⟩ := h1.out
  have HG1 : Hid _ := g1
  have HC1 : Hid _ := c1
  clear h1 c1 g1
  go_wp2_with fail
  refine (emit_w _ cb cv1 r1.tail (code ++ s1) (iOp 13) HC1 (by have := HL.out; simp only [List.length_append]; omega)).mono ?_
  rintro e w2 ⟨rfl, h2⟩
  rw [HA.out]
  obtain ⟨cv2, c2, g2⟩ := h2.out
  have HG2 : Hid (CC cb w w2 cv cv2) := HG1.out.trans g2
  have HC2 : Hid _ := c2
  clear h2 c2 g2 HG1 HC1
  go_wp2_with fail
  refine (sub0 _ cb cv2 r1.tail (code ++ s1 ++ [iOp 13]) s2 d2 r2 HC2 (by have := HL.out; simp only [List.length_append, List.length_singleton]; omega) (by unfold Hid; rw [List.length_append, List.length_append]; exact hc2.out)).mono ?_
  rintro e w3 ⟨rfl, h3⟩
  obtain ⟨cv3, c3, g3⟩ := h3.out
  have HG3 : Hid (CC cb w w3 cv cv3) := HG2.out.trans g3
  have HC3 : Hid _ := c3
  clear h3 c3 g3 HG2 HC2
  go_wp2_with fail
  refine (emit_w _ cb cv3 r2 (code ++ s1 ++ [iOp 13] ++ s2) (iOp 14) HC3 (by have := HL.out; simp only [List.length_append, List.length_singleton]; omega)).mono ?_
  rintro e w4 ⟨rfl, h4⟩
  rw [HB.out]
  obtain ⟨cv4, c4, g4⟩ := h4.out
  have G4 := HG3.out.trans g4
  have e4 : code ++ s1 ++ [iOp 13] ++ s2 ++ [iOp 14] = (code ++ s1) ++ (iOp 13 :: (s2 ++ [iOp 14])) := by simp
  rw [e4] at c4
  obtain ⟨lv, g, o, cap, rfl, hcb, hgc, hcap, hfz⟩ := c4.row (by simp; omega)
  have hlen : ((code ++ s1) ++ (iOp 13 :: (s2 ++ [iOp 14]))).length = B + 1 := by rw [HB2.out]; simp; omega
  have HS := c4.setTo (to := B + 1) (get_at (code ++ s1) (iOp 13) (s2 ++ [iOp 14])) ((B : Int) + 1) rfl
  rw [setTo_at] at HS
  have hv5 : w4.cell? ⟨g, o + (code ++ s1).length * 6 + 5, none⟩ = some (.int .i64 0) := by
    rw [Nat.add_assoc]
    exact c4.code.cell _ _ (flat3_get insC_len _ (code ++ s1).length (iOp 13) 5 _ (get_at _ _ _) rfl)
  rw [hlen] at hcb hcap HS G4
  rw [HA.out] at hv5 HS
  have d1 := boxc hcb 1 (.slice (some ⟨g, o, none⟩) (B + 1) cap) rfl
  have z5 := hfz (o + A * 6 + 5)
  have p1 : (A : Int) < (B : Int) + 1 := by have := HA2.out; have := HB2.out; omega
  have p2 : 0 ≤ (A : Int) := by omega
  have HS' : Hid _ := HS
  have HG4 : Hid _ := G4
  clear h4 c4 g4 hcb hfz HS HG3 HC3 e4 G4 hlen
  go_wp2_with fail
  go_region
  all_goals
    have H5 : Hid (CCs cb w cv (w4.setCell ⟨g, o + A * 6 + 5, none⟩ (.int .i64 ((B : Int) + 1))).drew r2 ((code ++ s1) ++ ({ iOp 13 with to := B + 1 } :: (s2 ++ [iOp 14])))) := CCs.then ⟨_, HS'.out.1, HG4.out.trans HS'.out.2⟩ (Below.refl _ _).drew
    clear HS' HG4 hv5 d1 z5 p1 p2 hgc hcap
    generalize (w4.setCell ⟨g, o + A * 6 + 5, none⟩ (.int .i64 ((B : Int) + 1))).drew = W5 at *
    obtain ⟨cv5, c5, g5⟩ := H5.out
    have HC5 : Hid _ := c5
    have HG5 : Hid _ := g5
    clear c5 g5 H5
    go_wp2_with fail
    refine (sub _ cb cv5 r2 _ s3 d3 r3 HC5 (by have := HL.out; simp only [List.length_append, List.length_cons, List.length_singleton, List.length_nil]; omega) (by
      unfold Hid
      have : ((code ++ s1) ++ ({ iOp 13 with to := B + 1 } :: (s2 ++ [iOp 14]))).length = code.length + s1.length + 1 + s2.length + 1 := by simp; omega
      rw [this]; exact hc3.out)).mono ?_
    rintro e w6 ⟨rfl, h6⟩
    obtain ⟨cv6, c6, g6⟩ := h6.out
    have G6 := HG5.out.trans g6
    have e6 : (code ++ s1) ++ ({ iOp 13 with to := B + 1 } :: (s2 ++ [iOp 14])) ++ s3 = ((code ++ s1) ++ ({ iOp 13 with to := B + 1 } :: s2)) ++ (iOp 14 :: s3) := by simp
    rw [e6] at c6
    obtain ⟨lv', g', o', cap', rfl, hcb', hgc', hcap', hfz'⟩ := c6.row (by simp; omega)
    obtain ⟨N, hN⟩ : ∃ N, (((code ++ s1) ++ ({ iOp 13 with to := B + 1 } :: s2)) ++ (iOp 14 :: s3)).length = N := ⟨_, rfl⟩
    have HN : Hid (N = code.length + s1.length + 1 + s2.length + 1 + s3.length) := by unfold Hid; rw [← hN]; simp; omega
    have hlB : ((code ++ s1) ++ ({ iOp 13 with to := B + 1 } :: s2)).length = B := by rw [HB2.out]; simp; omega
    have HS6 := c6.setTo (to := N) (get_at ((code ++ s1) ++ ({ iOp 13 with to := B + 1 } :: s2)) (iOp 14) s3) (N : Int) rfl
    rw [setTo_at] at HS6
    have hv6 : w6.cell? ⟨g', o' + ((code ++ s1) ++ ({ iOp 13 with to := B + 1 } :: s2)).length * 6 + 5, none⟩ = some (.int .i64 0) := by
      rw [Nat.add_assoc]
      exact c6.code.cell _ _ (flat3_get insC_len _ ((code ++ s1) ++ ({ iOp 13 with to := B + 1 } :: s2)).length (iOp 14) 5 _ (get_at _ _ _) rfl)
    rw [hN] at hcb' hcap' HS6 G6
    rw [hlB] at hv6 HS6
    have d6 := boxc hcb' 1 (.slice (some ⟨g', o', none⟩) N cap') rfl
    have z6 := hfz' (o' + B * 6 + 5)
    have p1 : (B : Int) < (N : Int) := by have := HB2.out; have := HN.out; omega
    have p2 : 0 ≤ (B : Int) := by omega
    have HS' : Hid _ := HS6
    have HG6 : Hid _ := G6
    clear h6 c6 g6 hcb' hfz' HS6 HG5 HC5 e6 G6 hN hlB
    go_wp2_with fail
    go_region
  all_goals
    change bodyPost Tryz.prog Tryz.f263 (fun e w' => e = Ending.returned (Value.tuple #[]) ∧ Hid (CCs cb w cv w' r3.tail (code ++ (s1 ++ (iTo 13 (code.length + s1.length + 1 + s2.length + 1) :: (s2 ++ (iTo 14 (code.length + s1.length + 1 + s2.length + 1 + s3.length) :: s3))))))) Exit.normal _ _
    refine bodyPost_end (results_none rfl _ _ _) rfl ⟨rfl, ?_⟩
    have e7 : code ++ s1 ++ ({ iOp 13 with to := B + 1 } :: s2) ++ ({ iOp 14 with to := N } :: s3) = code ++ (s1 ++ (iTo 13 (code.length + s1.length + 1 + s2.length + 1) :: (s2 ++ (iTo 14 (code.length + s1.length + 1 + s2.length + 1 + s3.length) :: s3)))) := by
      rw [HN.out, HB2.out]; simp [iOp, iTo]
    have := CCs.then (⟨_, HS'.out.1, HG6.out.trans HS'.out.2⟩ : CCs cb w cv _ r3.tail _) (Below.refl _ _).drew
    rw [e7] at this
    exact this
end Go.Proofs.YtlpmmmmniojflaaGreatDoor
