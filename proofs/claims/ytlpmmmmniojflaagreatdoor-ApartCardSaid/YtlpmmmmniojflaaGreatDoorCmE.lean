/- The compiler in memory: atoms. -/
import Derived.Test.YtlpmmmmniojflaaGreatDoorQ26
set_option linter.unusedVariables false
set_option linter.unusedSimpArgs false
namespace Go.Proofs.YtlpmmmmniojflaaGreatDoor
open Go.RowKit
theorem text_cut (x : List UInt8) : (⟨x.toArray⟩ : ByteArray).extract 1 (x.length - 1) = ⟨((x.drop 1).dropLast).toArray⟩ := by
  have h : ((⟨x.toArray⟩ : ByteArray).extract 1 (x.length - 1)).data = ((x.drop 1).dropLast).toArray := by
    rw [ByteArray.data_extract]
    rw [← Array.toList_inj]
    simp [List.dropLast_eq_take, List.drop_take, List.take_drop]
  cases hh : (⟨x.toArray⟩ : ByteArray).extract 1 (x.length - 1) with
  | mk d => rw [hh] at h; simp only at h; rw [h]
theorem hx_hd (ts : List Tk) : (hd0 ts).x = hx ts := by cases ts <;> rfl
theorem hd_mem {ts : List Tk} (h : hk ts ≠ 0) : hd0 ts ∈ ts := by
  cases ts with
  | nil => exact absurd rfl h
  | cons a l => exact List.mem_cons_self
theorem parse_numC (x : List UInt8) (h0 : x ≠ []) (hd : ∀ c ∈ x, dgB (c.toNat : Int) = true) (hl : x.length ≤ 19) (hv : valN x ≤ 9223372036854775807) (w : World) :
    Calls Tryz.prog 108 #[.string ⟨x.toArray⟩, .int .i64 10, .int .i64 64] w fun e w' => e = .returned (.tuple #[.int .i64 (valN x), .nilIface]) ∧ Below w.heap.size w w' := by
  have h : Lib.parseIntB 64 (⟨x.toArray⟩ : ByteArray).data.toList = .ok (valN x : Int) := by
    have := parse_digits x h0 hd hl
    rw [if_neg (by omega)] at this
    simpa using this
  refine (Tryz.strconv_ParseInt_10_at64_ok ⟨x.toArray⟩ (by simp only [ByteArray.size, List.size_toArray]; omega) _ h w).mono ?_
  rintro e w' ⟨rfl, rfl | ⟨t, rfl⟩⟩
  · exact ⟨rfl, Below.refl _ _⟩
  · exact ⟨rfl, Lib.bytesWorld_below w 5 t⟩
set_option maxRecDepth 100000 in
set_option maxHeartbeats 2000000 in
theorem atom_neg (w : World) (cb : Nat) (cv : Value) (ts : List Tk) (code : List Ins) (h : Hid (CW w cb cv ts code)) (hb : Hid (code.length + 100 * ts.length ≤ 90000)) (hkk : hk ts = 23) (f : Nat) (sub : CAL 261 3 f) (s1 : List Ins) (d1 : Beh) (r1 : List Tk) (hc : Hid (cmp f 3 code.length [] (retA vN) ts.tail = some (s1, d1, r1))) :
    Calls Tryz.prog 261 #[.pointer (some ⟨cb, 0, none⟩)] w fun e w' => e = .returned (.tuple #[]) ∧ Hid (CCs cb w cv w' r1 (code ++ (s1 ++ [iOp 4]))) := by
  have htl : ts.tail.length + 1 = ts.length := hk_tail1 (by rw [hkk]; decide)
  have HT : Hid _ := htl
  obtain ⟨t0, ht0⟩ : ∃ t0, hd0 ts = t0 := ⟨_, rfl⟩
  have k1 := hk_hd ts
  have k2 := hx_hd ts
  have k3 := h.out.tok _ (hd_mem (ts := ts) (by rw [hkk]; decide))
  rw [ht0] at k1 k2 k3
  obtain ⟨k, x, p⟩ := t0
  dsimp only at k1 k2
  rw [hkk] at k1
  subst k1
  have HX : Hid _ := k2
  have HK : Hid (TkOK _) := k3
  have HT0 : Hid _ := ht0
  clear htl ht0 k2 k3 hkk
  go_enter Tryz.func261, Tryz.ntmps261
  go_wp2_with fail
  refine (ctake_w _ cb cv ts code h).mono ?_
  rintro e w1 ⟨rfl, h1⟩
  rw [HT0.out]
  unfold tkV
  go_wp2_with fail
  have HW1 : Hid (CW (w1.alloc (Obj.cells #[Value.int IntKind.i64 23, Value.string ⟨x.toArray⟩, Value.int IntKind.i64 p] 142)) cb cv ts.tail code) := h1.out.1.below (bl1 _ _)
  have HC1 : Hid (CC cb w (w1.alloc (Obj.cells #[Value.int IntKind.i64 23, Value.string ⟨x.toArray⟩, Value.int IntKind.i64 p] 142)) cv cv) := h1.out.2.trans (CC.below _ (bl1 _ _))
  have hlt1 : cb < w1.heap.size := h1.out.1.lt
  clear h1
  have hb1 : code.length + 100 * ts.tail.length ≤ 90000 := by have := hb.out; have := HT.out; omega
  have hok := (cmp_ok f 3 _ [] (retA vN) ts.tail s1 d1 r1 (by omega) hc.out (fun e => absurd e (by omega)) (fun _ => rfl)).2
  have HL : Hid (code.length + s1.length ≤ 90000) := by unfold Hid; simp only [List.length_nil] at hok; omega
  clear hok
  refine (sub _ cb cv ts.tail code s1 d1 r1 HW1 hb1 hc).mono ?_
  rintro e w2 ⟨rfl, h2⟩
  obtain ⟨cv2, c2, g2⟩ := h2.out
  have HC2 : Hid _ := c2
  have HG2 : Hid (CC cb w w2 cv cv2) := HC1.out.trans g2
  clear h2 c2 g2 hb1 HW1 HC1
  go_wp2_with fail
  refine (emit_w _ cb cv2 r1 (code ++ s1) (iOp 4) HC2 (by have := HL.out; simp only [List.length_append]; omega)).mono ?_
  rintro e w4 ⟨rfl, h4⟩
  have H4 : Hid (CCs cb w cv w4 r1 (code ++ (s1 ++ [iOp 4]))) := by
    unfold Hid
    have := CCs.comp HG2.out h4.out
    rw [List.append_assoc] at this; exact this
  clear h4
  go_wp2_with fail
  refine bodyPost_end (results_none rfl _ _ _) rfl ?_
  exact ⟨rfl, H4⟩
set_option maxRecDepth 100000 in
set_option maxHeartbeats 2000000 in
theorem atom_num (w : World) (cb : Nat) (cv : Value) (ts : List Tk) (code : List Ins) (h : Hid (CW w cb cv ts code)) (hb : Hid (code.length + 100 * ts.length ≤ 90000)) (hkk : hk ts = 1) (hv : Hid (valN (hx ts) ≤ 9223372036854775807)) :
    Calls Tryz.prog 261 #[.pointer (some ⟨cb, 0, none⟩)] w fun e w' => e = .returned (.tuple #[]) ∧ Hid (CCs cb w cv w' ts.tail (code ++ [iPut (vI (valN (hx ts)))])) := by
  have htl : ts.tail.length + 1 = ts.length := hk_tail1 (by rw [hkk]; decide)
  have HT : Hid _ := htl
  obtain ⟨t0, ht0⟩ : ∃ t0, hd0 ts = t0 := ⟨_, rfl⟩
  have k1 := hk_hd ts
  have k2 := hx_hd ts
  have k3 := h.out.tok _ (hd_mem (ts := ts) (by rw [hkk]; decide))
  rw [ht0] at k1 k2 k3
  obtain ⟨k, x, p⟩ := t0
  dsimp only at k1 k2
  rw [hkk] at k1
  subst k1
  have HX : Hid _ := k2
  have HK : Hid (TkOK _) := k3
  have HT0 : Hid _ := ht0
  clear htl ht0 k2 k3 hkk
  go_enter Tryz.func261, Tryz.ntmps261
  go_wp2_with fail
  refine (ctake_w _ cb cv ts code h).mono ?_
  rintro e w1 ⟨rfl, h1⟩
  rw [HT0.out]
  unfold tkV
  go_wp2_with fail
  have HW1 : Hid (CW (w1.alloc (Obj.cells #[Value.int IntKind.i64 1, Value.string ⟨x.toArray⟩, Value.int IntKind.i64 p] 142)) cb cv ts.tail code) := h1.out.1.below (bl1 _ _)
  have HC1 : Hid (CC cb w (w1.alloc (Obj.cells #[Value.int IntKind.i64 1, Value.string ⟨x.toArray⟩, Value.int IntKind.i64 p] 142)) cv cv) := h1.out.2.trans (CC.below _ (bl1 _ _))
  have hlt1 : cb < w1.heap.size := h1.out.1.lt
  clear h1
  have hv' : valN x ≤ 9223372036854775807 := by rw [HX.out]; exact hv.out
  refine (parse_numC x (HK.out.1 rfl).1 (HK.out.1 rfl).2.1 (HK.out.1 rfl).2.2 hv' _).mono ?_
  rintro e w2 ⟨rfl, hb2⟩
  have HW2 : Hid (CW w2 cb cv ts.tail code) := HW1.out.below hb2
  have HC2 : Hid (CC cb w w2 cv cv) := HC1.out.trans (CC.below _ hb2)
  clear hb2 HW1 HC1 hv'
  go_wp2_with fail
  refine (int_w _ _).mono ?_
  rintro e w3 ⟨rfl, hb3⟩
  have HW3 : Hid (CW w3 cb cv ts.tail code) := HW2.out.below hb3
  have HC3 : Hid (CC cb w w3 cv cv) := HC2.out.trans (CC.below _ hb3)
  clear hb3 HW2 HC2
  go_wp2_with fail
  refine (cput_w _ cb cv ts.tail code (vI (valN x)) HW3 (by have := hb.out; omega)).mono ?_
  rintro e w4 ⟨rfl, h4⟩
  have H4 : Hid (CCs cb w cv w4 ts.tail (code ++ [iPut (vI (valN (hx ts)))])) := by
    unfold Hid
    have := CCs.comp HC3.out h4.out
    rw [HX.out] at this; exact this
  clear h4
  go_wp2_with fail
  refine bodyPost_end (results_none rfl _ _ _) rfl ?_
  exact ⟨rfl, H4⟩
set_option maxRecDepth 100000 in
set_option maxHeartbeats 2000000 in
theorem atom_str (w : World) (cb : Nat) (cv : Value) (ts : List Tk) (code : List Ins) (h : Hid (CW w cb cv ts code)) (hb : Hid (code.length + 100 * ts.length ≤ 90000)) (hkk : hk ts = 2)  :
    Calls Tryz.prog 261 #[.pointer (some ⟨cb, 0, none⟩)] w fun e w' => e = .returned (.tuple #[]) ∧ Hid (CCs cb w cv w' ts.tail (code ++ [iPut (vT ⟨((hx ts).drop 1).dropLast.toArray⟩)])) := by
  have htl : ts.tail.length + 1 = ts.length := hk_tail1 (by rw [hkk]; decide)
  have HT : Hid _ := htl
  obtain ⟨t0, ht0⟩ : ∃ t0, hd0 ts = t0 := ⟨_, rfl⟩
  have k1 := hk_hd ts
  have k2 := hx_hd ts
  have k3 := h.out.tok _ (hd_mem (ts := ts) (by rw [hkk]; decide))
  rw [ht0] at k1 k2 k3
  obtain ⟨k, x, p⟩ := t0
  dsimp only at k1 k2
  rw [hkk] at k1
  subst k1
  have HX : Hid _ := k2
  have HK : Hid (TkOK _) := k3
  have HT0 : Hid _ := ht0
  clear htl ht0 k2 k3 hkk
  go_enter Tryz.func261, Tryz.ntmps261
  go_wp2_with fail
  refine (ctake_w _ cb cv ts code h).mono ?_
  rintro e w1 ⟨rfl, h1⟩
  rw [HT0.out]
  unfold tkV
  have hlen := (HK.out.2.1 rfl)
  dsimp only at hlen
  have hsz : (⟨x.toArray⟩ : ByteArray).size = x.length := by simp [ByteArray.size]
  have q1 : (1 : Int) ≤ (x.length : Int) - 1 := by omega
  have q2 : ((x.length : Int) - 1).toNat = x.length - 1 := by omega
  have q3 : wrap64 ((x.length : Int) - 1) = (x.length : Int) - 1 := by unfold wrap64; omega
  have q4 : IntKind.i64.wrap ((x.length : Int) - 1) = (x.length : Int) - 1 := by rw [IntKind.wrap_i64]; omega
  go_wp2_with fail
  have HW1 : Hid (CW (w1.alloc (Obj.cells #[Value.int IntKind.i64 2, Value.string ⟨x.toArray⟩, Value.int IntKind.i64 p] 142)) cb cv ts.tail code) := h1.out.1.below (bl1 _ _)
  have HC1 : Hid (CC cb w (w1.alloc (Obj.cells #[Value.int IntKind.i64 2, Value.string ⟨x.toArray⟩, Value.int IntKind.i64 p] 142)) cv cv) := h1.out.2.trans (CC.below _ (bl1 _ _))
  have hlt1 : cb < w1.heap.size := h1.out.1.lt
  clear h1
  rw [text_cut x]
  refine (text_w _ _).mono ?_
  rintro e w3 ⟨rfl, hb3⟩
  have HW3 : Hid (CW w3 cb cv ts.tail code) := HW1.out.below hb3
  have HC3 : Hid (CC cb w w3 cv cv) := HC1.out.trans (CC.below _ hb3)
  clear hb3 HW1 HC1
  go_wp2_with fail
  refine (cput_w _ cb cv ts.tail code (vT ⟨(x.tail.dropLast).toArray⟩) HW3 (by have := hb.out; omega)).mono ?_
  rintro e w4 ⟨rfl, h4⟩
  have H4 : Hid (CCs cb w cv w4 ts.tail (code ++ [iPut (vT ⟨((hx ts).drop 1).dropLast.toArray⟩)])) := by
    unfold Hid
    have := CCs.comp HC3.out h4.out
    rw [HX.out] at this
    rw [List.drop_one]; exact this
  clear h4
  go_wp2_with fail
  refine bodyPost_end (results_none rfl _ _ _) rfl ?_
  exact ⟨rfl, H4⟩
set_option maxRecDepth 100000 in
set_option maxHeartbeats 2000000 in
theorem atom_b3 (w : World) (cb : Nat) (cv : Value) (ts : List Tk) (code : List Ins) (h : Hid (CW w cb cv ts code)) (hb : Hid (code.length + 100 * ts.length ≤ 90000)) (hkk : hk ts = 3)  :
    Calls Tryz.prog 261 #[.pointer (some ⟨cb, 0, none⟩)] w fun e w' => e = .returned (.tuple #[]) ∧ Hid (CCs cb w cv w' ts.tail (code ++ [iPut (vB true)])) := by
  have htl : ts.tail.length + 1 = ts.length := hk_tail1 (by rw [hkk]; decide)
  have HT : Hid _ := htl
  obtain ⟨t0, ht0⟩ : ∃ t0, hd0 ts = t0 := ⟨_, rfl⟩
  have k1 := hk_hd ts
  have k2 := hx_hd ts
  have k3 := h.out.tok _ (hd_mem (ts := ts) (by rw [hkk]; decide))
  rw [ht0] at k1 k2 k3
  obtain ⟨k, x, p⟩ := t0
  dsimp only at k1 k2
  rw [hkk] at k1
  subst k1
  have HX : Hid _ := k2
  have HK : Hid (TkOK _) := k3
  have HT0 : Hid _ := ht0
  clear htl ht0 k2 k3 hkk
  go_enter Tryz.func261, Tryz.ntmps261
  go_wp2_with fail
  refine (ctake_w _ cb cv ts code h).mono ?_
  rintro e w1 ⟨rfl, h1⟩
  rw [HT0.out]
  unfold tkV
  go_wp2_with fail
  have HW1 : Hid (CW (w1.alloc (Obj.cells #[Value.int IntKind.i64 3, Value.string ⟨x.toArray⟩, Value.int IntKind.i64 p] 142)) cb cv ts.tail code) := h1.out.1.below (bl1 _ _)
  have HC1 : Hid (CC cb w (w1.alloc (Obj.cells #[Value.int IntKind.i64 3, Value.string ⟨x.toArray⟩, Value.int IntKind.i64 p] 142)) cv cv) := h1.out.2.trans (CC.below _ (bl1 _ _))
  have hlt1 : cb < w1.heap.size := h1.out.1.lt
  clear h1
  refine (bool_w true _).mono ?_
  rintro e w3 ⟨rfl, hb3⟩
  have HW3 : Hid (CW w3 cb cv ts.tail code) := HW1.out.below hb3
  have HC3 : Hid (CC cb w w3 cv cv) := HC1.out.trans (CC.below _ hb3)
  clear hb3 HW1 HC1
  go_wp2_with fail
  refine (cput_w _ cb cv ts.tail code (vB true) HW3 (by have := hb.out; omega)).mono ?_
  rintro e w4 ⟨rfl, h4⟩
  have H4 : Hid (CCs cb w cv w4 ts.tail (code ++ [iPut (vB true)])) := CCs.comp HC3.out h4.out
  clear h4
  go_wp2_with fail
  refine bodyPost_end (results_none rfl _ _ _) rfl ?_
  exact ⟨rfl, H4⟩
set_option maxRecDepth 100000 in
set_option maxHeartbeats 2000000 in
theorem atom_b4 (w : World) (cb : Nat) (cv : Value) (ts : List Tk) (code : List Ins) (h : Hid (CW w cb cv ts code)) (hb : Hid (code.length + 100 * ts.length ≤ 90000)) (hkk : hk ts = 4)  :
    Calls Tryz.prog 261 #[.pointer (some ⟨cb, 0, none⟩)] w fun e w' => e = .returned (.tuple #[]) ∧ Hid (CCs cb w cv w' ts.tail (code ++ [iPut (vB false)])) := by
  have htl : ts.tail.length + 1 = ts.length := hk_tail1 (by rw [hkk]; decide)
  have HT : Hid _ := htl
  obtain ⟨t0, ht0⟩ : ∃ t0, hd0 ts = t0 := ⟨_, rfl⟩
  have k1 := hk_hd ts
  have k2 := hx_hd ts
  have k3 := h.out.tok _ (hd_mem (ts := ts) (by rw [hkk]; decide))
  rw [ht0] at k1 k2 k3
  obtain ⟨k, x, p⟩ := t0
  dsimp only at k1 k2
  rw [hkk] at k1
  subst k1
  have HX : Hid _ := k2
  have HK : Hid (TkOK _) := k3
  have HT0 : Hid _ := ht0
  clear htl ht0 k2 k3 hkk
  go_enter Tryz.func261, Tryz.ntmps261
  go_wp2_with fail
  refine (ctake_w _ cb cv ts code h).mono ?_
  rintro e w1 ⟨rfl, h1⟩
  rw [HT0.out]
  unfold tkV
  go_wp2_with fail
  have HW1 : Hid (CW (w1.alloc (Obj.cells #[Value.int IntKind.i64 4, Value.string ⟨x.toArray⟩, Value.int IntKind.i64 p] 142)) cb cv ts.tail code) := h1.out.1.below (bl1 _ _)
  have HC1 : Hid (CC cb w (w1.alloc (Obj.cells #[Value.int IntKind.i64 4, Value.string ⟨x.toArray⟩, Value.int IntKind.i64 p] 142)) cv cv) := h1.out.2.trans (CC.below _ (bl1 _ _))
  have hlt1 : cb < w1.heap.size := h1.out.1.lt
  clear h1
  refine (bool_w false _).mono ?_
  rintro e w3 ⟨rfl, hb3⟩
  have HW3 : Hid (CW w3 cb cv ts.tail code) := HW1.out.below hb3
  have HC3 : Hid (CC cb w w3 cv cv) := HC1.out.trans (CC.below _ hb3)
  clear hb3 HW1 HC1
  go_wp2_with fail
  refine (cput_w _ cb cv ts.tail code (vB false) HW3 (by have := hb.out; omega)).mono ?_
  rintro e w4 ⟨rfl, h4⟩
  have H4 : Hid (CCs cb w cv w4 ts.tail (code ++ [iPut (vB false)])) := CCs.comp HC3.out h4.out
  clear h4
  go_wp2_with fail
  refine bodyPost_end (results_none rfl _ _ _) rfl ?_
  exact ⟨rfl, H4⟩
set_option maxRecDepth 100000 in
set_option maxHeartbeats 2000000 in
theorem atom_cell (w : World) (cb : Nat) (cv : Value) (ts : List Tk) (code : List Ins) (h : Hid (CW w cb cv ts code)) (hb : Hid (code.length + 100 * ts.length ≤ 90000)) (hkk : hk ts = 5) (c : Nat) (hc : Hid (cellN (hx ts) = some c)) :
    Calls Tryz.prog 261 #[.pointer (some ⟨cb, 0, none⟩)] w fun e w' => e = .returned (.tuple #[]) ∧ Hid (CCs cb w cv w' ts.tail (code ++ [iRead 1 c])) := by
  have htl : ts.tail.length + 1 = ts.length := hk_tail1 (by rw [hkk]; decide)
  have HT : Hid _ := htl
  obtain ⟨t0, ht0⟩ : ∃ t0, hd0 ts = t0 := ⟨_, rfl⟩
  have k1 := hk_hd ts
  have k2 := hx_hd ts
  have k3 := h.out.tok _ (hd_mem (ts := ts) (by rw [hkk]; decide))
  rw [ht0] at k1 k2 k3
  obtain ⟨k, x, p⟩ := t0
  dsimp only at k1 k2
  rw [hkk] at k1
  subst k1
  have HX : Hid _ := k2
  have HK : Hid (TkOK _) := k3
  have HT0 : Hid _ := ht0
  clear htl ht0 k2 k3 hkk
  go_enter Tryz.func261, Tryz.ntmps261
  go_wp2_with fail
  refine (ctake_w _ cb cv ts code h).mono ?_
  rintro e w1 ⟨rfl, h1⟩
  rw [HT0.out]
  unfold tkV
  go_wp2_with fail
  have HW1 : Hid (CW (w1.alloc (Obj.cells #[Value.int IntKind.i64 5, Value.string ⟨x.toArray⟩, Value.int IntKind.i64 p] 142)) cb cv ts.tail code) := h1.out.1.below (bl1 _ _)
  have HC1 : Hid (CC cb w (w1.alloc (Obj.cells #[Value.int IntKind.i64 5, Value.string ⟨x.toArray⟩, Value.int IntKind.i64 p] 142)) cv cv) := h1.out.2.trans (CC.below _ (bl1 _ _))
  have hlt1 : cb < w1.heap.size := h1.out.1.lt
  clear h1
  refine (num_some (s := ⟨x.toArray⟩) (c := c) (by have := hc.out; rw [← HX.out] at this; simpa using this) _).mono ?_
  rintro e w3 ⟨rfl, nq, hw3⟩
  have hb3 : Below ((w1.alloc (Obj.cells #[Value.int IntKind.i64 5, Value.string ⟨x.toArray⟩, Value.int IntKind.i64 p] 142))).heap.size (w1.alloc (Obj.cells #[Value.int IntKind.i64 5, Value.string ⟨x.toArray⟩, Value.int IntKind.i64 p] 142)) w3 := by rw [hw3]; exact below_drewN (Below.refl _ _) nq
  have HW3 : Hid (CW w3 cb cv ts.tail code) := HW1.out.below hb3
  have HC3 : Hid (CC cb w w3 cv cv) := HC1.out.trans (CC.below _ hb3)
  clear hb3 HW1 HC1 hw3
  go_wp2_with fail
  refine (emit_w _ cb cv ts.tail code (iRead 1 c) HW3 (by have := hb.out; omega)).mono ?_
  rintro e w4 ⟨rfl, h4⟩
  have H4 : Hid (CCs cb w cv w4 ts.tail (code ++ [iRead 1 c])) := CCs.comp HC3.out h4.out
  clear h4
  go_wp2_with fail
  refine bodyPost_end (results_none rfl _ _ _) rfl ?_
  exact ⟨rfl, H4⟩
set_option maxRecDepth 100000 in
set_option maxHeartbeats 2000000 in
theorem atom_open (w : World) (cb : Nat) (cv : Value) (ts : List Tk) (code : List Ins) (h : Hid (CW w cb cv ts code)) (hb : Hid (code.length + 100 * ts.length ≤ 90000)) (hkk : hk ts = 12) (f : Nat) (sub : CAL 219 0 f) (s1 : List Ins) (d1 : Beh) (r1 : List Tk) (hc : Hid (cmp f 0 code.length [] (retA vN) ts.tail = some (s1, d1, r1))) :
    Calls Tryz.prog 261 #[.pointer (some ⟨cb, 0, none⟩)] w fun e w' => e = .returned (.tuple #[]) ∧ Hid (CCs cb w cv w' r1.tail (code ++ s1)) := by
  have htl : ts.tail.length + 1 = ts.length := hk_tail1 (by rw [hkk]; decide)
  have HT : Hid _ := htl
  obtain ⟨t0, ht0⟩ : ∃ t0, hd0 ts = t0 := ⟨_, rfl⟩
  have k1 := hk_hd ts
  have k2 := hx_hd ts
  have k3 := h.out.tok _ (hd_mem (ts := ts) (by rw [hkk]; decide))
  rw [ht0] at k1 k2 k3
  obtain ⟨k, x, p⟩ := t0
  dsimp only at k1 k2
  rw [hkk] at k1
  subst k1
  have HX : Hid _ := k2
  have HK : Hid (TkOK _) := k3
  have HT0 : Hid _ := ht0
  clear htl ht0 k2 k3 hkk
  go_enter Tryz.func261, Tryz.ntmps261
  go_wp2_with fail
  refine (ctake_w _ cb cv ts code h).mono ?_
  rintro e w1 ⟨rfl, h1⟩
  rw [HT0.out]
  unfold tkV
  go_wp2_with fail
  have HW1 : Hid (CW (w1.alloc (Obj.cells #[Value.int IntKind.i64 12, Value.string ⟨x.toArray⟩, Value.int IntKind.i64 p] 142)) cb cv ts.tail code) := h1.out.1.below (bl1 _ _)
  have HC1 : Hid (CC cb w (w1.alloc (Obj.cells #[Value.int IntKind.i64 12, Value.string ⟨x.toArray⟩, Value.int IntKind.i64 p] 142)) cv cv) := h1.out.2.trans (CC.below _ (bl1 _ _))
  have hlt1 : cb < w1.heap.size := h1.out.1.lt
  clear h1
  have hb1 : code.length + 2 + 100 * ts.tail.length ≤ 90000 := by have := hb.out; have := HT.out; omega
  refine (sub _ cb cv ts.tail code s1 d1 r1 HW1 (by omega) hc).mono ?_
  rintro e w2 ⟨rfl, h2⟩
  obtain ⟨cv2, c2, g2⟩ := h2.out
  have HC2 : Hid _ := c2
  have HG2 : Hid (CC cb w w2 cv cv2) := HC1.out.trans g2
  clear h2 c2 g2 hb1 HW1 HC1
  go_wp2_with fail
  refine (ctake_w _ cb cv2 r1 _ HC2).mono ?_
  rintro e w4 ⟨rfl, h4⟩
  have H4 : Hid (CCs cb w cv w4 r1.tail (code ++ s1)) := ⟨cv2, h4.out.1, HG2.out.trans h4.out.2⟩
  unfold tkV
  clear h4
  go_wp2_with fail
  refine bodyPost_end (results_none rfl _ _ _) rfl ?_
  exact ⟨rfl, H4⟩
set_option maxRecDepth 100000 in
set_option maxHeartbeats 2000000 in
theorem atom_if (w : World) (cb : Nat) (cv : Value) (ts : List Tk) (code : List Ins) (h : Hid (CW w cb cv ts code)) (hb : Hid (code.length + 100 * ts.length ≤ 90000)) (hkk : hk ts = 6) (f : Nat) (sub : BRK f) (sub0 : CAL 219 0 f) (s1 s2 s3 : List Ins) (d1 d2 d3 : Beh) (r1 r2 r3 : List Tk) (hc1 : Hid (cmp f 0 code.length [] (retA vN) ts.tail.tail = some (s1, d1, r1))) (hc2 : Hid (cmp f 0 (code.length + s1.length + 1) [] (retA vN) r1.tail = some (s2, d2, r2))) (hc3 : Hid (cmp f 0 (code.length + s1.length + 1 + s2.length + 1) [] (retA vN) r2.tail = some (s3, d3, r3))) :
    Calls Tryz.prog 261 #[.pointer (some ⟨cb, 0, none⟩)] w fun e w' => e = .returned (.tuple #[]) ∧ Hid (CCs cb w cv w' r3.tail (code ++ (s1 ++ (iTo 13 (code.length + s1.length + 1 + s2.length + 1) :: (s2 ++ (iTo 14 (code.length + s1.length + 1 + s2.length + 1 + s3.length) :: s3)))))) := by
  have htl : ts.tail.length + 1 = ts.length := hk_tail1 (by rw [hkk]; decide)
  have HT : Hid _ := htl
  obtain ⟨t0, ht0⟩ : ∃ t0, hd0 ts = t0 := ⟨_, rfl⟩
  have k1 := hk_hd ts
  have k2 := hx_hd ts
  have k3 := h.out.tok _ (hd_mem (ts := ts) (by rw [hkk]; decide))
  rw [ht0] at k1 k2 k3
  obtain ⟨k, x, p⟩ := t0
  dsimp only at k1 k2
  rw [hkk] at k1
  subst k1
  have HX : Hid _ := k2
  have HK : Hid (TkOK _) := k3
  have HT0 : Hid _ := ht0
  clear htl ht0 k2 k3 hkk
  go_enter Tryz.func261, Tryz.ntmps261
  go_wp2_with fail
  refine (ctake_w _ cb cv ts code h).mono ?_
  rintro e w1 ⟨rfl, h1⟩
  rw [HT0.out]
  unfold tkV
  go_wp2_with fail
  have HW1 : Hid (CW (w1.alloc (Obj.cells #[Value.int IntKind.i64 6, Value.string ⟨x.toArray⟩, Value.int IntKind.i64 p] 142)) cb cv ts.tail code) := h1.out.1.below (bl1 _ _)
  have HC1 : Hid (CC cb w (w1.alloc (Obj.cells #[Value.int IntKind.i64 6, Value.string ⟨x.toArray⟩, Value.int IntKind.i64 p] 142)) cv cv) := h1.out.2.trans (CC.below _ (bl1 _ _))
  have hlt1 : cb < w1.heap.size := h1.out.1.lt
  clear h1
  have hb1 : code.length + 2 + 100 * ts.tail.length ≤ 90000 := by have := hb.out; have := HT.out; omega
  refine (cho_step f sub sub0 _ cb cv ts.tail code s1 s2 s3 d1 d2 d3 r1 r2 r3 HW1 hb1 hc1 hc2 hc3).mono ?_
  rintro e w4 ⟨rfl, h4⟩
  have H4 : Hid (CCs cb w cv w4 r3.tail (code ++ (s1 ++ (iTo 13 (code.length + s1.length + 1 + s2.length + 1) :: (s2 ++ (iTo 14 (code.length + s1.length + 1 + s2.length + 1 + s3.length) :: s3)))))) := CCs.comp HC1.out h4.out
  clear h4
  go_wp2_with fail
  refine bodyPost_end (results_none rfl _ _ _) rfl ?_
  exact ⟨rfl, H4⟩
set_option maxRecDepth 100000 in
set_option maxHeartbeats 2000000 in
theorem atom_at (w : World) (cb : Nat) (cv : Value) (ts : List Tk) (code : List Ins) (h : Hid (CW w cb cv ts code)) (hb : Hid (code.length + 100 * ts.length ≤ 90000)) (hkk : hk ts = 7) (f : Nat) (sub : BRK f) (s1 : List Ins) (d1 : Beh) (r1 : List Tk) (hc : Hid (cmp f 0 code.length [] (retA vN) ts.tail.tail = some (s1, d1, r1))) :
    Calls Tryz.prog 261 #[.pointer (some ⟨cb, 0, none⟩)] w fun e w' => e = .returned (.tuple #[]) ∧ Hid (CCs cb w cv w' r1.tail (code ++ (s1 ++ [iOp 3]))) := by
  have htl : ts.tail.length + 1 = ts.length := hk_tail1 (by rw [hkk]; decide)
  have HT : Hid _ := htl
  obtain ⟨t0, ht0⟩ : ∃ t0, hd0 ts = t0 := ⟨_, rfl⟩
  have k1 := hk_hd ts
  have k2 := hx_hd ts
  have k3 := h.out.tok _ (hd_mem (ts := ts) (by rw [hkk]; decide))
  rw [ht0] at k1 k2 k3
  obtain ⟨k, x, p⟩ := t0
  dsimp only at k1 k2
  rw [hkk] at k1
  subst k1
  have HX : Hid _ := k2
  have HK : Hid (TkOK _) := k3
  have HT0 : Hid _ := ht0
  clear htl ht0 k2 k3 hkk
  go_enter Tryz.func261, Tryz.ntmps261
  go_wp2_with fail
  refine (ctake_w _ cb cv ts code h).mono ?_
  rintro e w1 ⟨rfl, h1⟩
  rw [HT0.out]
  unfold tkV
  go_wp2_with fail
  have HW1 : Hid (CW (w1.alloc (Obj.cells #[Value.int IntKind.i64 7, Value.string ⟨x.toArray⟩, Value.int IntKind.i64 p] 142)) cb cv ts.tail code) := h1.out.1.below (bl1 _ _)
  have HC1 : Hid (CC cb w (w1.alloc (Obj.cells #[Value.int IntKind.i64 7, Value.string ⟨x.toArray⟩, Value.int IntKind.i64 p] 142)) cv cv) := h1.out.2.trans (CC.below _ (bl1 _ _))
  have hlt1 : cb < w1.heap.size := h1.out.1.lt
  clear h1
  have hb1 : code.length + 2 + 100 * ts.tail.length ≤ 90000 := by have := hb.out; have := HT.out; omega
  have hok := (cmp_ok f 0 _ [] (retA vN) ts.tail.tail s1 d1 r1 (by omega) hc.out (fun e => absurd e (by omega)) (fun _ => rfl)).2
  have HL : Hid (code.length + s1.length ≤ 90000) := by have := hk_tail ts.tail; unfold Hid; simp only [List.length_nil] at hok; omega
  clear hok
  refine (sub _ cb cv ts.tail code s1 d1 r1 HW1 (by omega) hc).mono ?_
  rintro e w2 ⟨rfl, h2⟩
  obtain ⟨cv2, c2, g2⟩ := h2.out
  have HC2 : Hid _ := c2
  have HG2 : Hid (CC cb w w2 cv cv2) := HC1.out.trans g2
  clear h2 c2 g2 hb1 HW1 HC1
  go_wp2_with fail
  refine (emit_w _ cb cv2 r1.tail (code ++ s1) (iOp 3) HC2 (by have := HL.out; simp only [List.length_append]; omega)).mono ?_
  rintro e w4 ⟨rfl, h4⟩
  have H4 : Hid (CCs cb w cv w4 r1.tail (code ++ (s1 ++ [iOp 3]))) := by
    unfold Hid
    have := CCs.comp HG2.out h4.out
    rw [List.append_assoc] at this; exact this
  clear h4
  go_wp2_with fail
  refine bodyPost_end (results_none rfl _ _ _) rfl ?_
  exact ⟨rfl, H4⟩
set_option maxRecDepth 100000 in
set_option maxHeartbeats 2000000 in
theorem atom_bad (w : World) (cb : Nat) (cv : Value) (ts : List Tk) (code : List Ins) (h : Hid (CW w cb cv ts code)) (hb : Hid (code.length + 100 * ts.length ≤ 90000)) (hkk : hk ts = 8) (f : Nat) (sub : BRK f) (s1 : List Ins) (d1 : Beh) (r1 : List Tk) (hc : Hid (cmp f 0 (code.length + 1) [] (retA vN) ts.tail.tail = some (s1, d1, r1))) :
    Calls Tryz.prog 261 #[.pointer (some ⟨cb, 0, none⟩)] w fun e w' => e = .returned (.tuple #[]) ∧ Hid (CCs cb w cv w' r1.tail (code ++ (iTo 15 (code.length + 1 + s1.length + 1) :: (s1 ++ [iOp 16])))) := by
  have htl : ts.tail.length + 1 = ts.length := hk_tail1 (by rw [hkk]; decide)
  have HT : Hid _ := htl
  obtain ⟨t0, ht0⟩ : ∃ t0, hd0 ts = t0 := ⟨_, rfl⟩
  have k1 := hk_hd ts
  have k2 := hx_hd ts
  have k3 := h.out.tok _ (hd_mem (ts := ts) (by rw [hkk]; decide))
  rw [ht0] at k1 k2 k3
  obtain ⟨k, x, p⟩ := t0
  dsimp only at k1 k2
  rw [hkk] at k1
  subst k1
  have HX : Hid _ := k2
  have HK : Hid (TkOK _) := k3
  have HT0 : Hid _ := ht0
  clear htl ht0 k2 k3 hkk
  go_enter Tryz.func261, Tryz.ntmps261
  go_wp2_with fail
  refine (ctake_w _ cb cv ts code h).mono ?_
  rintro e w1 ⟨rfl, h1⟩
  rw [HT0.out]
  unfold tkV
  go_wp2_with fail
  have HW1 : Hid (CW (w1.alloc (Obj.cells #[Value.int IntKind.i64 8, Value.string ⟨x.toArray⟩, Value.int IntKind.i64 p] 142)) cb cv ts.tail code) := h1.out.1.below (bl1 _ _)
  have HC1 : Hid (CC cb w (w1.alloc (Obj.cells #[Value.int IntKind.i64 8, Value.string ⟨x.toArray⟩, Value.int IntKind.i64 p] 142)) cv cv) := h1.out.2.trans (CC.below _ (bl1 _ _))
  have hlt1 : cb < w1.heap.size := h1.out.1.lt
  clear h1
  have hb1 : code.length + 2 + 100 * ts.tail.length ≤ 90000 := by have := hb.out; have := HT.out; omega
  refine (grd_step f sub _ cb cv ts.tail code s1 d1 r1 HW1 (by omega) hc).mono ?_
  rintro e w4 ⟨rfl, h4⟩
  have H4 : Hid (CCs cb w cv w4 r1.tail (code ++ (iTo 15 (code.length + 1 + s1.length + 1) :: (s1 ++ [iOp 16])))) := CCs.comp HC1.out h4.out
  clear h4
  go_wp2_with fail
  refine bodyPost_end (results_none rfl _ _ _) rfl ?_
  exact ⟨rfl, H4⟩
end Go.Proofs.YtlpmmmmniojflaaGreatDoor
