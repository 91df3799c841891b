/- Several sheets beside one another; alike. -/
import Derived.Test.YtlpmmmmniojflaaGreatDoorQ47
set_option linter.unusedVariables false
set_option linter.unusedSimpArgs false
namespace Go.Proofs.YtlpmmmmniojflaaGreatDoor
open Go.RowKit
section
variable {E : Env} {w0 w w' : World} {x y : Nat} {fl fs : Nat → ByteArray} {k k' : Kp}
theorem ShS.other (h : ShS E w0 w y fl fs k) (ho : Only x w w') (hx : w0.heap.size ≤ x) (hne : y ≠ x) (hr : ∀ cur, w.heap[x]? ≠ some (.cells cur 274 (0, 0))) : ShS E w0 w' y fl fs k :=
  ⟨h.bel.trans (ho.below hx h.bel.size), h.xB, h.sr.only ho hne hr, h.kinv, h.ft⟩
end
theorem alNums {i : Nat} (h : i < 48) : IntKind.i64.wrap ((i : Int) + 1) = (i : Int) + 1 ∧ wrap64 ((i : Int) + 1) = (i : Int) + 1 ∧ (i : Int) < 48 := ⟨by rw [IntKind.wrap_i64]; omega, by unfold wrap64; omega, by omega⟩
theorem al_meas {i : Nat} (h : i < 48) : (100 - ((i + 1 : Nat) : Int)).toNat < (100 - (i : Int)).toNat := by omega
theorem cell_nm {c : Nat} (h : c < 48) : cellN (⟨(nmT c).toArray⟩ : ByteArray).data.toList = some c := cellN_name h
set_option maxRecDepth 100000 in
set_option maxHeartbeats 4000000 in
theorem alike_w {W : World} {x y : Nat} {fs : Nat → ByteArray} {bd bd' : Nat → Int × Int} {k k' : Kp} (hx : Hid (SR W x fs bd k)) (hy : Hid (SR W y fs bd' k')) (hv : Hid (∀ c, c < 48 → (k'.last c).v = (k.last c).v)) :
    Calls Tryz.prog 31 #[.pointer (some ⟨x, 0, none⟩), .pointer (some ⟨y, 0, none⟩)] W fun e w' => e = .returned (.bool true) ∧ Below W.heap.size W w' := by
  go_enter Tryz.func31, Tryz.ntmps31
  go_wp2_with fail
  go_loopw [5] (fun s wr => ∃ i : Nat, s = .int .i64 i ∧ Hid (i ≤ 48) ∧ Hid (Below W.heap.size W wr)) (fun s _ => (100 - intOf s).toNat)
  case atStart => exact ⟨0, rfl, Nat.zero_le _, Below.refl _ _⟩
  case round =>
    obtain ⟨i, rfl, HI, HB⟩ := hrel
    by_cases hi : i < 48
    · obtain ⟨n1, n2, n3⟩ := alNums hi
      have HII : Hid (i < 48) := hi
      have HV : Hid ((k'.last i).v = (k.last i).v) := hv.out i hi
      clear hi HI
      go_wp2_with fail
      refine (name_any i HII.out _).mono ?_
      rintro e u1 ⟨rfl, b1⟩
      have HB1 : Hid (Below W.heap.size W u1) := HB.out.trans (b1.mono HB.out.size)
      clear b1 HB
      go_wp2_with fail
      refine (formula_some u1 x (hx.out.below HB1.out) _ i (cell_nm HII.out)).mono ?_
      rintro e u2 ⟨rfl, b2⟩
      have HB2 : Hid (Below W.heap.size W u2) := HB1.out.trans (b2.mono HB1.out.size)
      clear b2 HB1
      go_wp2_with fail
      refine (name_any i HII.out _).mono ?_
      rintro e u3 ⟨rfl, b3⟩
      have HB3 : Hid (Below W.heap.size W u3) := HB2.out.trans (b3.mono HB2.out.size)
      clear b3 HB2
      go_wp2_with fail
      refine (formula_some u3 y (hy.out.below HB3.out) _ i (cell_nm HII.out)).mono ?_
      rintro e u4 ⟨rfl, b4⟩
      have HB4 : Hid (Below W.heap.size W u4) := HB3.out.trans (b4.mono HB3.out.size)
      clear b4 HB3
      go_wp2_with fail
      refine (name_any i HII.out _).mono ?_
      rintro e u5 ⟨rfl, b5⟩
      have HB5 : Hid (Below W.heap.size W u5) := HB4.out.trans (b5.mono HB4.out.size)
      clear b5 HB4
      go_wp2_with fail
      refine (value_some u5 x (hx.out.below HB5.out) _ i (cell_nm HII.out)).mono ?_
      rintro e u6 ⟨rfl, b6⟩
      have HB6 : Hid (Below W.heap.size W u6) := HB5.out.trans (b6.mono HB5.out.size)
      clear b6 HB5
      obtain ⟨q, hq⟩ : ∃ q, (k.last i).v = q := ⟨_, rfl⟩
      rw [hq] at HV
      rw [hq]
      clear hq
      go_wp2_with fail
      have HQ7 : Hid ((u6.alloc (.cells #[.int .i64 q.k, .int .i64 q.n, .string q.s] 52)).heap[u6.heap.size]? = some (.cells #[.int .i64 q.k, .int .i64 q.n, .string q.s] 52 (0, 0))) := rnew _ _ _
      have HB7 : Hid (Below W.heap.size W (u6.alloc (.cells #[.int .i64 q.k, .int .i64 q.n, .string q.s] 52))) := HB6.out.alloc HB6.out.size _
      clear HB6
      generalize u6.alloc (.cells #[.int .i64 q.k, .int .i64 q.n, .string q.s] 52) = u7 at *
      generalize u6.heap.size = p7 at *
      refine (name_any i HII.out _).mono ?_
      rintro e u8 ⟨rfl, b8⟩
      have HB8 : Hid (Below W.heap.size W u8) := HB7.out.trans (b8.mono HB7.out.size)
      have HQ8 : Hid (u8.heap[p7]? = some (.cells #[.int .i64 q.k, .int .i64 q.n, .string q.s] 52 (0, 0))) := by unfold Hid; rw [b8.block _ (Array.getElem?_eq_some_iff.1 HQ7.out).1]; exact HQ7.out
      clear b8 HB7 HQ7
      go_wp2_with fail
      refine (value_some u8 y (hy.out.below HB8.out) _ i (cell_nm HII.out)).mono ?_
      rintro e u9 ⟨rfl, b9⟩
      have HB9 : Hid (Below W.heap.size W u9) := HB8.out.trans (b9.mono HB8.out.size)
      have HQ9 : Hid (u9.heap[p7]? = some (.cells #[.int .i64 q.k, .int .i64 q.n, .string q.s] 52 (0, 0))) := by unfold Hid; rw [b9.block _ (Array.getElem?_eq_some_iff.1 HQ8.out).1]; exact HQ8.out
      rw [HV.out]
      clear b9 HB8 HQ8
      have HLT : Hid (p7 < u9.heap.size) := (Array.getElem?_eq_some_iff.1 HQ9.out).1
      obtain ⟨z0, z1, z2, z3, z4, z5⟩ := box3 rfl (show (u9.alloc (.cells #[.int .i64 q.k, .int .i64 q.n, .string q.s] 52)).heap[p7]? = some (.cells #[.int .i64 q.k, .int .i64 q.n, .string q.s] 52 (0, 0)) by rw [Below.heap_alloc _ _ _ HLT.out]; exact HQ9.out)
      go_wp2_with fail
      exact ⟨⟨i + 1, rfl, HII.out, HB9.out.alloc HB9.out.size _⟩, al_meas HII.out⟩
    · have hge : ¬ (i : Int) < 48 := ge_c (n := 48) hi
      clear hi HI
      go_wp2_with fail
      go_ret
      exact ⟨rfl, HB.out⟩
end Go.Proofs.YtlpmmmmniojflaaGreatDoor
