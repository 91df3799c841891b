/- Texts put together. -/
import Derived.Test.YtiocnfambeochaaGreatDoorPa
import Derived.Test.YtiocnfambeochaaGreatDoorVd
import Derived.Test.YtiocnfambeochaaGreatDoorQ47
/- A sheet's Bound, walked; Work, Value and Edit where they refuse. -/
set_option linter.unusedVariables false
set_option linter.unusedSimpArgs false
namespace Go.Proofs.YtiocnfambeochaaGreatDoor
open Go.RowKit
def updB (bd : Nat → Int × Int) (c : Nat) (p : Int × Int) (i : Nat) : Int × Int := if i = c then p else bd i
section
variable {fs : Nat → ByteArray} {bd : Nat → Int × Int} {k : Kp}
theorem SR.setB {w : World} {x : Nat} (h : SR w x fs bd k) {c : Nat} (hc : c < 48) {lo hi : Int} (h1 : I64 lo) (h2 : I64 hi) :
    SR (w.setCells x (48 + c * 2) [.int .i64 lo, .int .i64 hi]) x fs (updB bd c (lo, hi)) k ∧ Only x w (w.setCells x (48 + c * 2) [.int .i64 lo, .int .i64 hi]) := by
  obtain ⟨cs, hb, hs⟩ := h.blk
  obtain ⟨cs', e1, e2, e3, e4⟩ := setCells_row [.int .i64 lo, .int .i64 hi] (48 + c * 2) w cs hb
  generalize w.setCells x (48 + c * 2) [.int .i64 lo, .int .i64 hi] = w' at *
  have hc' : ∀ t, w'.cell? ⟨x, t, none⟩ = cs'[t]? := fun t => cell_of_row _ _ t cs' 104 (0, 0) e1
  have hc0 : ∀ t, w.cell? ⟨x, t, none⟩ = cs[t]? := fun t => cell_of_row _ _ t cs 104 (0, 0) hb
  have hother : ∀ t, t < 48 + c * 2 ∨ 48 + c * 2 + 2 ≤ t → w'.cell? ⟨x, t, none⟩ = w.cell? ⟨x, t, none⟩ := fun t ht => by
    rw [hc', hc0, e3, if_neg (by simp only [List.length_cons, List.length_nil]; omega)]
  refine ⟨{ blk := ⟨cs', e1, by rw [e2, hs]⟩, fs := fun i hl => by rw [hother _ (by omega)]; exact h.fs i hl, bdr := fun i => ?_, bnd := fun i hl => ?_, kp := h.kp.keep (fun t ht => hother _ (by omega)) fun g cur hg _ => ⟨e4.block g (Array.getElem?_eq_some_iff.1 hg).1 (fun e => h.notRead cur (e ▸ hg)), trivial⟩ }, e4⟩
  · unfold updB
    by_cases e : i = c
    · rw [if_pos e]; exact ⟨h1, h2⟩
    · rw [if_neg e]; exact h.bdr i
  · unfold updB
    by_cases e : i = c
    · subst e
      rw [if_pos rfl, hc', hc', e3, e3, if_pos (by simp only [List.length_cons, List.length_nil, hs]; omega), if_pos (by simp only [List.length_cons, List.length_nil, hs]; omega)]
      rw [Nat.sub_self, show 48 + i * 2 + 1 - (48 + i * 2) = 1 by omega]
      exact ⟨rfl, rfl⟩
    · rw [if_neg e, hother _ (by omega), hother _ (by omega)]; exact h.bnd i hl
set_option maxHeartbeats 1000000 in
theorem bound_none (W : World) (x : Nat) (s : ByteArray) (hs : cellN s.data.toList = none) (lo hi : Int) :
    Calls Tryz.prog 38 #[.pointer (some ⟨x, 0, none⟩), .string s, .int .i64 lo, .int .i64 hi] W fun e w' => e = .returned (.int .i64 4) ∧ Below W.heap.size W w' := by
  have HS : Hid _ := hs
  clear hs
  go_enter Tryz.func38, Tryz.ntmps38
  go_wp2_with fail
  refine (num_none HS.out _).mono ?_
  rintro e w1 ⟨rfl, n, hw⟩
  have hb : Hid (Below W.heap.size W w1) := by unfold Hid; rw [hw]; exact below_drewN (Below.refl _ _) n
  clear hw
  go_wp2_with fail
  go_ret
  exact ⟨rfl, hb.out⟩
set_option maxHeartbeats 1000000 in
theorem bound_range (W : World) (x : Nat) (s : ByteArray) (c : Nat) (hs : cellN s.data.toList = some c) (lo hi : Int) (hlt : hi < lo) :
    Calls Tryz.prog 38 #[.pointer (some ⟨x, 0, none⟩), .string s, .int .i64 lo, .int .i64 hi] W fun e w' => e = .returned (.int .i64 7) ∧ Below W.heap.size W w' := by
  have HS : Hid _ := hs
  clear hs
  go_enter Tryz.func38, Tryz.ntmps38
  go_wp2_with fail
  refine (num_some HS.out _).mono ?_
  rintro e w1 ⟨rfl, n, hw⟩
  have hb : Hid (Below W.heap.size W w1) := by unfold Hid; rw [hw]; exact below_drewN (Below.refl _ _) n
  clear hw
  go_wp2_with fail
  go_ret
  exact ⟨rfl, hb.out⟩
set_option maxHeartbeats 1000000 in
theorem bound_ok (W : World) (x : Nat) (h : SR W x fs bd k) (s : ByteArray) (c : Nat) (hs : cellN s.data.toList = some c) (lo hi : Int) (hle : ¬ hi < lo) (h1 : I64 lo) (h2 : I64 hi) :
    Calls Tryz.prog 38 #[.pointer (some ⟨x, 0, none⟩), .string s, .int .i64 lo, .int .i64 hi] W fun e w' => e = .returned (.int .i64 0) ∧ Hid (SR w' x fs (updB bd c (lo, hi)) k ∧ Only x W w') := by
  have HC : Hid (c < 48) := cellN_lt hs
  have HSR : Hid (SR W x fs bd k) := h
  have HS : Hid _ := hs
  have HI : Hid (I64 lo ∧ I64 hi) := ⟨h1, h2⟩
  clear h hs h1 h2
  go_enter Tryz.func38, Tryz.ntmps38
  go_wp2_with fail
  refine (num_some HS.out _).mono ?_
  rintro e w1 ⟨rfl, n, hw⟩
  have hb : Hid (Below W.heap.size W w1) := by unfold Hid; rw [hw]; exact below_drewN (Below.refl _ _) n
  have HR1 : Hid (SR w1 x fs bd k) := HSR.out.below hb.out
  have HQ : Hid (SR (w1.setCells x (48 + c * 2) [.int .i64 lo, .int .i64 hi]) x fs (updB bd c (lo, hi)) k ∧ Only x W (w1.setCells x (48 + c * 2) [.int .i64 lo, .int .i64 hi])) := by
    obtain ⟨g1, g2⟩ := HR1.out.setB HC.out HI.out.1 HI.out.2
    exact ⟨g1, (Below.only hb.out x).trans g2⟩
  obtain ⟨b1, b2⟩ := HR1.out.bnd c HC.out
  have hci := lt_c HC.out
  obtain ⟨cs, hblk, _⟩ := HR1.out.blk
  have f0 : ∀ j, w1.frozen? ⟨x, j, none⟩ = false := fun j => by simp [World.frozen?, hblk]
  have f1 := f0 (48 + c * 2)
  have f2 := f0 (48 + c * 2 + 1)
  clear hw HSR hblk f0
  go_wp2_with fail
  go_ret
  exact ⟨rfl, HQ⟩
end
end Go.Proofs.YtiocnfambeochaaGreatDoor
/- Work and Value where they refuse. -/
set_option linter.unusedVariables false
set_option linter.unusedSimpArgs false
namespace Go.Proofs.YtiocnfambeochaaGreatDoor
open Go.RowKit
set_option maxHeartbeats 1000000 in
theorem value_none (W : World) (x : Nat) (s : ByteArray) (hs : cellN s.data.toList = none) :
    Calls Tryz.prog 29 #[.pointer (some ⟨x, 0, none⟩), .string s] W fun e w' => e = .returned (.tuple #[.agg #[.int .i64 0, .int .i64 0, .string ⟨#[]⟩], .int .i64 4]) ∧ Below W.heap.size W w' := by
  have HS : Hid _ := hs
  clear hs
  go_enter Tryz.func29, Tryz.ntmps29
  go_wp2_with fail
  refine (num_none HS.out _).mono ?_
  rintro e w1 ⟨rfl, n, hw⟩
  have HB : Hid (Below W.heap.size W w1) := by unfold Hid; rw [hw]; exact below_drewN (bl1 _ _) n
  have HR : Hid (w1.heap[W.heap.size]? = some (.cells #[.int .i64 0, .int .i64 0, .string ⟨#[]⟩] 52 (0, 0))) := by
    unfold Hid; rw [hw]; exact rnew W _ _
  obtain ⟨z0, z1, z2, z3, z4, z5⟩ := box3 rfl HR.out
  clear hw
  go_wp2_with fail
  refine bodyPost_ret (results_ct rfl _ _ _ ⟨W.heap.size, 0, none⟩ _ _ rfl (load52 (rset (rset (rset HR.out))) rfl)) rfl ?_
  exact ⟨rfl, by repeat (first | exact HB.out | refine Below.setCell ?_ (by dsimp only; omega) _)⟩
theorem load72 {W : World} {q : Nat} {v : Value} (h : W.heap[q]? = some (.cells #[v] 72 (0, 0))) : (loadVar 72 ⟨q, 0, none⟩).run Tryz.prog W = .ok (.agg #[v]) W :=
  run_loadVar_row _ _ 72 72 #[v] (0, 0) _ h Tryz.underlying72 rfl (by kernel_rfl)
set_option maxHeartbeats 1000000 in
theorem work_order (W : World) (x : Nat) :
    Calls Tryz.prog 37 #[.pointer (some ⟨x, 0, none⟩), .int .i64 3, .int .i64 0] W fun e w' => e = .returned (.tuple #[.agg #[.slice none 0 0], .int .i64 6]) ∧ Below W.heap.size W w' := by
  go_enter Tryz.func37, Tryz.ntmps37
  go_wp2_with fail
  refine bodyPost_ret (results_ct rfl _ _ _ ⟨W.heap.size, 0, none⟩ _ _ rfl (load72 (rnew _ _ _))) rfl ?_
  exact ⟨rfl, by repeat (first | exact bl1 _ _ | refine Below.setCell ?_ (by dsimp only; omega) _)⟩
set_option maxHeartbeats 1000000 in
theorem work_way (W : World) (x : Nat) :
    Calls Tryz.prog 37 #[.pointer (some ⟨x, 0, none⟩), .int .i64 0, .int .i64 (-1)] W fun e w' => e = .returned (.tuple #[.agg #[.slice none 0 0], .int .i64 6]) ∧ Below W.heap.size W w' := by
  go_enter Tryz.func37, Tryz.ntmps37
  go_wp2_with fail
  refine bodyPost_ret (results_ct rfl _ _ _ ⟨W.heap.size, 0, none⟩ _ _ rfl (load72 (rnew _ _ _))) rfl ?_
  exact ⟨rfl, by repeat (first | exact bl1 _ _ | refine Below.setCell ?_ (by dsimp only; omega) _)⟩
end Go.Proofs.YtiocnfambeochaaGreatDoor
/- Plain mathematics: the edits of the statement Firm. -/
set_option linter.unusedVariables false
set_option linter.unusedSimpArgs false
namespace Go.Proofs.YtiocnfambeochaaGreatDoor
def bdF : Nat → Int × Int := updB bd0 47 (-5, 5)
def f11 : ByteArray := ⟨#[49, 32, 43, 32, 49]⟩
def f5 : ByteArray := ⟨#[45, 53]⟩
def f86 : ByteArray := ⟨#[70, 56, 32, 43, 32, 54]⟩
def fmL : List (ByteArray × ByteArray) := [(⟨#[65, 49]⟩, f11), (⟨#[66, 49]⟩, ⟨#[]⟩), (⟨#[70, 56]⟩, ⟨#[50]⟩)]
def fmB : List (ByteArray × ByteArray) := [(⟨#[65, 57]⟩, ⟨#[49]⟩), (⟨#[71, 49]⟩, ⟨#[49]⟩), (⟨#[]⟩, ⟨#[40]⟩), (⟨#[65, 49]⟩, ⟨#[49, 32, 43]⟩), (⟨#[65, 49]⟩, ⟨#[65, 57]⟩), (⟨#[65, 49]⟩, ⟨#[50, 32, 43, 32, 115, 117, 109, 40, 66, 50, 58, 65, 49, 41]⟩), (⟨#[65, 49]⟩, ⟨#[49, 32, 36, 32, 50]⟩), (⟨#[70, 56]⟩, ⟨#[54]⟩), (⟨#[70, 56]⟩, ⟨#[45, 54]⟩), (⟨#[65, 49]⟩, ⟨#[34, 120]⟩), (⟨#[65, 49]⟩, ⟨#[115, 117, 109, 40, 65, 49, 58, 70, 51, 41]⟩), (⟨#[65, 49]⟩, ⟨#[105, 102, 40, 49, 44, 32, 50, 41]⟩)]
def fmE : List Int := [4, 4, 4, 3, 4, 4, 2, 5, 5, 2, 4, 3]
def fmP : List Nat := [0, 0, 0, 3, 0, 8, 2, 0, 0, 0, 4, 7]
theorem fm_ck : ∀ i, i < 12 → (ckP bdF (fmB.getD i (eB, eB)).1 (fmB.getD i (eB, eB)).2).e = fmE.getD i 0 ∧ (ckP bdF (fmB.getD i (eB, eB)).1 (fmB.getD i (eB, eB)).2).p = fmP.getD i 0
  | 0, _ => ⟨by kernel_rfl, by kernel_rfl⟩
  | 1, _ => ⟨by kernel_rfl, by kernel_rfl⟩
  | 2, _ => ⟨by kernel_rfl, by kernel_rfl⟩
  | 3, _ => ⟨by kernel_rfl, by kernel_rfl⟩
  | 4, _ => ⟨by kernel_rfl, by kernel_rfl⟩
  | 5, _ => ⟨by kernel_rfl, by kernel_rfl⟩
  | 6, _ => ⟨by kernel_rfl, by kernel_rfl⟩
  | 7, _ => ⟨by kernel_rfl, by kernel_rfl⟩
  | 8, _ => ⟨by kernel_rfl, by kernel_rfl⟩
  | 9, _ => ⟨by kernel_rfl, by kernel_rfl⟩
  | 10, _ => ⟨by kernel_rfl, by kernel_rfl⟩
  | 11, _ => ⟨by kernel_rfl, by kernel_rfl⟩
  | i + 12, h => by omega
theorem fm_nz : ∀ i, i < 12 → fmE.getD i 0 ≠ 0 := by decide
theorem ck_a : ckP bdF ⟨#[65, 49]⟩ f11 = ⟨0, 0, 0, f11⟩ := by kernel_rfl
theorem ck_b : ckP bdF ⟨#[66, 49]⟩ ⟨#[]⟩ = ⟨0, 0, 1, eB⟩ := by kernel_rfl
theorem ck_c : ckP bdF ⟨#[70, 56]⟩ ⟨#[50]⟩ = ⟨0, 0, 47, ⟨#[50]⟩⟩ := by kernel_rfl
theorem ck_d : ckP bdF ⟨#[70, 56]⟩ f5 = ⟨0, 0, 47, f5⟩ := by kernel_rfl
theorem ck_e : ckP bdF ⟨#[69, 56]⟩ f86 = ⟨0, 0, 46, f86⟩ := by kernel_rfl
def fm3 (fs : Nat → ByteArray) : Nat → ByteArray := updF (updF (updF fs 0 f11) 1 eB) 47 ⟨#[50]⟩
theorem fm_pre (l : List (ByteArray × ByteArray)) (fs : Nat → ByteArray) : edR bdF 0 (fmL ++ l) fs = edR bdF 3 l (fm3 fs) := by
  unfold fmL fm3
  simp only [List.cons_append, List.nil_append, edR, ck_a, ck_b, ck_c]
  rfl
theorem fm_bad {i : Nat} (h : i < 12) (fs : Nat → ByteArray) : edR bdF 0 (fmL ++ [fmB.getD i (eB, eB)]) fs = ⟨fmE.getD i 0, 3, fmP.getD i 0, fm3 fs⟩ := by
  obtain ⟨h1, h2⟩ := fm_ck i h
  rw [fm_pre]
  unfold edR
  rw [if_pos (by rw [h1]; exact fm_nz i h), h1, h2]
def fmT : List (ByteArray × ByteArray) := [(⟨#[70, 56]⟩, f5), (⟨#[69, 56]⟩, f86)]
def fmZ (fs : Nat → ByteArray) : Nat → ByteArray := updF (updF (fm3 fs) 47 f5) 46 f86
theorem fm_last (fs : Nat → ByteArray) : edR bdF 0 (fmL ++ fmT) fs = ⟨0, 0, 0, fmZ fs⟩ := by
  rw [fm_pre]
  unfold fmZ fmT
  simp only [edR, ck_d, ck_e]
  rfl
theorem txt_f11 : TxtOK f11 (binA 5 (retA (vI 1)) (retA (vI 1))) := txt_of (l := [49, 32, 43, 32, 49]) (g := [tNum [49]] ++ tOp 0 :: [tNum [49]]) (by kernel_rfl) (by kernel_rfl) (by kernel_rfl) (by kernel_rfl) (by kernel_rfl) (cg_plus (o := tOp 0) (by decide) (cg_n [49] 1 rfl (by omega)) (cg_n [49] 1 rfl (by omega)))
theorem txt_f86 : TxtOK f86 (binA 5 (rdc 47) (retA (vI 6))) := txt_of (l := [70, 56, 32, 43, 32, 54]) (g := [tCell 47] ++ tOp 0 :: [tNum [54]]) (by kernel_rfl) (by kernel_rfl) (by kernel_rfl) (by kernel_rfl) (by kernel_rfl) (cg_plus (o := tOp 0) (by decide) (cg_cell (by omega)) (cg_n [54] 6 rfl (by omega)))
theorem txt_f5 : TxtOK f5 (dLit (-5)) := by
  have h := txt_lit (-5) (by omega)
  have e : (⟨(Lib.itoa (-5)).toArray⟩ : ByteArray) = f5 := by kernel_rfl
  rw [e] at h; exact h
theorem txt_f2 : TxtOK (⟨#[50]⟩ : ByteArray) (retA (vI (2 : Nat))) := by
  have h := txt_num (n := 2) (by omega)
  have e : (⟨(Lib.decDigits 2).toArray⟩ : ByteArray) = ⟨#[50]⟩ := by kernel_rfl
  rw [e] at h; exact h
theorem FsT.none {fs : Nat → ByteArray} (h : FsT fs) (c : Nat) : FsT (updF fs c eB) := by
  refine ⟨fun i hi => ?_, fun i hi => ?_⟩
  · unfold updF at hi ⊢
    by_cases e : i = c
    · rw [if_pos e] at hi; exact absurd rfl hi
    · rw [if_neg e] at hi ⊢; exact h.t i hi
  · unfold updF
    by_cases e : i = c
    · rw [if_pos e]
    · rw [if_neg e]; exact h.out i hi
theorem fmZ_ft {fs : Nat → ByteArray} (h : FsT fs) : FsT (fmZ fs) := ((((h.upd txt_f11 (by omega)).none 1).upd txt_f2 (by omega)).upd txt_f5 (by omega)).upd txt_f86 (by omega)
section
variable {E : Env} {fs : Nat → ByteArray} {val : Nat → V}
theorem fm_v47 (hE : EnvOK E) (h : fs 47 = f5) (hv : ∀ c, Val E.D fs c (val c)) : val 47 = vI (-5) := by
  refine (val_of hv (c := 47) (by rw [h]; exact txt_f5.ne) (rs := []) (by rw [h, txt_f5.D hE]; trivial) (Hold.nil _) ?_).1
  rw [h, txt_f5.D hE]; kernel_rfl
theorem fm_v0 (hE : EnvOK E) (h : fs 0 = f11) (hv : ∀ c, Val E.D fs c (val c)) : val 0 = vI 2 := by
  refine (val_of hv (c := 0) (by rw [h]; exact txt_f11.ne) (rs := []) trivial (Hold.nil _) ?_).1
  rw [h, txt_f11.D hE]; kernel_rfl
theorem fm_v46 (hE : EnvOK E) (h : fs 46 = f86) (h47 : fs 47 = f5) (hv : ∀ c, Val E.D fs c (val c)) : val 46 = vI 1 := by
  have h7 := fm_v47 hE h47 hv
  refine (val_of hv (c := 46) (by rw [h]; exact txt_f86.ne) (rs := [⟨⟨47, false⟩, vI (-5)⟩]) ?_ ?_ ?_).1
  · rw [h, txt_f86.D hE]; exact ⟨rfl, trivial⟩
  · intro r hr
    rw [List.mem_singleton] at hr
    subst hr
    rw [h7]
    exact ⟨rfl, by unfold cyc vE vI; simp⟩
  · rw [h, txt_f86.D hE]; kernel_rfl
end
theorem val_same {E : Env} {fs : Nat → ByteArray} {a b : Nat → V} (ha : ∀ c, Val E.D fs c (a c)) (hb : ∀ c, Val E.D fs c (b c)) (c : Nat) : a c = b c := (ha c).same (hb c)
end Go.Proofs.YtiocnfambeochaaGreatDoor
/- Several sheets beside one another; alike. -/
set_option linter.unusedVariables false
set_option linter.unusedSimpArgs false
namespace Go.Proofs.YtiocnfambeochaaGreatDoor
open Go.RowKit
section
variable {E : Env} {w0 w w' : World} {x y : Nat} {fl fs : Nat → ByteArray} {k k' : Kp}
theorem ShS.other (h : ShS E w0 w y fl fs k) (ho : Only x w w') (hx : w0.heap.size ≤ x) (hne : y ≠ x) (hr : ∀ cur, w.heap[x]? ≠ some (.cells cur 274 (0, 0))) : ShS E w0 w' y fl fs k :=
  ⟨h.bel.trans (ho.below hx h.bel.size), h.xB, h.sr.only ho hne hr, h.kinv, h.ft⟩
end
theorem alNums {i : Nat} (h : i < 48) : IntKind.i64.wrap ((i : Int) + 1) = (i : Int) + 1 ∧ wrap64 ((i : Int) + 1) = (i : Int) + 1 ∧ (i : Int) < 48 := ⟨by rw [IntKind.wrap_i64]; omega, by unfold wrap64; omega, by omega⟩
theorem al_meas {i : Nat} (h : i < 48) : (100 - ((i + 1 : Nat) : Int)).toNat < (100 - (i : Int)).toNat := by omega
theorem cell_nm {c : Nat} (h : c < 48) : cellN (⟨(nmT c).toArray⟩ : ByteArray).data.toList = some c := cellN_name h
set_option maxRecDepth 100000 in
set_option maxHeartbeats 4000000 in
theorem alike_w {W : World} {x y : Nat} {fs : Nat → ByteArray} {bd bd' : Nat → Int × Int} {k k' : Kp} (hx : Hid (SR W x fs bd k)) (hy : Hid (SR W y fs bd' k')) (hv : Hid (∀ c, c < 48 → (k'.last c).v = (k.last c).v)) :
    Calls Tryz.prog 31 #[.pointer (some ⟨x, 0, none⟩), .pointer (some ⟨y, 0, none⟩)] W fun e w' => e = .returned (.bool true) ∧ Below W.heap.size W w' := by
  go_enter Tryz.func31, Tryz.ntmps31
  go_wp2_with fail
  go_loopw [5] (fun s wr => ∃ i : Nat, s = .int .i64 i ∧ Hid (i ≤ 48) ∧ Hid (Below W.heap.size W wr)) (fun s _ => (100 - intOf s).toNat)
  case atStart => exact ⟨0, rfl, Nat.zero_le _, Below.refl _ _⟩
  case round =>
    obtain ⟨i, rfl, HI, HB⟩ := hrel
    by_cases hi : i < 48
    · obtain ⟨n1, n2, n3⟩ := alNums hi
      have HII : Hid (i < 48) := hi
      have HV : Hid ((k'.last i).v = (k.last i).v) := hv.out i hi
      clear hi HI
      go_wp2_with fail
      refine (name_any i HII.out _).mono ?_
      rintro e u1 ⟨rfl, b1⟩
      have HB1 : Hid (Below W.heap.size W u1) := HB.out.trans (b1.mono HB.out.size)
      clear b1 HB
      go_wp2_with fail
      refine (formula_some u1 x (hx.out.below HB1.out) _ i (cell_nm HII.out)).mono ?_
      rintro e u2 ⟨rfl, b2⟩
      have HB2 : Hid (Below W.heap.size W u2) := HB1.out.trans (b2.mono HB1.out.size)
      clear b2 HB1
      go_wp2_with fail
      refine (name_any i HII.out _).mono ?_
      rintro e u3 ⟨rfl, b3⟩
      have HB3 : Hid (Below W.heap.size W u3) := HB2.out.trans (b3.mono HB2.out.size)
      clear b3 HB2
      go_wp2_with fail
      refine (formula_some u3 y (hy.out.below HB3.out) _ i (cell_nm HII.out)).mono ?_
      rintro e u4 ⟨rfl, b4⟩
      have HB4 : Hid (Below W.heap.size W u4) := HB3.out.trans (b4.mono HB3.out.size)
      clear b4 HB3
      go_wp2_with fail
      refine (name_any i HII.out _).mono ?_
      rintro e u5 ⟨rfl, b5⟩
      have HB5 : Hid (Below W.heap.size W u5) := HB4.out.trans (b5.mono HB4.out.size)
      clear b5 HB4
      go_wp2_with fail
      refine (value_some u5 x (hx.out.below HB5.out) _ i (cell_nm HII.out)).mono ?_
      rintro e u6 ⟨rfl, b6⟩
      have HB6 : Hid (Below W.heap.size W u6) := HB5.out.trans (b6.mono HB5.out.size)
      clear b6 HB5
      obtain ⟨q, hq⟩ : ∃ q, (k.last i).v = q := ⟨_, rfl⟩
      rw [hq] at HV
      rw [hq]
      clear hq
      go_wp2_with fail
      have HQ7 : Hid ((u6.alloc (.cells #[.int .i64 q.k, .int .i64 q.n, .string q.s] 52)).heap[u6.heap.size]? = some (.cells #[.int .i64 q.k, .int .i64 q.n, .string q.s] 52 (0, 0))) := rnew _ _ _
      have HB7 : Hid (Below W.heap.size W (u6.alloc (.cells #[.int .i64 q.k, .int .i64 q.n, .string q.s] 52))) := HB6.out.alloc HB6.out.size _
      clear HB6
      generalize u6.alloc (.cells #[.int .i64 q.k, .int .i64 q.n, .string q.s] 52) = u7 at *
      generalize u6.heap.size = p7 at *
      refine (name_any i HII.out _).mono ?_
      rintro e u8 ⟨rfl, b8⟩
      have HB8 : Hid (Below W.heap.size W u8) := HB7.out.trans (b8.mono HB7.out.size)
      have HQ8 : Hid (u8.heap[p7]? = some (.cells #[.int .i64 q.k, .int .i64 q.n, .string q.s] 52 (0, 0))) := by unfold Hid; rw [b8.block _ (Array.getElem?_eq_some_iff.1 HQ7.out).1]; exact HQ7.out
      clear b8 HB7 HQ7
      go_wp2_with fail
      refine (value_some u8 y (hy.out.below HB8.out) _ i (cell_nm HII.out)).mono ?_
      rintro e u9 ⟨rfl, b9⟩
      have HB9 : Hid (Below W.heap.size W u9) := HB8.out.trans (b9.mono HB8.out.size)
      have HQ9 : Hid (u9.heap[p7]? = some (.cells #[.int .i64 q.k, .int .i64 q.n, .string q.s] 52 (0, 0))) := by unfold Hid; rw [b9.block _ (Array.getElem?_eq_some_iff.1 HQ8.out).1]; exact HQ8.out
      rw [HV.out]
      clear b9 HB8 HQ8
      have HLT : Hid (p7 < u9.heap.size) := (Array.getElem?_eq_some_iff.1 HQ9.out).1
      obtain ⟨z0, z1, z2, z3, z4, z5⟩ := box3 rfl (show (u9.alloc (.cells #[.int .i64 q.k, .int .i64 q.n, .string q.s] 52)).heap[p7]? = some (.cells #[.int .i64 q.k, .int .i64 q.n, .string q.s] 52 (0, 0)) by rw [Below.heap_alloc _ _ _ HLT.out]; exact HQ9.out)
      go_wp2_with fail
      exact ⟨⟨i + 1, rfl, HII.out, HB9.out.alloc HB9.out.size _⟩, al_meas HII.out⟩
    · have hge : ¬ (i : Int) < 48 := ge_c (n := 48) hi
      clear hi HI
      go_wp2_with fail
      go_ret
      exact ⟨rfl, HB.out⟩
end Go.Proofs.YtiocnfambeochaaGreatDoor
/- A sheet with bounds, in a statement. -/
set_option linter.unusedVariables false
set_option linter.unusedSimpArgs false
namespace Go.Proofs.YtiocnfambeochaaGreatDoor
open Go.RowKit
structure ShB (E : Env) (bd : Nat → Int × Int) (w0 w : World) (x : Nat) (fl fs : Nat → ByteArray) (k : Kp) : Prop where
  bel : Below w0.heap.size w0 w
  xB : w0.heap.size ≤ x
  sr : SR w x fs bd k
  kinv : KInv E fl k
  ft : FsT fs
section
variable {E : Env} {bd : Nat → Int × Int} {w0 w w' : World} {x y : Nat} {fl fs : Nat → ByteArray} {k k' : Kp}
theorem ShB.below (h : ShB E bd w0 w x fl fs k) (hb : Below w.heap.size w w') : ShB E bd w0 w' x fl fs k := ⟨h.bel.trans (hb.mono h.bel.size), h.xB, h.sr.below hb, h.kinv, h.ft⟩
theorem ShB.bel' (h : ShB E bd w0 w x fl fs k) (ho : Only x w w') : Below w0.heap.size w0 w' := h.bel.trans (Only.below ho h.xB h.bel.size)
theorem ShB.other (h : ShB E bd w0 w y fl fs k) (ho : Only x w w') (hx : w0.heap.size ≤ x) (hne : y ≠ x) (hr : ∀ cur, w.heap[x]? ≠ some (.cells cur 274 (0, 0))) : ShB E bd w0 w' y fl fs k :=
  ⟨h.bel.trans (ho.below hx h.bel.size), h.xB, h.sr.only ho hne hr, h.kinv, h.ft⟩
theorem bound_s (h : Hid (ShS E w0 w x fl fs k)) :
    Calls Tryz.prog 38 #[.pointer (some ⟨x, 0, none⟩), .string ⟨#[70, 56]⟩, .int .i64 (-5), .int .i64 5] w fun e w' => e = .returned (.int .i64 0) ∧ Hid (ShB E bdF w0 w' x fl fs k ∧ Only x w w') := by
  refine (bound_ok w x h.out.sr ⟨#[70, 56]⟩ 47 (by decide) (-5) 5 (by decide) (by unfold I64; omega) (by unfold I64; omega)).mono ?_
  rintro e w' ⟨rfl, g⟩
  exact ⟨rfl, ⟨h.out.bel' g.out.2, h.out.xB, g.out.1, h.out.kinv, h.out.ft⟩, g.out.2⟩
theorem worked_b (hE : Hid (EnvOK E)) (hA : Hid (Amb w0)) (h : Hid (ShB E bd w0 w x fl fs k)) (how : Int) (hh : Hid (I64 how)) :
    Calls Tryz.prog 26 #[.pointer (some ⟨x, 0, none⟩), .int .i64 how] w fun e w' => ∃ v k' bg, e = .returned (.tuple #[v, .bool true]) ∧ Hid (ShB E bd w0 w' x fs fs k' ∧ WorkP E k fs (pk how 9 / 3) (pk how 9 % 3) k' bg ∧ Only x w w') := by
  have hp := pk_lt how (n := 9) (by omega)
  refine (worked26 hE w x how hh fl fs bd k h.out.sr (EVc.ofVar (hA.out.below h.out.bel).1) h.out.kinv (h.out.ft.ok hE.out).1 (h.out.ft.ok hE.out).2).mono ?_
  rintro e w' ⟨v, k', bg, rfl, h1⟩
  obtain ⟨g1, g2, g3, g4, g5⟩ := h1.out
  exact ⟨v, k', bg, rfl, ⟨h.out.bel' g3, h.out.xB, g2, g1.inv hE.out h.out.kinv h.out.ft (by omega), h.out.ft⟩, g1, g3⟩
theorem is_b (h : Hid (ShB E bd w0 w x fl fs k)) {cl : ByteArray} {c : Nat} (hc : Hid (cellN cl.data.toList = some c)) (n : Int) {v : V} (hv : (k.last c).v = v) :
    Calls Tryz.prog 27 #[.pointer (some ⟨x, 0, none⟩), .string cl, .int .i64 n] w fun e w' => e = .returned (.bool (v.eqB (vI n))) ∧ Hid (ShB E bd w0 w' x fl fs k ∧ Below w.heap.size w w') := by
  refine (is_w w x h.out.sr cl c hc n).mono ?_
  rintro e w' ⟨rfl, hb⟩
  rw [hv]
  exact ⟨rfl, h.out.below hb, hb⟩
theorem refused_b (hA : Hid (Amb w0)) (h : Hid (ShB E bdF w0 w x fl fs k)) {v : Value} {i : Nat} (hi : Hid (i < 12)) (hv : Hid (Slc w 68 2 v 4 ((fmL ++ [fmB.getD i (eB, eB)]).flatMap edC))) :
    Calls Tryz.prog 35 #[.pointer (some ⟨x, 0, none⟩), v] w fun e w' => e = .returned (.tuple #[.int .i64 (fmE.getD i 0), .int .i64 3, .int .i64 (fmP.getD i 0 : Nat)]) ∧ Below w.heap.size w w' := by
  have hx : ∀ i, i < 12 → ∀ e ∈ fmL ++ [fmB.getD i (eB, eB)], e.2.size ≤ 20 := by decide
  have hed := fm_bad hi.out fs
  refine (edit_any w x v (fmL ++ [fmB.getD i (eB, eB)]) h.out.sr (hA.out.below h.out.bel) hv (by show 4 ≤ 8; decide) (fun e he => Nat.le_trans (hx i hi.out e he) (by decide))).mono ?_
  rintro e w' ⟨rfl, g⟩
  rw [hed] at g ⊢
  exact ⟨rfl, g.out.1 (fm_nz i hi.out)⟩
theorem taken_b (hA : Hid (Amb w0)) (h : Hid (ShB E bdF w0 w x fl fs k)) {v : Value} (hv : Hid (Slc w 68 2 v 5 ((fmL ++ fmT).flatMap edC))) :
    Calls Tryz.prog 35 #[.pointer (some ⟨x, 0, none⟩), v] w fun e w' => e = .returned (.tuple #[.int .i64 0, .int .i64 0, .int .i64 0]) ∧ Hid (ShB E bdF w0 w' x fl (fmZ fs) k) := by
  have hx : ∀ e ∈ fmL ++ fmT, e.2.size ≤ 20 := by decide
  have hed := fm_last fs
  refine (edit_any w x v (fmL ++ fmT) h.out.sr (hA.out.below h.out.bel) hv (by show 5 ≤ 8; decide) (fun e he => Nat.le_trans (hx e he) (by decide))).mono ?_
  rintro e w' ⟨rfl, g⟩
  rw [hed] at g ⊢
  obtain ⟨g1, g2⟩ := g.out.2 rfl
  exact ⟨rfl, h.out.bel' g1, h.out.xB, g2, h.out.kinv, fmZ_ft h.out.ft⟩
end
end Go.Proofs.YtiocnfambeochaaGreatDoor
/- The literal slices of the statement Firm. -/
set_option linter.unusedVariables false
set_option linter.unusedSimpArgs false
namespace Go.Proofs.YtiocnfambeochaaGreatDoor
open Go.RowKit
def fmEV : List Value := fmE.map (Value.int .i64)
def fmPV : List Value := fmP.map fun p : Nat => Value.int .i64 (p : Int)
structure FmS (u : World) (n : Nat) : Prop where
  a : u.heap[n]? = some (.cells (fmL.flatMap edC).toArray 68 (0, 0))
  b : u.heap[n + 1]? = some (.cells (fmB.flatMap edC).toArray 68 (0, 0))
  c : u.heap[n + 1 + 1]? = some (.cells fmEV.toArray 33 (0, 0))
  d : u.heap[n + 1 + 1 + 1]? = some (.cells fmPV.toArray 3 (0, 0))
theorem four_new (u : World) (A B C D : Array Value) : ∃ U, U = ((((u.alloc (.cells A 68)).alloc (.cells B 68)).alloc (.cells C 33)).alloc (.cells D 3)) ∧ U.heap[u.heap.size]? = some (.cells A 68 (0, 0)) ∧ U.heap[u.heap.size + 1]? = some (.cells B 68 (0, 0)) ∧ U.heap[u.heap.size + 1 + 1]? = some (.cells C 33 (0, 0)) ∧ U.heap[u.heap.size + 1 + 1 + 1]? = some (.cells D 3 (0, 0)) := by
  have z : ∀ (v : World) (o : Obj), (v.alloc o).heap.size = v.heap.size + 1 := fun v o => by simp
  have k : ∀ (v : World) (o : Obj) (j : Nat), j < v.heap.size → (v.alloc o).heap[j]? = v.heap[j]? := fun v o j hj => (bl1 v o).block j hj
  refine ⟨_, rfl, ?_, ?_, ?_, ?_⟩
  · rw [k _ _ _ (by rw [z, z, z]; omega), k _ _ _ (by rw [z, z]; omega), k _ _ _ (by rw [z]; omega)]; exact rnew u A 68
  · rw [k _ _ _ (by rw [z, z, z]; omega), k _ _ _ (by rw [z, z]; omega), ← z u (.cells A 68)]; exact rnew _ B 68
  · rw [k _ _ _ (by rw [z, z, z]; omega), ← z u (.cells A 68), ← z _ (.cells B 68)]; exact rnew _ C 33
  · rw [← z u (.cells A 68), ← z _ (.cells B 68), ← z _ (.cells C 33)]; exact rnew _ D 3
theorem fmS_new (u : World) : FmS ((((u.alloc (.cells (fmL.flatMap edC).toArray 68)).alloc (.cells (fmB.flatMap edC).toArray 68)).alloc (.cells fmEV.toArray 33)).alloc (.cells fmPV.toArray 3)) u.heap.size := by
  obtain ⟨U, rfl, h1, h2, h3, h4⟩ := four_new u (fmL.flatMap edC).toArray (fmB.flatMap edC).toArray fmEV.toArray fmPV.toArray
  exact ⟨h1, h2, h3, h4⟩
theorem FmS.below {u u' : World} {n : Nat} (h : FmS u n) (hb : Below u.heap.size u u') : FmS u' n := by
  refine ⟨?_, ?_, ?_, ?_⟩
  · rw [hb.block _ (Array.getElem?_eq_some_iff.1 h.a).1]; exact h.a
  · rw [hb.block _ (Array.getElem?_eq_some_iff.1 h.b).1]; exact h.b
  · rw [hb.block _ (Array.getElem?_eq_some_iff.1 h.c).1]; exact h.c
  · rw [hb.block _ (Array.getElem?_eq_some_iff.1 h.d).1]; exact h.d
section
variable {u : World} {n : Nat}
theorem FmS.ca (h : FmS u n) (j : Nat) (v : Value) (hj : (fmL.flatMap edC)[j]? = some v) : u.cell? ((⟨n, 0, none⟩ : Addr).add j) = some v := by
  rw [Addr.add_mid, Nat.zero_add, cell_of_row _ _ j _ 68 (0, 0) h.a, List.getElem?_toArray]; exact hj
theorem fmB_at : ∀ i, i < 12 → (fmB.flatMap edC)[i * 2]? = some (.string (fmB.getD i (eB, eB)).1) ∧ (fmB.flatMap edC)[i * 2 + 1]? = some (.string (fmB.getD i (eB, eB)).2)
  | 0, _ => ⟨rfl, rfl⟩
  | 1, _ => ⟨rfl, rfl⟩
  | 2, _ => ⟨rfl, rfl⟩
  | 3, _ => ⟨rfl, rfl⟩
  | 4, _ => ⟨rfl, rfl⟩
  | 5, _ => ⟨rfl, rfl⟩
  | 6, _ => ⟨rfl, rfl⟩
  | 7, _ => ⟨rfl, rfl⟩
  | 8, _ => ⟨rfl, rfl⟩
  | 9, _ => ⟨rfl, rfl⟩
  | 10, _ => ⟨rfl, rfl⟩
  | 11, _ => ⟨rfl, rfl⟩
  | i + 12, h => by omega
theorem FmS.cb (h : FmS u n) {i : Nat} (hi : i < 12) : u.cell? ⟨n + 1, i * 2, none⟩ = some (.string (fmB.getD i (eB, eB)).1) ∧ u.cell? ⟨n + 1, i * 2 + 1, none⟩ = some (.string (fmB.getD i (eB, eB)).2) := by
  obtain ⟨h1, h2⟩ := fmB_at i hi
  refine ⟨?_, ?_⟩
  · rw [cell_of_row _ _ _ _ 68 (0, 0) h.b, List.getElem?_toArray]; exact h1
  · rw [cell_of_row _ _ _ _ 68 (0, 0) h.b, List.getElem?_toArray]; exact h2
theorem FmS.cc (h : FmS u n) {i : Nat} (hi : i < 12) : u.cell? ⟨n + 1 + 1, i, none⟩ = some (.int .i64 (fmE.getD i 0)) := by
  rw [cell_of_row _ _ _ _ 33 (0, 0) h.c, List.getElem?_toArray]
  unfold fmEV
  rw [List.getElem?_map, List.getElem?_eq_getElem (show i < fmE.length from hi), Option.map_some, List.getD_eq_getElem?_getD, List.getElem?_eq_getElem (show i < fmE.length from hi)]; rfl
theorem FmS.cd (h : FmS u n) {i : Nat} (hi : i < 12) : u.cell? ⟨n + 1 + 1 + 1, i, none⟩ = some (.int .i64 (fmP.getD i 0 : Nat)) := by
  rw [cell_of_row _ _ _ _ 3 (0, 0) h.d, List.getElem?_toArray]
  unfold fmPV
  rw [List.getElem?_map, List.getElem?_eq_getElem (show i < fmP.length from hi), Option.map_some, List.getD_eq_getElem?_getD, List.getElem?_eq_getElem (show i < fmP.length from hi)]; rfl
end
theorem fmNums {i : Nat} (h : i < 12) : IntKind.i64.wrap ((i : Int) + 1) = (i : Int) + 1 ∧ wrap64 ((i : Int) + 1) = (i : Int) + 1 ∧ (i : Int) < 12 ∧ 0 ≤ (i : Int) := ⟨by rw [IntKind.wrap_i64]; omega, by unfold wrap64; omega, by omega, by omega⟩
theorem fm_meas {i : Nat} (h : i < 12) : (100 - ((i + 1 : Nat) : Int)).toNat < (100 - (i : Int)).toNat := by omega
end Go.Proofs.YtiocnfambeochaaGreatDoor
