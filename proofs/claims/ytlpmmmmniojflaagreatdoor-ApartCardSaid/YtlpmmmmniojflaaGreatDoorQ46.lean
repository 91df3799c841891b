/- Texts put together. -/
import Derived.Test.YtlpmmmmniojflaaGreatDoorVd
import Derived.Test.YtlpmmmmniojflaaGreatDoorQ14
import Derived.Deep.RegionWith
import Derived.Deep.DrawnRows
/- Plain mathematics: texts of known making: tokens spelt out; numbers of any size. -/
set_option linter.unusedVariables false
set_option linter.unusedSimpArgs false
namespace Go.Proofs.YtlpmmmmniojflaaGreatDoor
theorem plain_toks (s : List UInt8) (g : List Tk) (hs : SC s (kxs g)) (hg : Is 0 8 g) (hc : chk g.length g = none) (hl : s.length ≤ 120) :
    (rd s).e = 0 ∧ plT s = g.flatMap ptk ∧ (rdA s).ts.map kxT = g.map kxT := by
  obtain ⟨ts, e1, e2⟩ := hs 0 s.length (Nat.le_refl _)
  have hsim : Sim (g.map unm) ts := by
    unfold Sim
    rw [List.map_map]
    have : ts.map kx = kxs g := e2
    rw [this]
    rfl
  obtain ⟨f, ef⟩ := hg [] [] 0 (by omega) (by simp [kindAt, goesOn])
  simp only [List.nil_append, List.append_nil, List.length_nil, Nat.zero_add] at ef
  have h1 := prs_sim f 0 (g.map unm) ts 0 0 hsim
  rw [ef] at h1
  match hq : prs f 0 ts 0 0, h1 with
  | none, h1 => exact absurd h1 (by simp [SimR])
  | some q, ⟨h1, h2, _, h4⟩ =>
    obtain ⟨r, er, _⟩ := prs_fuel (8 * ts.length + 6) 0 ts 0 0 (by omega) (by have : rk 0 = 5 := rfl; omega)
    have a1 := prs_le (Nat.le_max_left f (8 * ts.length + 6)) hq
    have a2 := prs_le (Nat.le_max_right f (8 * ts.length + 6)) er
    rw [a1, Option.some.injEq] at a2
    subst a2
    have hlen : g.length = q.ts.length := h4.len
    have hchk : chk q.ts.length q.ts = none := by rw [← hlen]; exact chk_sim _ _ _ h4 hc
    have hrd : rdA s = ⟨0, 0, q.ts⟩ := by
      rw [rdA, e1]
      simp only
      rw [er]
      simp only
      unfold rdP
      rw [if_neg (by rw [← h1, ← h2]; simp [hlen]), hchk]
    have hrd2 : rd s = ⟨0, 0, q.ts⟩ := by
      unfold rd
      rw [if_neg (by omega), hrd]
    refine ⟨by rw [hrd2], ?_, ?_⟩
    · unfold plT
      rw [hrd2, if_pos rfl]
      exact (flat_sim h4).symm
    · rw [hrd]
      have : g.map kx = q.ts.map kx := h4
      exact this.symm
theorem flat_ne {g : List Tk} (h : Good g) (hne : g ≠ []) : (g.flatMap ptk).isEmpty = false := by
  cases g with
  | nil => exact absurd rfl hne
  | cons t r =>
    obtain ⟨c, x, hx, _⟩ := h.1.head
    obtain ⟨a, b, _, e⟩ := ptk_parts t h.2.1
    rw [List.flatMap_cons, e, hx]
    cases a with
    | zero => rfl
    | succ a => rfl
theorem txt_gen {g : List Tk} {d : Beh} {n : Nat} (hg : FG n g) (hn : n ≤ 8) (hb : ∀ t ∈ g, tokB t = true) (hz : g.map np = g) (hl : (g.flatMap ptk).length ≤ 120) (hcg : CG 0 g d) : TxtOK ⟨(g.flatMap ptk).toArray⟩ d := by
  obtain ⟨h1, h2, h3⟩ := plain_toks (g.flatMap ptk) g (sc_plain g hg.good) (hg.is.more hn) (ck_end hg.ck) hl
  refine txt_of (g := g) (flat_ne hg.good hg.ne) h1 h2 ?_ ?_ hcg
  · rw [h3, ← np_kx]; exact hz
  · rw [List.all_eq_true]
    intro t ht
    have hm : kxT t ∈ g.map kxT := by rw [← h3]; exact List.mem_map.2 ⟨t, ht, rfl⟩
    obtain ⟨u, hu, e⟩ := List.mem_map.1 hm
    have e1 : u.k = t.k := congrArg Prod.fst e
    have e2 : u.x = t.x := congrArg Prod.snd e
    have := hb u hu
    unfold tokB at this ⊢
    rw [e1, e2] at this
    exact this
theorem dec_dig (u : Nat) : ∀ a ∈ Lib.decDigits u, dgB (a.toNat : Int) = true := by
  induction u using Nat.strongRecOn with
  | _ u ih =>
    rw [Lib.decDigits]
    by_cases h : u < 10
    · rw [dif_pos h]
      intro a ha
      rw [List.mem_singleton] at ha
      rw [ha]; exact dg_digit u h
    · rw [dif_neg h]
      intro a ha
      rcases List.mem_append.1 ha with ha | ha
      · exact ih (u / 10) (by omega) a ha
      · rw [List.mem_singleton] at ha
        rw [ha]; exact dg_digit _ (by omega)
theorem val_app (l : List UInt8) (c : UInt8) : valN (l ++ [c]) = 10 * valN l + (c.toNat - 48) := by
  unfold valN
  rw [List.foldl_append]
  rfl
theorem dec_val (u : Nat) : valN (Lib.decDigits u) = u := by
  induction u using Nat.strongRecOn with
  | _ u ih =>
    rw [Lib.decDigits]
    by_cases h : u < 10
    · rw [dif_pos h]
      show 10 * 0 + ((UInt8.ofNat (48 + u)).toNat - 48) = u
      rw [ofNat_digit u h]; omega
    · rw [dif_neg h, val_app, ih (u / 10) (by omega), ofNat_digit _ (by omega)]; omega
theorem dec_len : ∀ (k u : Nat), u < 10 ^ (k + 1) → (Lib.decDigits u).length ≤ k + 1
  | 0, u, h => by
    rw [Lib.decDigits, dif_pos (by omega)]; simp
  | k + 1, u, h => by
    rw [Lib.decDigits]
    by_cases h1 : u < 10
    · rw [dif_pos h1]; simp
    · rw [dif_neg h1, List.length_append]
      have := dec_len k (u / 10) (by rw [Nat.pow_succ] at h; omega)
      simp only [List.length_singleton]
      omega
theorem dec_head (u : Nat) : ∃ c r, Lib.decDigits u = c :: r ∧ (1 ≤ u → (c == 48) = false) ∧ (u = 0 → r = []) := by
  induction u using Nat.strongRecOn with
  | _ u ih =>
    rw [Lib.decDigits]
    by_cases h : u < 10
    · rw [dif_pos h]
      exact ⟨_, [], rfl, fun h1 => ne48 u h (by omega), fun _ => rfl⟩
    · rw [dif_neg h]
      obtain ⟨c, r, e, h1, _⟩ := ih (u / 10) (by omega)
      rw [e]
      exact ⟨c, _, rfl, fun _ => h1 (by omega), fun h0 => absurd h0 (by omega)⟩
theorem dec_big (u : Nat) (h : u ≤ 9223372036854775807) : TO (unm (tNum (Lib.decDigits u))).k (tNum (Lib.decDigits u)).x ∧ nzT (Lib.decDigits u) = Lib.decDigits u ∧ tokB (tNum (Lib.decDigits u)) = true := by
  obtain ⟨c, r, e, h1, h2⟩ := dec_head u
  have hd := dec_dig u
  have hv := dec_val u
  have hl := dec_len 18 u (by omega)
  rw [e] at hd hv hl ⊢
  have hl : r.length ≤ 18 := by simpa using hl
  refine ⟨to_num c r hd hl (by omega), ?_, ?_⟩
  · unfold nzT
    rw [List.dropWhile_cons]
    cases hc : (c == 48)
    · simp
    · by_cases hu : u = 0
      · rw [h2 hu]
        have : c = 48 := by simpa using hc
        simp [this]
      · have := h1 (by omega); rw [hc] at this; cases this
  · unfold tokB tNum tk
    have h3 : (c :: r).all (fun c => dgB (c.toNat : Int)) = true := List.all_eq_true.2 hd
    simp only [h3, List.length_cons]
    simp
    omega
end Go.Proofs.YtlpmmmmniojflaaGreatDoor
/- The statement's own 'formula': out of raw bytes it writes what 'gen' says. -/
namespace Go.Proofs.YtlpmmmmniojflaaGreatDoor
open Go.RowKit
def rnd (g : List Tk) : List UInt8 := g.flatMap ptk
def Fml (deep : Nat) : Prop := ∀ (w0 w : World) (fb : Nat) (fd : List UInt8), Amb w0 → Below w0.heap.size w0 w → FD w w0.heap.size fb fd →
  Calls Tryz.prog 16 #[.pointer (some ⟨fb, 0, none⟩), .int .i64 deep] w fun e w' => e = .returned (.string ⟨(rnd (gen deep fd).1).toArray⟩) ∧ w.grownBy w' (some fb) ∧ FD w' w0.heap.size fb (gen deep fd).2
theorem amb_at {w0 w : World} (h : Amb w0) (hb : Below w0.heap.size w0 w) : Amb w := h.below hb
theorem gen0_num (fd : List UInt8) (h : (nx 6 fd).1 = 0) : rnd (gen 0 fd).1 = Lib.decDigits (nx 200 (nx 6 fd).2).1 ∧ (gen 0 fd).2 = (nx 200 (nx 6 fd).2).2 := by
  unfold gen
  rw [if_pos h]
  refine ⟨?_, rfl⟩
  have := (dec_ok (nx 200 (nx 6 fd).2).1 (nx_lt 200 (by omega) _)).2
  simp [rnd, ptk, tNum, tk, this]
theorem gen0_text (fd : List UInt8) (h : (nx 6 fd).1 = 1) : rnd (gen 0 fd).1 = 34 :: (texts (nx 6 (nx 6 fd).2).1 ++ [34]) ∧ (gen 0 fd).2 = (nx 6 (nx 6 fd).2).2 := by
  unfold gen
  rw [if_neg (by omega), if_pos h]
  exact ⟨by simp [rnd, ptk, tText, tk], rfl⟩
def word3 (n : Nat) : List UInt8 := if n = 0 then [116, 114, 117, 101] else if n = 1 then [102, 97, 108, 115, 101] else [57, 50, 50, 51, 51, 55, 50, 48, 51, 54, 56, 53, 52, 55, 55, 53, 56, 48, 55]
theorem gen0_word (fd : List UInt8) (h : (nx 6 fd).1 = 2) : rnd (gen 0 fd).1 = word3 (nx 3 (nx 6 fd).2).1 ∧ (gen 0 fd).2 = (nx 3 (nx 6 fd).2).2 := by
  unfold gen
  rw [if_neg (by omega), if_neg (by omega), if_pos h]
  refine ⟨?_, rfl⟩
  simp only [rnd, List.flatMap_cons, List.flatMap_nil, List.append_nil, word3]
  by_cases h0 : (nx 3 (nx 6 fd).2).1 = 0
  · rw [if_pos h0, if_pos h0]; decide
  rw [if_neg h0, if_neg h0]
  by_cases h1 : (nx 3 (nx 6 fd).2).1 = 1
  · rw [if_pos h1, if_pos h1]; decide
  rw [if_neg h1, if_neg h1]; decide
theorem gen0_cell (fd : List UInt8) (h0 : (nx 6 fd).1 ≠ 0) (h1 : (nx 6 fd).1 ≠ 1) (h2 : (nx 6 fd).1 ≠ 2) : rnd (gen 0 fd).1 = nmT (nx 12 (nx 6 fd).2).1 ∧ (gen 0 fd).2 = (nx 12 (nx 6 fd).2).2 := by
  unfold gen
  rw [if_neg h0, if_neg h1, if_neg h2]
  exact ⟨by simp [rnd, ptk, tCell, tk, nmT], rfl⟩
set_option maxHeartbeats 2000000 in
set_option maxRecDepth 100000 in
theorem fml0 : Fml 0 := by
  intro w0 w fb fd hA hw0 hF
  have HA : Hid _ := hA
  have HW : Hid _ := hw0
  have HF : Hid _ := hF
  have hl6 := nx_lt 6 (by omega) fd
  clear hA hw0 hF
  go_enter Tryz.func16, Tryz.ntmps16
  go_wp2_with fail
  refine (next_any 6 (by omega) (by omega) _ w0.heap.size fb fd HF).mono ?_
  rintro e w1 ⟨rfl, hb1, hf1⟩
  have HF1 : Hid _ := hf1
  have HB1 : Hid (w.grownBy w1 (some fb)) := hb1
  have HW1 : Hid (Below w0.heap.size w0 w1) := below_gb HW.out hb1 HF.out.size HF.out.low
  clear hf1 hb1
  obtain ⟨q, hq⟩ : ∃ q, (nx 6 fd).1 = q := ⟨_, rfl⟩
  have HQ : Hid _ := hq
  rw [hq] at hl6 ⊢
  clear hq
  by_cases q0 : q = 0
  · subst q0
    have HG : Hid _ := gen0_num fd HQ.out
    have hl : Hid _ := nx_lt 200 (by omega) (nx 6 fd).2
    go_wp2_with fail
    refine (next_any 200 (by omega) (by omega) _ w0.heap.size fb _ HF1).mono ?_
    rintro e w2 ⟨rfl, hb2, hf2⟩
    have HF2 : Hid _ := hf2
    have HB2 : Hid (w.grownBy w2 (some fb)) := gb_trans HB1.out hb2
    have HW2 : Hid (Below w0.heap.size w0 w2) := below_gb HW1.out hb2 HF1.out.size HF1.out.low
    clear hb2 hf2
    go_wp2_with fail
    refine (num_any _ (by have := hl.out; omega) _ (amb_at HA.out HW2.out)).mono ?_
    rintro e w3 ⟨rfl, hb3⟩
    go_wp2_with fail
    go_ret
    rw [HG.out.1, HG.out.2]
    exact ⟨rfl, gb_trans HB2.out (gb_below hb3), HF2.out.below hb3⟩
  by_cases q1 : q = 1
  · subst q1
    have HG : Hid _ := gen0_text fd HQ.out
    have hl := nx_lt 6 (by omega) (nx 6 fd).2
    clear q0
    have HF1a : Hid (FD (w1.alloc (.cells #[.string ⟨#[]⟩, .string ⟨#[120]⟩, .string ⟨#[65, 49]⟩, .string ⟨#[66, 50]⟩, .string ⟨#[67]⟩, .string ⟨#[90, 57]⟩] 9)) w0.heap.size fb (nx 6 fd).2) := HF1.out.below ((Below.refl _ _).alloc (Nat.le_refl _) _)
    go_wp2_with fail
    refine (next_any 6 (by omega) (by omega) _ w0.heap.size fb _ HF1a).mono ?_
    rintro e w2 ⟨rfl, hb2, hf2⟩
    have hne : some w1.heap.size ≠ some fb := by intro e; have := HF1.out.lt; cases e; omega
    have hblk : w2.heap[w1.heap.size]? = some (.cells #[.string ⟨#[]⟩, .string ⟨#[120]⟩, .string ⟨#[65, 49]⟩, .string ⟨#[66, 50]⟩, .string ⟨#[67]⟩, .string ⟨#[90, 57]⟩] 9 (0, 0)) := by
      rw [hb2.block w1.heap.size (by simp) hne]; exact heap_alloc_new w1 _
    have HF2 : Hid _ := hf2
    have HB2 : Hid (w.grownBy w2 (some fb)) := gb_trans HB1.out (gb_trans (gb_below ((Below.refl _ _).alloc (Nat.le_refl _) _)) hb2)
    obtain ⟨j, hj⟩ : ∃ j, (nx 6 (nx 6 fd).2).1 = j := ⟨_, rfl⟩
    have HJ : Hid _ := hj
    have hcell : ∀ (k : Nat) (u : Value), #[Value.string ⟨#[]⟩, .string ⟨#[120]⟩, .string ⟨#[65, 49]⟩, .string ⟨#[66, 50]⟩, .string ⟨#[67]⟩, .string ⟨#[90, 57]⟩][k]? = some u → w2.cell? ⟨w1.heap.size, k, none⟩ = some u := fun k u h => by
      simp [World.cell?, hblk, h]
    have HC : Hid _ := hcell
    rw [hj] at hl ⊢
    clear hb2 hf2 hblk hj hcell hne
    rcases (show j = 0 ∨ j = 1 ∨ j = 2 ∨ j = 3 ∨ j = 4 ∨ j = 5 by omega) with rfl | rfl | rfl | rfl | rfl | rfl
    · have c := HC.out 0 _ rfl
      go_wp2_with fail
      go_ret
      rw [HG.out.1, HG.out.2, HJ.out]
      exact ⟨str_eq (by simp [texts]), HB2.out, HF2.out⟩
    · have c := HC.out 1 _ rfl
      go_wp2_with fail
      go_ret
      rw [HG.out.1, HG.out.2, HJ.out]
      exact ⟨str_eq (by simp [texts]), HB2.out, HF2.out⟩
    · have c := HC.out 2 _ rfl
      go_wp2_with fail
      go_ret
      rw [HG.out.1, HG.out.2, HJ.out]
      exact ⟨str_eq (by simp [texts]), HB2.out, HF2.out⟩
    · have c := HC.out 3 _ rfl
      go_wp2_with fail
      go_ret
      rw [HG.out.1, HG.out.2, HJ.out]
      exact ⟨str_eq (by simp [texts]), HB2.out, HF2.out⟩
    · have c := HC.out 4 _ rfl
      go_wp2_with fail
      go_ret
      rw [HG.out.1, HG.out.2, HJ.out]
      exact ⟨str_eq (by simp [texts]), HB2.out, HF2.out⟩
    · have c := HC.out 5 _ rfl
      go_wp2_with fail
      go_ret
      rw [HG.out.1, HG.out.2, HJ.out]
      exact ⟨str_eq (by simp [texts]), HB2.out, HF2.out⟩
  by_cases q2 : q = 2
  · subst q2
    have HG : Hid _ := gen0_word fd HQ.out
    have hl := nx_lt 3 (by omega) (nx 6 fd).2
    clear q0 q1
    have HF1a : Hid (FD (w1.alloc (.cells #[.string ⟨#[116, 114, 117, 101]⟩, .string ⟨#[102, 97, 108, 115, 101]⟩, .string ⟨#[57, 50, 50, 51, 51, 55, 50, 48, 51, 54, 56, 53, 52, 55, 55, 53, 56, 48, 55]⟩] 9)) w0.heap.size fb (nx 6 fd).2) := HF1.out.below ((Below.refl _ _).alloc (Nat.le_refl _) _)
    go_wp2_with fail
    refine (next_any 3 (by omega) (by omega) _ w0.heap.size fb _ HF1a).mono ?_
    rintro e w2 ⟨rfl, hb2, hf2⟩
    have hne : some w1.heap.size ≠ some fb := by intro e; have := HF1.out.lt; cases e; omega
    have hblk : w2.heap[w1.heap.size]? = some (.cells #[.string ⟨#[116, 114, 117, 101]⟩, .string ⟨#[102, 97, 108, 115, 101]⟩, .string ⟨#[57, 50, 50, 51, 51, 55, 50, 48, 51, 54, 56, 53, 52, 55, 55, 53, 56, 48, 55]⟩] 9 (0, 0)) := by
      rw [hb2.block w1.heap.size (by simp) hne]; exact heap_alloc_new w1 _
    have HF2 : Hid _ := hf2
    have HB2 : Hid (w.grownBy w2 (some fb)) := gb_trans HB1.out (gb_trans (gb_below ((Below.refl _ _).alloc (Nat.le_refl _) _)) hb2)
    obtain ⟨j, hj⟩ : ∃ j, (nx 3 (nx 6 fd).2).1 = j := ⟨_, rfl⟩
    have HJ : Hid _ := hj
    have hcell : ∀ (k : Nat) (u : Value), #[Value.string ⟨#[116, 114, 117, 101]⟩, .string ⟨#[102, 97, 108, 115, 101]⟩, .string ⟨#[57, 50, 50, 51, 51, 55, 50, 48, 51, 54, 56, 53, 52, 55, 55, 53, 56, 48, 55]⟩][k]? = some u → w2.cell? ⟨w1.heap.size, k, none⟩ = some u := fun k u h => by
      simp [World.cell?, hblk, h]
    have HC : Hid _ := hcell
    rw [hj] at hl ⊢
    clear hb2 hf2 hblk hj hcell hne
    rcases (show j = 0 ∨ j = 1 ∨ j = 2 by omega) with rfl | rfl | rfl
    · have c := HC.out 0 _ rfl
      go_wp2_with fail
      go_ret
      rw [HG.out.1, HG.out.2, HJ.out]
      exact ⟨str_eq (by simp [word3]), HB2.out, HF2.out⟩
    · have c := HC.out 1 _ rfl
      go_wp2_with fail
      go_ret
      rw [HG.out.1, HG.out.2, HJ.out]
      exact ⟨str_eq (by simp [word3]), HB2.out, HF2.out⟩
    · have c := HC.out 2 _ rfl
      go_wp2_with fail
      go_ret
      rw [HG.out.1, HG.out.2, HJ.out]
      exact ⟨str_eq (by simp [word3]), HB2.out, HF2.out⟩
  have HG : Hid _ := gen0_cell fd (by rw [HQ.out]; exact q0) (by rw [HQ.out]; exact q1) (by rw [HQ.out]; exact q2)
  have b0 : ((q : Int) == 0) = false := by simpa using (by omega : (q : Int) ≠ 0)
  have b1 : ((q : Int) == 1) = false := by simpa using (by omega : (q : Int) ≠ 1)
  have b2 : ((q : Int) == 2) = false := by simpa using (by omega : (q : Int) ≠ 2)
  clear q0 q1 q2
  go_wp2_with fail
  refine (few_any _ w0.heap.size fb _ HF1).mono ?_
  rintro e w2 ⟨rfl, hb2, hf2⟩
  go_wp2_with fail
  go_ret
  rw [HG.out.1, HG.out.2]
  exact ⟨rfl, gb_trans HB1.out hb2, hf2⟩
end Go.Proofs.YtlpmmmmniojflaaGreatDoor
/- The statement's own 'formula', one deeper: the ways that do not leave an order open. -/
namespace Go.Proofs.YtlpmmmmniojflaaGreatDoor
open Go.RowKit
theorem rnd_app (a b : List Tk) : rnd (a ++ b) = rnd a ++ rnd b := by unfold rnd; rw [List.flatMap_append]
theorem rnd_cons (t : Tk) (r : List Tk) : rnd (t :: r) = ptk t ++ rnd r := rfl
theorem rnd_nil : rnd [] = [] := rfl
def Ln : Nat → Nat
  | 0 => 22
  | d + 1 => 3 * Ln d + 24
theorem Ln_ge (d : Nat) : 22 ≤ Ln d := by cases d with | zero => exact Nat.le_refl _ | succ d => show 22 ≤ 3 * Ln d + 24; omega
theorem gen_if (deep : Nat) (fd : List UInt8) (h : (nx 9 fd).1 = 0) :
    rnd (gen (deep + 1) fd).1 = [105, 102, 40] ++ rnd (gen deep (nx 9 fd).2).1 ++ [44, 32] ++ rnd (gen deep (gen deep (nx 9 fd).2).2).1 ++ [44, 32] ++ rnd (gen deep (gen deep (gen deep (nx 9 fd).2).2).2).1 ++ [41] ∧
    (gen (deep + 1) fd).2 = (gen deep (gen deep (gen deep (nx 9 fd).2).2).2).2 := by
  rw [gen, if_pos h]
  refine ⟨?_, rfl⟩
  simp only [rnd_cons, rnd_app, rnd_nil]
  have e1 : ptk tIf = [105, 102] := by decide
  have e2 : ptk tOpen = [40] := by decide
  have e3 : ptk tComma = [44, 32] := by decide
  have e4 : ptk tClose = [41] := by decide
  rw [e1, e2, e3, e4]
  simp
theorem gen_bad (deep : Nat) (fd : List UInt8) (h : (nx 9 fd).1 = 2) : rnd (gen (deep + 1) fd).1 = [98, 97, 100, 40] ++ rnd (gen deep (nx 9 fd).2).1 ++ [41] ∧ (gen (deep + 1) fd).2 = (gen deep (nx 9 fd).2).2 := by
  rw [gen, if_neg (by omega), if_neg (by omega), if_pos h]
  refine ⟨?_, rfl⟩
  simp only [rnd_cons, rnd_app, rnd_nil]
  have e1 : ptk tBad = [98, 97, 100] := by decide
  have e2 : ptk tOpen = [40] := by decide
  have e4 : ptk tClose = [41] := by decide
  rw [e1, e2, e4]
  simp
def ats3 (j q : Nat) : List UInt8 := if j = 0 then [34, 65, 34, 32, 38, 32, 34, 49, 34] else if j = 1 then [34, 66, 50, 34] else nmT q
theorem gen_at (deep : Nat) (fd : List UInt8) (h : (nx 9 fd).1 = 1) : rnd (gen (deep + 1) fd).1 = [97, 116, 40] ++ ats3 (nx 3 (nx 12 (nx 9 fd).2).2).1 (nx 12 (nx 9 fd).2).1 ++ [41] ∧ (gen (deep + 1) fd).2 = (nx 3 (nx 12 (nx 9 fd).2).2).2 := by
  rw [gen, if_neg (by omega), if_pos h]
  refine ⟨?_, rfl⟩
  simp only [rnd_cons, rnd_app, rnd_nil]
  have e1 : ptk tAt = [97, 116] := by decide
  have e2 : ptk tOpen = [40] := by decide
  have e4 : ptk tClose = [41] := by decide
  have e5 : ∀ j q, rnd (ats j q) = ats3 j q := by
    intro j q
    unfold ats ats3
    split
    · decide
    split
    · decide
    · simp [rnd, ptk, tCell, tk, nmT]
  rw [e1, e2, e4, e5]
  simp
def rng (n : Nat) : List UInt8 := if n = 0 then [115, 117, 109, 40, 65, 49, 58, 67, 50, 41] else if n = 1 then [99, 111, 117, 110, 116, 40, 65, 49, 58, 70, 49, 41] else if n = 2 then [115, 117, 109, 40, 66, 50, 58, 66, 50, 41] else [99, 111, 117, 110, 116, 40, 68, 49, 58, 70, 50, 41]
theorem gen_rng (deep : Nat) (fd : List UInt8) (h : (nx 9 fd).1 = 3) : rnd (gen (deep + 1) fd).1 = rng (nx 4 (nx 9 fd).2).1 ∧ (gen (deep + 1) fd).2 = (nx 4 (nx 9 fd).2).2 := by
  rw [gen, if_neg (by omega), if_neg (by omega), if_neg (by omega), if_pos h]
  refine ⟨?_, rfl⟩
  simp only
  unfold ranges rng
  split
  · decide
  split
  · decide
  split
  · decide
  · decide
def cmp2 (n : Nat) : List UInt8 := if n = 0 then [60] else [61]
theorem gen_cmp (deep : Nat) (fd : List UInt8) (h : (nx 9 fd).1 = 4) : rnd (gen (deep + 1) fd).1 = [40] ++ rnd (gen deep (nx 9 fd).2).1 ++ [32] ++ cmp2 (nx 2 (gen deep (nx 9 fd).2).2).1 ++ [32] ++ rnd (gen deep (nx 2 (gen deep (nx 9 fd).2).2).2).1 ++ [41] ∧
    (gen (deep + 1) fd).2 = (gen deep (nx 2 (gen deep (nx 9 fd).2).2).2).2 := by
  rw [gen, if_neg (by omega), if_neg (by omega), if_neg (by omega), if_neg (by omega), if_pos h]
  refine ⟨?_, rfl⟩
  simp only [rnd_cons, rnd_app, rnd_nil]
  have e2 : ptk tOpen = [40] := by decide
  have e4 : ptk tClose = [41] := by decide
  have e5 : ∀ j, ptk (tCmp j) = [32] ++ cmp2 j ++ [32] := by
    intro j
    unfold tCmp cmp2
    split <;> decide
  rw [e2, e4, e5]
  simp
theorem gen_neg (deep : Nat) (fd : List UInt8) (h : (nx 9 fd).1 = 5) : rnd (gen (deep + 1) fd).1 = [45] ++ nmT (nx 12 (nx 9 fd).2).1 ∧ (gen (deep + 1) fd).2 = (nx 12 (nx 9 fd).2).2 := by
  rw [gen, if_neg (by omega), if_neg (by omega), if_neg (by omega), if_neg (by omega), if_neg (by omega), if_pos h]
  refine ⟨?_, rfl⟩
  simp only [rnd_cons, rnd_nil]
  have e1 : ptk tNeg = [45] := by decide
  rw [e1]
  simp [ptk, tCell, tk, nmT]
def op5 (n : Nat) : List UInt8 := if n = 0 then [43] else if n = 1 then [45] else if n = 2 then [42] else if n = 3 then [47] else [38]
theorem gen_op (deep : Nat) (fd : List UInt8) (h : 5 < (nx 9 fd).1) : rnd (gen (deep + 1) fd).1 = [40] ++ rnd (gen deep (nx 9 fd).2).1 ++ [41, 32] ++ op5 (nx 5 (gen deep (nx 9 fd).2).2).1 ++ [32, 40] ++ rnd (gen deep (nx 5 (gen deep (nx 9 fd).2).2).2).1 ++ [41] ∧
    (gen (deep + 1) fd).2 = (gen deep (nx 5 (gen deep (nx 9 fd).2).2).2).2 := by
  rw [gen, if_neg (by omega), if_neg (by omega), if_neg (by omega), if_neg (by omega), if_neg (by omega), if_neg (by omega)]
  refine ⟨?_, rfl⟩
  simp only [rnd_cons, rnd_app, rnd_nil]
  have e2 : ptk tOpen = [40] := by decide
  have e4 : ptk tClose = [41] := by decide
  have e5 : ∀ j, ptk (tOp j) = [32] ++ op5 j ++ [32] := by
    intro j
    unfold tOp op5
    repeat' split
    all_goals decide
  rw [e2, e4, e5]
  simp
theorem ats3_len (j q : Nat) : (ats3 j q).length ≤ 9 := by
  unfold ats3
  repeat' split
  all_goals simp [nmT]
theorem rng_len (n : Nat) : (rng n).length ≤ 12 := by
  unfold rng
  repeat' split
  all_goals simp
theorem op5_len (n : Nat) : (op5 n).length = 1 := by
  unfold op5
  repeat' split
  all_goals rfl
theorem gen_len : ∀ (deep : Nat) (fd : List UInt8), (rnd (gen deep fd).1).length ≤ Ln deep
  | 0, fd => by
    show _ ≤ 22
    by_cases h0 : (nx 6 fd).1 = 0
    · rw [(gen0_num fd h0).1]
      have hl := nx_lt 200 (by omega) (nx 6 fd).2
      by_cases h1 : (nx 200 (nx 6 fd).2).1 < 10
      · rw [dec1 _ h1]; simp
      by_cases h2 : (nx 200 (nx 6 fd).2).1 < 100
      · rw [dec2 _ (by omega) h2]; simp
      · rw [dec3 _ (by omega) (by omega)]; simp
    by_cases h1 : (nx 6 fd).1 = 1
    · rw [(gen0_text fd h1).1]; have := (texts_ok (nx 6 (nx 6 fd).2).1).2; simp only [List.length_cons, List.length_append, List.length_nil]; omega
    by_cases h2 : (nx 6 fd).1 = 2
    · rw [(gen0_word fd h2).1]
      unfold word3
      repeat' split
      all_goals simp
    · rw [(gen0_cell fd h0 h1 h2).1]; simp [nmT]
  | deep + 1, fd => by
    have ih := gen_len deep
    have hL := Ln_ge deep
    have hl := nx_lt 9 (by omega) fd
    show _ ≤ 3 * Ln deep + 24
    by_cases h0 : (nx 9 fd).1 = 0
    · rw [(gen_if deep fd h0).1]
      have a := ih (nx 9 fd).2
      have b := ih (gen deep (nx 9 fd).2).2
      have c := ih (gen deep (gen deep (nx 9 fd).2).2).2
      simp only [List.length_append, List.length_cons, List.length_nil]; omega
    by_cases h1 : (nx 9 fd).1 = 1
    · rw [(gen_at deep fd h1).1]
      have := ats3_len (nx 3 (nx 12 (nx 9 fd).2).2).1 (nx 12 (nx 9 fd).2).1
      simp only [List.length_append, List.length_cons, List.length_nil]; omega
    by_cases h2 : (nx 9 fd).1 = 2
    · rw [(gen_bad deep fd h2).1]; have a := ih (nx 9 fd).2; simp only [List.length_append, List.length_cons, List.length_nil]; omega
    by_cases h3 : (nx 9 fd).1 = 3
    · rw [(gen_rng deep fd h3).1]
      have := rng_len (nx 4 (nx 9 fd).2).1
      omega
    by_cases h4 : (nx 9 fd).1 = 4
    · rw [(gen_cmp deep fd h4).1]
      have a := ih (nx 9 fd).2
      have b := ih (nx 2 (gen deep (nx 9 fd).2).2).2
      have : ∀ n, (cmp2 n).length = 1 := by intro n; unfold cmp2; split <;> rfl
      simp only [List.length_append, List.length_cons, List.length_nil, this]; omega
    by_cases h5 : (nx 9 fd).1 = 5
    · rw [(gen_neg deep fd h5).1]; simp only [List.length_append, List.length_cons, List.length_nil, nmT]; omega
    · rw [(gen_op deep fd (by omega)).1]
      have a := ih (nx 9 fd).2
      have b := ih (nx 5 (gen deep (nx 9 fd).2).2).2
      simp only [List.length_append, List.length_cons, List.length_nil, op5_len]; omega
theorem Ln_small {d : Nat} (h : d ≤ 3) : Ln d ≤ 5000 := by
  rcases (show d = 0 ∨ d = 1 ∨ d = 2 ∨ d = 3 by omega) with rfl | rfl | rfl | rfl <;> decide
def FmlQ (deep q : Nat) : Prop := ∀ (w0 w : World) (fb : Nat) (fd : List UInt8), Amb w0 → Below w0.heap.size w0 w → FD w w0.heap.size fb fd → (nx 9 fd).1 = q →
  Calls Tryz.prog 16 #[.pointer (some ⟨fb, 0, none⟩), .int .i64 (deep + 1 : Nat)] w fun e w' => e = .returned (.string ⟨(rnd (gen (deep + 1) fd).1).toArray⟩) ∧ w.grownBy w' (some fb) ∧ FD w' w0.heap.size fb (gen (deep + 1) fd).2
set_option maxHeartbeats 2000000 in
set_option maxRecDepth 100000 in
theorem fml_if (deep : Nat) (hd : deep ≤ 3) (hs : Fml deep) : FmlQ deep 0 := by
  intro w0 w fb fd hA hw0 hF hq
  have HG : Hid _ := gen_if deep fd hq
  have HA : Hid (Amb w0) := hA
  have HW : Hid _ := hw0
  have HF : Hid _ := hF
  have HQ : Hid _ := hq
  have hda : ((deep : Int) + 1 == 0) = false := by simpa using (by omega : (deep : Int) + 1 ≠ 0)
  clear hA hw0 hF hq
  go_enter Tryz.func16, Tryz.ntmps16
  go_wp2_with fail
  refine (next_any 9 (by omega) (by omega) _ w0.heap.size fb fd HF).mono ?_
  rintro e w1 ⟨rfl, hb1, hf1⟩
  have HF1 : Hid _ := hf1
  have HB1 : Hid (w.grownBy w1 (some fb)) := hb1
  have HW1 : Hid (Below w0.heap.size w0 w1) := below_gb HW.out hb1 HF.out.size HF.out.low
  clear hf1 hb1
  rw [HQ.out]
  go_wp2_with fail
  refine (hs w0 _ fb _ HA.out HW1.out HF1.out).mono ?_
  rintro e w2 ⟨rfl, hb2, hf2⟩
  have HF2 : Hid _ := hf2
  have HB2 : Hid (w.grownBy w2 (some fb)) := gb_trans HB1.out hb2
  have HW2 : Hid (Below w0.heap.size w0 w2) := below_gb HW1.out hb2 HF1.out.size HF1.out.low
  obtain ⟨A2, hA2⟩ : ∃ A, rnd (gen deep (nx 9 fd).2).1 = A := ⟨_, rfl⟩
  have hlen2 : A2.length ≤ 5000 := by rw [← hA2]; exact Nat.le_trans (gen_len deep _) (Ln_small hd)
  have HA2 : Hid _ := hA2
  rw [hA2]
  clear hb2 hf2 hA2
  go_wp2_with fail
  refine (hs w0 _ fb _ HA.out HW2.out HF2.out).mono ?_
  rintro e w3 ⟨rfl, hb3, hf3⟩
  have HF3 : Hid _ := hf3
  have HB3 : Hid (w.grownBy w3 (some fb)) := gb_trans HB2.out hb3
  have HW3 : Hid (Below w0.heap.size w0 w3) := below_gb HW2.out hb3 HF2.out.size HF2.out.low
  obtain ⟨A3, hA3⟩ : ∃ A, rnd (gen deep (gen deep (nx 9 fd).2).2).1 = A := ⟨_, rfl⟩
  have hlen3 : A3.length ≤ 5000 := by rw [← hA3]; exact Nat.le_trans (gen_len deep _) (Ln_small hd)
  have HA3 : Hid _ := hA3
  rw [hA3]
  clear hb3 hf3 hA3
  go_wp2_with fail
  refine (hs w0 _ fb _ HA.out HW3.out HF3.out).mono ?_
  rintro e w4 ⟨rfl, hb4, hf4⟩
  have HF4 : Hid _ := hf4
  have HB4 : Hid (w.grownBy w4 (some fb)) := gb_trans HB3.out hb4
  have HW4 : Hid (Below w0.heap.size w0 w4) := below_gb HW3.out hb4 HF3.out.size HF3.out.low
  obtain ⟨A4, hA4⟩ : ∃ A, rnd (gen deep (gen deep (gen deep (nx 9 fd).2).2).2).1 = A := ⟨_, rfl⟩
  have hlen4 : A4.length ≤ 5000 := by rw [← hA4]; exact Nat.le_trans (gen_len deep _) (Ln_small hd)
  have HA4 : Hid _ := hA4
  rw [hA4]
  clear hb4 hf4 hA4
  go_wp2_with fail
  go_ret
  rw [HG.out.1, HG.out.2, HA2.out, HA3.out, HA4.out]
  exact ⟨str_eq (by simp), HB4.out, HF4.out⟩
set_option maxHeartbeats 2000000 in
set_option maxRecDepth 100000 in
theorem fml_bad (deep : Nat) (hd : deep ≤ 3) (hs : Fml deep) : FmlQ deep 2 := by
  intro w0 w fb fd hA hw0 hF hq
  have HG : Hid _ := gen_bad deep fd hq
  have HA : Hid (Amb w0) := hA
  have HW : Hid _ := hw0
  have HF : Hid _ := hF
  have HQ : Hid _ := hq
  have hda : ((deep : Int) + 1 == 0) = false := by simpa using (by omega : (deep : Int) + 1 ≠ 0)
  clear hA hw0 hF hq
  go_enter Tryz.func16, Tryz.ntmps16
  go_wp2_with fail
  refine (next_any 9 (by omega) (by omega) _ w0.heap.size fb fd HF).mono ?_
  rintro e w1 ⟨rfl, hb1, hf1⟩
  have HF1 : Hid _ := hf1
  have HB1 : Hid (w.grownBy w1 (some fb)) := hb1
  have HW1 : Hid (Below w0.heap.size w0 w1) := below_gb HW.out hb1 HF.out.size HF.out.low
  clear hf1 hb1
  rw [HQ.out]
  go_wp2_with fail
  refine (hs w0 _ fb _ HA.out HW1.out HF1.out).mono ?_
  rintro e w2 ⟨rfl, hb2, hf2⟩
  have HF2 : Hid _ := hf2
  have HB2 : Hid (w.grownBy w2 (some fb)) := gb_trans HB1.out hb2
  have HW2 : Hid (Below w0.heap.size w0 w2) := below_gb HW1.out hb2 HF1.out.size HF1.out.low
  obtain ⟨A2, hA2⟩ : ∃ A, rnd (gen deep (nx 9 fd).2).1 = A := ⟨_, rfl⟩
  have hlen2 : A2.length ≤ 5000 := by rw [← hA2]; exact Nat.le_trans (gen_len deep _) (Ln_small hd)
  have HA2 : Hid _ := hA2
  rw [hA2]
  clear hb2 hf2 hA2
  go_wp2_with fail
  go_ret
  rw [HG.out.1, HG.out.2, HA2.out]
  exact ⟨str_eq (by simp), HB2.out, HF2.out⟩
set_option maxHeartbeats 2000000 in
set_option maxRecDepth 100000 in
theorem fml_neg (deep : Nat) (hd : deep ≤ 3) : FmlQ deep 5 := by
  intro w0 w fb fd hA hw0 hF hq
  have HG : Hid _ := gen_neg deep fd hq
  have HA : Hid (Amb w0) := hA
  have HW : Hid _ := hw0
  have HF : Hid _ := hF
  have HQ : Hid _ := hq
  have hda : ((deep : Int) + 1 == 0) = false := by simpa using (by omega : (deep : Int) + 1 ≠ 0)
  clear hA hw0 hF hq
  go_enter Tryz.func16, Tryz.ntmps16
  go_wp2_with fail
  refine (next_any 9 (by omega) (by omega) _ w0.heap.size fb fd HF).mono ?_
  rintro e w1 ⟨rfl, hb1, hf1⟩
  have HF1 : Hid _ := hf1
  have HB1 : Hid (w.grownBy w1 (some fb)) := hb1
  have HW1 : Hid (Below w0.heap.size w0 w1) := below_gb HW.out hb1 HF.out.size HF.out.low
  clear hf1 hb1
  rw [HQ.out]
  go_wp2_with fail
  refine (few_any _ w0.heap.size fb _ HF1).mono ?_
  rintro e w2 ⟨rfl, hb2, hf2⟩
  go_wp2_with fail
  go_ret
  rw [HG.out.1, HG.out.2]
  exact ⟨str_eq (by simp [nmT]), gb_trans HB1.out hb2, hf2⟩
set_option maxHeartbeats 2000000 in
set_option maxRecDepth 100000 in
theorem fml_rng (deep : Nat) (hd : deep ≤ 3) : FmlQ deep 3 := by
  intro w0 w fb fd hA hw0 hF hq
  have HG : Hid _ := gen_rng deep fd hq
  have HA : Hid (Amb w0) := hA
  have HW : Hid _ := hw0
  have HF : Hid _ := hF
  have HQ : Hid _ := hq
  have hda : ((deep : Int) + 1 == 0) = false := by simpa using (by omega : (deep : Int) + 1 ≠ 0)
  clear hA hw0 hF hq
  go_enter Tryz.func16, Tryz.ntmps16
  go_wp2_with fail
  refine (next_any 9 (by omega) (by omega) _ w0.heap.size fb fd HF).mono ?_
  rintro e w1 ⟨rfl, hb1, hf1⟩
  have HF1 : Hid _ := hf1
  have HB1 : Hid (w.grownBy w1 (some fb)) := hb1
  have HW1 : Hid (Below w0.heap.size w0 w1) := below_gb HW.out hb1 HF.out.size HF.out.low
  clear hf1 hb1
  rw [HQ.out]
  have hl2 := nx_lt 4 (by omega) (nx 9 fd).2
  have HF1a : Hid (FD (w1.alloc (.cells #[Value.string ⟨#[115, 117, 109, 40, 65, 49, 58, 67, 50, 41]⟩, .string ⟨#[99, 111, 117, 110, 116, 40, 65, 49, 58, 70, 49, 41]⟩, .string ⟨#[115, 117, 109, 40, 66, 50, 58, 66, 50, 41]⟩, .string ⟨#[99, 111, 117, 110, 116, 40, 68, 49, 58, 70, 50, 41]⟩] 9)) w0.heap.size fb (nx 9 fd).2) := HF1.out.below ((Below.refl _ _).alloc (Nat.le_refl _) _)
  go_wp2_with fail
  refine (next_any 4 (by omega) (by omega) _ w0.heap.size fb _ HF1a).mono ?_
  rintro e w2 ⟨rfl, hb2, hf2⟩
  have hne : some w1.heap.size ≠ some fb := by intro e; have := HF1.out.lt; cases e; omega
  have hblk : w2.heap[w1.heap.size]? = some (.cells #[Value.string ⟨#[115, 117, 109, 40, 65, 49, 58, 67, 50, 41]⟩, .string ⟨#[99, 111, 117, 110, 116, 40, 65, 49, 58, 70, 49, 41]⟩, .string ⟨#[115, 117, 109, 40, 66, 50, 58, 66, 50, 41]⟩, .string ⟨#[99, 111, 117, 110, 116, 40, 68, 49, 58, 70, 50, 41]⟩] 9 (0, 0)) := by
    rw [hb2.block w1.heap.size (by simp) hne]; exact heap_alloc_new w1 _
  have HF2 : Hid _ := hf2
  have HB2 : Hid (w.grownBy w2 (some fb)) := gb_trans HB1.out (gb_trans (gb_below ((Below.refl _ _).alloc (Nat.le_refl _) _)) hb2)
  have HW2 : Hid (Below w0.heap.size w0 w2) := below_gb (HW1.out.alloc HF1.out.size _) hb2 HF1a.out.size HF1a.out.low
  obtain ⟨j, hj⟩ : ∃ j, (nx 4 (nx 9 fd).2).1 = j := ⟨_, rfl⟩
  have HJ : Hid _ := hj
  have hcell : ∀ (k : Nat) (u : Value), #[Value.string ⟨#[115, 117, 109, 40, 65, 49, 58, 67, 50, 41]⟩, .string ⟨#[99, 111, 117, 110, 116, 40, 65, 49, 58, 70, 49, 41]⟩, .string ⟨#[115, 117, 109, 40, 66, 50, 58, 66, 50, 41]⟩, .string ⟨#[99, 111, 117, 110, 116, 40, 68, 49, 58, 70, 50, 41]⟩][k]? = some u → w2.cell? ⟨w1.heap.size, k, none⟩ = some u := fun k u h => by
    simp [World.cell?, hblk, h]
  have HC : Hid _ := hcell
  rw [hj] at hl2 ⊢
  clear hb2 hf2 hblk hj hcell hne
  rcases (show j = 0 ∨ j = 1 ∨ j = 2 ∨ j = 3 by omega) with rfl | rfl | rfl | rfl
  · have c := HC.out 0 _ rfl
    go_wp2_with fail
    go_ret
    rw [HG.out.1, HG.out.2, HJ.out]
    exact ⟨str_eq (by simp [rng]), HB2.out, HF2.out⟩
  · have c := HC.out 1 _ rfl
    go_wp2_with fail
    go_ret
    rw [HG.out.1, HG.out.2, HJ.out]
    exact ⟨str_eq (by simp [rng]), HB2.out, HF2.out⟩
  · have c := HC.out 2 _ rfl
    go_wp2_with fail
    go_ret
    rw [HG.out.1, HG.out.2, HJ.out]
    exact ⟨str_eq (by simp [rng]), HB2.out, HF2.out⟩
  · have c := HC.out 3 _ rfl
    go_wp2_with fail
    go_ret
    rw [HG.out.1, HG.out.2, HJ.out]
    exact ⟨str_eq (by simp [rng]), HB2.out, HF2.out⟩
set_option maxHeartbeats 2000000 in
set_option maxRecDepth 100000 in
theorem fml_at (deep : Nat) (hd : deep ≤ 3) : FmlQ deep 1 := by
  intro w0 w fb fd hA hw0 hF hq
  have HG : Hid _ := gen_at deep fd hq
  have HA : Hid (Amb w0) := hA
  have HW : Hid _ := hw0
  have HF : Hid _ := hF
  have HQ : Hid _ := hq
  have hda : ((deep : Int) + 1 == 0) = false := by simpa using (by omega : (deep : Int) + 1 ≠ 0)
  clear hA hw0 hF hq
  go_enter Tryz.func16, Tryz.ntmps16
  go_wp2_with fail
  refine (next_any 9 (by omega) (by omega) _ w0.heap.size fb fd HF).mono ?_
  rintro e w1 ⟨rfl, hb1, hf1⟩
  have HF1 : Hid _ := hf1
  have HB1 : Hid (w.grownBy w1 (some fb)) := hb1
  have HW1 : Hid (Below w0.heap.size w0 w1) := below_gb HW.out hb1 HF.out.size HF.out.low
  clear hf1 hb1
  rw [HQ.out]
  go_wp2_with fail
  refine (few_any _ w0.heap.size fb _ HF1).mono ?_
  rintro e w2 ⟨rfl, hb2, hf2⟩
  have HF2 : Hid _ := hf2
  have HB2 : Hid (w.grownBy w2 (some fb)) := gb_trans HB1.out hb2
  have HW2 : Hid (Below w0.heap.size w0 w2) := below_gb HW1.out hb2 HF1.out.size HF1.out.low
  obtain ⟨N, hN⟩ : ∃ N, nmT (nx 12 (nx 9 fd).2).1 = N := ⟨_, rfl⟩
  have hNl : N.length = 2 := by rw [← hN]; rfl
  have HN : Hid _ := hN
  rw [hN]
  clear hb2 hf2 hN
  have hl3 := nx_lt 3 (by omega) (nx 12 (nx 9 fd).2).2
  have HF2a : Hid (FD (w2.alloc (.cells #[Value.string ⟨#[34, 65, 34, 32, 38, 32, 34, 49, 34]⟩, .string ⟨#[34, 66, 50, 34]⟩, .string ⟨N.toArray⟩] 9)) w0.heap.size fb (nx 12 (nx 9 fd).2).2) := HF2.out.below ((Below.refl _ _).alloc (Nat.le_refl _) _)
  go_wp2_with fail
  refine (next_any 3 (by omega) (by omega) _ w0.heap.size fb _ HF2a).mono ?_
  rintro e w3 ⟨rfl, hb3, hf3⟩
  have hne : some w2.heap.size ≠ some fb := by intro e; have := HF2.out.lt; cases e; omega
  have hblk : w3.heap[w2.heap.size]? = some (.cells #[Value.string ⟨#[34, 65, 34, 32, 38, 32, 34, 49, 34]⟩, .string ⟨#[34, 66, 50, 34]⟩, .string ⟨N.toArray⟩] 9 (0, 0)) := by
    rw [hb3.block w2.heap.size (by simp) hne]; exact heap_alloc_new w2 _
  have HF3 : Hid _ := hf3
  have HB3 : Hid (w.grownBy w3 (some fb)) := gb_trans HB2.out (gb_trans (gb_below ((Below.refl _ _).alloc (Nat.le_refl _) _)) hb3)
  have HW3 : Hid (Below w0.heap.size w0 w3) := below_gb (HW2.out.alloc HF2.out.size _) hb3 HF2a.out.size HF2a.out.low
  obtain ⟨j, hj⟩ : ∃ j, (nx 3 (nx 12 (nx 9 fd).2).2).1 = j := ⟨_, rfl⟩
  have HJ : Hid _ := hj
  have hcell : ∀ (k : Nat) (u : Value), #[Value.string ⟨#[34, 65, 34, 32, 38, 32, 34, 49, 34]⟩, .string ⟨#[34, 66, 50, 34]⟩, .string ⟨N.toArray⟩][k]? = some u → w3.cell? ⟨w2.heap.size, k, none⟩ = some u := fun k u h => by
    simp [World.cell?, hblk, h]
  have HC : Hid _ := hcell
  rw [hj] at hl3 ⊢
  clear hb3 hf3 hblk hj hcell hne
  rcases (show j = 0 ∨ j = 1 ∨ j = 2 by omega) with rfl | rfl | rfl
  · have c := HC.out 0 _ rfl
    go_wp2_with fail
    go_ret
    rw [HG.out.1, HG.out.2, HJ.out]
    exact ⟨str_eq (by simp [ats3]), HB3.out, HF3.out⟩
  · have c := HC.out 1 _ rfl
    go_wp2_with fail
    go_ret
    rw [HG.out.1, HG.out.2, HJ.out]
    exact ⟨str_eq (by simp [ats3]), HB3.out, HF3.out⟩
  · have c := HC.out 2 _ rfl
    go_wp2_with fail
    go_ret
    rw [HG.out.1, HG.out.2, HJ.out, ats3, if_neg (by decide), if_neg (by decide), HN.out]
    exact ⟨str_eq (by simp), HB3.out, HF3.out⟩
end Go.Proofs.YtlpmmmmniojflaaGreatDoor
/- The statement's own 'formula', one deeper: the two ways that leave an order open. -/
attribute [local go_sem ↓] Go.wp_at_zero Go.wp_at_succ
namespace Go.Proofs.YtlpmmmmniojflaaGreatDoor
open Go.RowKit
theorem fd_alloc {w : World} {B fb : Nat} {fd : List UInt8} (h : FD w B fb fd) (o : Obj) : FD (w.alloc o) B fb fd := h.below ((Below.refl _ _).alloc (Nat.le_refl _) _)
def CallR (fn : Nat) (args : Array Value) (w0 : World) (fb : Nat) (f f' : List UInt8) (v : Value) : Prop := ∀ W, Below w0.heap.size w0 W → FD W w0.heap.size fb f →
  Calls Tryz.prog fn args W fun e w' => e = .returned v ∧ (Below w0.heap.size w0 w' ∧ FD w' w0.heap.size fb f' ∧ W.grownBy w' (some fb))
theorem cell_far {w w' : World} {fb k o : Nat} {v : Value} (hg : w.grownBy w' (some fb)) (hc : w.cell? ⟨k, o, none⟩ = some v) (hne : k ≠ fb) : w'.cell? ⟨k, o, none⟩ = some v := by
  have hk : k < w.heap.size := by
    rcases Nat.lt_or_ge k w.heap.size with h | h
    · exact h
    · simp [World.cell?, Array.getElem?_eq_none h] at hc
  rw [← hc]
  simp only [World.cell?]
  rw [hg.block k hk (by intro e; cases e; exact hne rfl)]
theorem cell_keep {w w' : World} {fb : Nat} {xs : Array Value} {t : TypeId} (k : Nat) (v : Value) (hg : (w.alloc (.cells xs t)).grownBy w' (some fb)) (hne : w.heap.size ≠ fb) (hv : xs[k]? = some v) : w'.cell? ⟨w.heap.size, k, none⟩ = some v := by
  have hb : w'.heap[w.heap.size]? = some (.cells xs t (0, 0)) := by
    rw [hg.block w.heap.size (by simp) (by intro e; cases e; exact hne rfl)]; exact heap_alloc_new w _
  simp [World.cell?, hb, hv]
theorem new_cell {xs : Array Value} {t : TypeId} {j : Nat} {v : Value} (hj : xs[j]? = some v) (w : World) : (w.alloc (.cells xs t)).cell? ⟨w.heap.size, j, none⟩ = some v := by
  have hb : (w.alloc (.cells xs t)).heap[w.heap.size]? = some (.cells xs t (0, 0)) := heap_alloc_new w _
  simp only [World.cell?, hb, hj]
  simp
theorem cell_keepD {w w' : World} {fb : Nat} {xs : Array Value} {t : TypeId} (k : Nat) (v : Value) (hg : (w.alloc (.cells xs t)).drew.grownBy w' (some fb)) (hne : w.heap.size ≠ fb) (hv : xs[k]? = some v) : w'.cell? ⟨w.heap.size, k, none⟩ = some v :=
  cell_keep k v (w := w) (gb_trans (show (w.alloc (.cells xs t)).grownBy (w.alloc (.cells xs t)).drew (some fb) from ⟨rfl, rfl, rfl, Nat.le_refl _, fun _ _ _ => rfl⟩) hg) hne hv
theorem gb_al {a b : World} {row : Option Nat} (o : Obj) (h : a.grownBy b row) : a.grownBy (b.alloc o) row := gb_trans h (gb_below ((Below.refl _ _).alloc (Nat.le_refl _) _))
theorem gb_s {a b c : World} {row : Option Nat} {o : Obj} (h : a.grownBy b row) (k : (b.alloc o).grownBy c row) : a.grownBy c row := gb_trans (gb_al o h) k
theorem gb_d {a b c : World} {row : Option Nat} (h : a.grownBy b row) (k : b.drew.grownBy c row) : a.grownBy c row := gb_trans h (gb_trans (show b.grownBy b.drew row from ⟨rfl, rfl, rfl, Nat.le_refl _, fun _ _ _ => rfl⟩) k)
theorem gb_sd {a b c : World} {row : Option Nat} {o : Obj} (h : a.grownBy b row) (k : (b.alloc o).drew.grownBy c row) : a.grownBy c row := gb_d (gb_al o h) k
set_option maxHeartbeats 4000000 in
set_option maxRecDepth 100000 in
theorem cmp_walk (w0 : World) (fb deep j : Nat) (f0 f1 f2 f3 f4 : List UInt8) (a c o s1 s2 s3 s4 s5 s6 : ByteArray)
    (hj : #[Value.string ⟨#[60]⟩, .string ⟨#[61]⟩][j]? = some (.string o)) (hj0 : (0 : Int) ≤ (j : Int)) (hj2 : (j : Int) < 2)
    (cA : CallR 16 #[.pointer (some ⟨fb, 0, none⟩), .int .i64 deep] w0 fb f1 f2 (.string a))
    (cN : CallR 17 #[.pointer (some ⟨fb, 0, none⟩), .int .i64 2] w0 fb f2 f3 (.int .i64 j))
    (cB : CallR 16 #[.pointer (some ⟨fb, 0, none⟩), .int .i64 deep] w0 fb f3 f4 (.string c))
    (h1 : ∀ w, (Op.stringOp .add ⟨#[40]⟩ a).run Tryz.prog w = .ok (.string s1) w)
    (h2 : ∀ w, (Op.stringOp .add s1 ⟨#[32]⟩).run Tryz.prog w = .ok (.string s2) w)
    (h3 : ∀ w, (Op.stringOp .add s2 o).run Tryz.prog w = .ok (.string s3) w)
    (h4 : ∀ w, (Op.stringOp .add s3 ⟨#[32]⟩).run Tryz.prog w = .ok (.string s4) w)
    (h5 : ∀ w, (Op.stringOp .add s4 c).run Tryz.prog w = .ok (.string s5) w)
    (h6 : ∀ w, (Op.stringOp .add s5 ⟨#[41]⟩).run Tryz.prog w = .ok (.string s6) w)
    (w : World) (hd : deep ≤ 3)
    (c9 : CallR 17 #[.pointer (some ⟨fb, 0, none⟩), .int .i64 9] w0 fb f0 f1 (.int .i64 4)) (hw : Hid (Below w0.heap.size w0 w)) (hf : Hid (FD w w0.heap.size fb f0)) :
    Calls Tryz.prog 16 #[.pointer (some ⟨fb, 0, none⟩), .int .i64 (deep + 1 : Nat)] w fun e w' => e = .returned (.string s6) ∧ w.grownBy w' (some fb) ∧ FD w' w0.heap.size fb f4 := by
  have hda : ((deep : Int) + 1 == 0) = false := by simpa using (by omega : (deep : Int) + 1 ≠ 0)
  go_enter Tryz.func16, Tryz.ntmps16
  go_wp2_with fail
  refine (c9 _ hw.out hf.out).mono ?_
  rintro e w1 ⟨rfl, hw1', hf1', hg1'⟩
  have HG1 : Hid _ := hg1'
  have ne1 : w1.heap.size ≠ fb := by have := hf1'.lt; omega
  have hdw : IntKind.i64.wrap (deep : Int) = deep := by rw [IntKind.wrap_i64]; omega
  have hAw : Hid (Below w0.heap.size w0 w1.drew) := hw1'.drew
  have hAf : Hid (FD w1.drew w0.heap.size fb f1) := hf1'.of_heap rfl
  have hAwS : Hid (∀ o, Below w0.heap.size w0 (w1.alloc o).drew) := fun o => (hw1'.alloc hf1'.size o).drew
  have hAfS : Hid (∀ o, FD (w1.alloc o).drew w0.heap.size fb f1) := fun o => (fd_alloc hf1' o).of_heap rfl
  have hnew := fun w : World => new_cell (t := 9) hj w
  clear hw1' hf1' hg1' c9
  go_wp2_with fail
  go_region_with (first
    | (go_at_call 16; refine (cB _ ?_ ?_).mono ?_; (first | with_reducible exact H3.out.1 | with_reducible exact H3.out.1.alloc H3.out.2.1.size _); (first | with_reducible exact H3.out.2.1 | with_reducible exact fd_alloc H3.out.2.1 _); rintro e w4 ⟨rfl, h4⟩; (first | (have c4 := cell_keep j _ h4.2.2 ne3 hj) | (have c4 := cell_far h4.2.2 c3 ne1) | (have c4 := cell_far h4.2.2 c3 ne2) | skip); have H4 : Hid _ := h4; clear h4)
    | (go_at_call 16; refine (cA _ ?_ ?_).mono ?_; (first | with_reducible exact hAw.out | with_reducible exact hAwS.out _); (first | with_reducible exact hAf.out | with_reducible exact hAfS.out _); rintro e w2 ⟨rfl, h2⟩; have ne2 : w2.heap.size ≠ fb := (by have := h2.2.1.lt; omega); (first | (have c2 : w2.cell? ⟨w1.heap.size, j, none⟩ = _ := cell_keepD j _ h2.2.2 ne1 hj) | skip); have H2 : Hid _ := h2; clear h2)
    | (go_at_call 17; refine (cN _ ?_ ?_).mono ?_; (first | with_reducible exact H2.out.1 | with_reducible exact H2.out.1.alloc H2.out.2.1.size _); (first | with_reducible exact H2.out.2.1 | with_reducible exact fd_alloc H2.out.2.1 _); rintro e w3 ⟨rfl, h3⟩; have ne3 : w3.heap.size ≠ fb := (by have := h3.2.1.lt; omega); (first | (have c3 := cell_keep j _ h3.2.2 ne2 hj) | (have c3 := cell_far h3.2.2 c2 ne1) | skip); have H3 : Hid _ := h3; clear h3))
  all_goals
    have k2 : w.grownBy w2 (some fb) := by first | with_reducible exact gb_d HG1.out H2.out.2.2 | with_reducible exact gb_sd HG1.out H2.out.2.2
    have g2 : Hid _ := k2
    clear k2
    have k3 : w.grownBy w3 (some fb) := by first | with_reducible exact gb_trans g2.out H3.out.2.2 | with_reducible exact gb_s g2.out H3.out.2.2
    have g3 : Hid _ := k3
    clear k3
    have k4 : w.grownBy w4 (some fb) := by first | with_reducible exact gb_trans g3.out H4.out.2.2 | with_reducible exact gb_s g3.out H4.out.2.2
    have g4 : Hid _ := k4
    clear k4
    clear h1 h2 h3 h4 h5 h6 hnew cA cN cB hdw hda hAwS hAfS hAw hAf hj hj0 hj2
    go_wp2_with fail
    go_ret
    first | exact ⟨rfl, g4.out, H4.out.2.1⟩ | exact ⟨rfl, gb_al _ g4.out, fd_alloc H4.out.2.1 _⟩
end Go.Proofs.YtlpmmmmniojflaaGreatDoor
