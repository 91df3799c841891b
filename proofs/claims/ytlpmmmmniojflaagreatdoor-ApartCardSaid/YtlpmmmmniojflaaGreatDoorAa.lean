/- The statement Apart: what its walk needs. -/
import Derived.Test.YtlpmmmmniojflaaGreatDoorPa
import Derived.Test.YtlpmmmmniojflaaGreatDoorZa
import Derived.DataElems
set_option linter.unusedVariables false
set_option linter.unusedSimpArgs false
namespace Go.Proofs.YtlpmmmmniojflaaGreatDoor
open Go.RowKit
theorem ne_newA {W : World} {x y : Nat} (h : x < W.heap.size) (hy : W.heap.size ≤ y) : x ≠ y := by omega
theorem RawS.sub {w : World} {v : Value} {l : List ByteArray} (h : RawS w v l) {i : Nat} (hi : i < l.length) : ∃ a cap s, v = .slice (some a) l.length cap ∧ l.length ≤ cap ∧ l.length ≤ maxLen ∧ RawS w (.slice (some (a.add i)) 1 (cap - i)) [s] := by
  rcases h with ⟨_, rfl⟩ | ⟨a, cap, rfl, h1, h2, h3⟩
  · exact absurd hi (Nat.not_lt_zero _)
  · refine ⟨a, cap, l[i], rfl, h1, h2, .inr ⟨a.add i, cap - i, rfl, ?_, ?_, fun j s hj => ?_⟩⟩
    · simp only [List.length_cons, List.length_nil]; omega
    · simp only [List.length_cons, List.length_nil]; omega
    · have hj0 : j = 0 := by
        have := (List.getElem?_eq_some_iff.1 hj).1
        simp only [List.length_cons, List.length_nil] at this
        omega
      subst hj0
      have hs : l[i] = s := by simpa using hj
      rw [Addr.add_add, Nat.add_zero]
      exact h3 i s (by rw [List.getElem?_eq_getElem hi, hs])
theorem slice_one {a : Addr} {n cap i : Nat} (hi : i < n) (hc : n ≤ cap) : ∀ w : World, (Instr.slice 47 (.slice (some a) n cap) (some (.int .i64 (i : Int))) (some (.int .i64 ((i : Int) + 1))) none).run Tryz.prog w = .ok (.slice (some (a.add i)) 1 (cap - i)) w := by
  intro w
  have he : Tryz.prog.elem 47 = 9 := by kernel_rfl
  have hu : Tryz.prog.underlying 47 = some (.slice (Tryz.prog.elem 47)) := by rw [he]; exact Tryz.underlying47
  rw [run_slice_lh w 47 (some a) n cap hu .i64 .i64 _ _ (by omega) (by omega) (by omega)]
  rw [he]
  have e : ((i : Int) + 1).toNat = i + 1 := by omega
  simp only [Tryz.sizeOf9, Result.andThen, sliced, e, Int.toNat_natCast]
  rw [if_neg (by omega), Nat.mul_one, show i + 1 - i = 1 by omega]
  rfl
theorem HowS.num {w : World} {v : Value} {l : List Int} (h : HowS w v l) {i : Nat} (hi : i < l.length) : ∃ a cap z, v = .slice (some a) l.length cap ∧ l.length ≤ cap ∧ l.length ≤ maxLen ∧ w.cell? (a.add i) = some (.int .i64 z) ∧ I64 z := by
  rcases h with ⟨_, rfl⟩ | ⟨a, cap, rfl, h1, h2, h3⟩
  · exact absurd hi (Nat.not_lt_zero _)
  · exact ⟨a, cap, l[i], rfl, h1, h2, h3 i _ (List.getElem?_eq_getElem hi)⟩
theorem HowS.len {w : World} {v : Value} {l : List Int} (h : HowS w v l) : ∃ a c, v = .slice a l.length c := by
  rcases h with ⟨rfl, rfl⟩ | ⟨a, c, rfl, _⟩
  · exact ⟨none, 0, rfl⟩
  · exact ⟨some a, c, rfl⟩
theorem RawS.len {w : World} {v : Value} {l : List ByteArray} (h : RawS w v l) : ∃ a c, v = .slice a l.length c := by
  rcases h with ⟨rfl, rfl⟩ | ⟨a, c, rfl, _⟩
  · exact ⟨none, 0, rfl⟩
  · exact ⟨some a, c, rfl⟩
def mineB : ByteArray := ⟨#[109, 105, 110, 101]⟩
theorem has_mine (bg : List Nat) : hasB bg mineB = false := by
  unfold hasB
  rw [List.any_eq_false]
  intro c _ e
  have e : nm c = mineB := by simpa using e
  have h2 : (nm c).size = mineB.size := by rw [e]
  exact absurd (show (2 : Nat) = 4 from h2) (by decide)
def t5 : ByteArray := ⟨#[53]⟩
theorem txt_5 : TxtOK t5 (retA (vI 5)) := txt_of (l := [53]) (g := [tNum [53]]) (by kernel_rfl) (by kernel_rfl) (by kernel_rfl) (by kernel_rfl) (by kernel_rfl) (cg_lift (by omega) (cg_lift (by omega) (cg_lift (by omega) (cg_n [53] 5 rfl (by omega)))))
theorem v_5 {E : Env} {fs : Nat → ByteArray} {val : Nat → V} (hE : EnvOK E) (h : fs 47 = t5) (hv : ∀ c, Val E.D fs c (val c)) : val 47 = vI 5 := by
  refine (val_of hv (c := 47) (by rw [h]; exact txt_5.ne) (rs := []) trivial (Hold.nil _) ?_).1
  rw [h, txt_5.D hE]; kernel_rfl
section
variable {E : Env} {w0 w w' : World} {x y z : Nat} {fl fs flx fsx flx' fsx' fly fsy fly' fsy' : Nat → ByteArray} {k k' kx kx' ky ky' : Kp}
theorem ShS.besideA (hx : ShS E w0 w x flx fsx kx) (hy : ShS E w0 w y fl fs k) (ho : Only x w w') (hne : y ≠ x) : ShS E w0 w' y fl fs k := hy.other ho hx.xB hne hx.sr.notRead
theorem worked_n (hE : Hid (EnvOK E)) (hA : Hid (Amb w0)) (h : Hid (ShS E w0 w x fl fs k)) (how : Int) (hh : Hid (I64 how)) :
    Calls Tryz.prog 26 #[.pointer (some ⟨x, 0, none⟩), .int .i64 how] w fun e w' => ∃ v k' bg, e = .returned (.tuple #[v, .bool true]) ∧ Hid (ShS E w0 w' x fs fs k' ∧ WorkP E k fs (pk how 9 / 3) (pk how 9 % 3) k' bg ∧ Only x w w' ∧ Slc w' 9 1 v bg.length (bg.map nmV) ∧ ∀ g, v.ownBlock = some g → w.heap.size ≤ g) := by
  have hp := pk_lt how (n := 9) (by omega)
  refine (worked26 hE w x how hh fl fs bd0 k h.out.sr (EVc.ofVar (hA.out.below h.out.bel).1) h.out.kinv (h.out.ft.ok hE.out).1 (h.out.ft.ok hE.out).2).mono ?_
  rintro e w' ⟨v, k', bg, rfl, h1⟩
  obtain ⟨g1, g2, g3, g4, g5⟩ := h1.out
  exact ⟨v, k', bg, rfl, ⟨h.out.bel' g3, h.out.xB, g2, g1.inv hE.out h.out.kinv h.out.ft (by omega), h.out.ft⟩, g1, g3, g4, g5⟩
structure Ap (E : Env) (w0 w : World) (x y z : Nat) (flx fsx : Nat → ByteArray) (kx : Kp) (fly fsy : Nat → ByteArray) (ky : Kp) : Prop where
  hx : ShS E w0 w x flx fsx kx
  hy : ShS E w0 w y fly fsy ky
  hz : ∃ fl fs k, ShS E w0 w z fl fs k
  xy : x ≠ y
  xz : x ≠ z
  yz : y ≠ z
theorem Ap.below (h : Ap E w0 w x y z flx fsx kx fly fsy ky) (hb : Below w.heap.size w w') : Ap E w0 w' x y z flx fsx kx fly fsy ky := by
  obtain ⟨a, b, c, hz⟩ := h.hz
  exact ⟨h.hx.below hb, h.hy.below hb, ⟨a, b, c, hz.below hb⟩, h.xy, h.xz, h.yz⟩
theorem Ap.onx (h : Ap E w0 w x y z flx fsx kx fly fsy ky) (ho : Only x w w') (hs : ShS E w0 w' x flx' fsx' kx') : Ap E w0 w' x y z flx' fsx' kx' fly fsy ky := by
  obtain ⟨a, b, c, hz⟩ := h.hz
  exact ⟨hs, h.hx.besideA h.hy ho h.xy.symm, ⟨a, b, c, h.hx.besideA hz ho h.xz.symm⟩, h.xy, h.xz, h.yz⟩
theorem Ap.ony (h : Ap E w0 w x y z flx fsx kx fly fsy ky) (ho : Only y w w') (hs : ShS E w0 w' y fly' fsy' ky') : Ap E w0 w' x y z flx fsx kx fly' fsy' ky' := by
  obtain ⟨a, b, c, hz⟩ := h.hz
  exact ⟨h.hy.besideA h.hx ho h.xy, hs, ⟨a, b, c, h.hy.besideA hz ho h.yz.symm⟩, h.xy, h.xz, h.yz⟩
theorem Ap.onz (h : Ap E w0 w x y z flx fsx kx fly fsy ky) (ho : Only z w w') (hs : ShS E w0 w' z fl fs k) : Ap E w0 w' x y z flx fsx kx fly fsy ky := by
  obtain ⟨a, b, c, hz⟩ := h.hz
  exact ⟨hz.besideA h.hx ho h.xz, hz.besideA h.hy ho h.yz, ⟨_, _, _, hs⟩, h.xy, h.xz, h.yz⟩
structure Mn (w5 wr : World) (v : Value) (n : Nat) : Prop where
  s : ∃ xs, Slc wr 9 1 v n xs
  o : wr = w5 ∨ ∃ g, v.ownBlock = some g ∧ Only g w5 wr
theorem Mn.at {w5 wr : World} {ao : Option Addr} {n cp : Nat} (h : Mn w5 wr (.slice ao n cp) n) {j : Nat} (hj : j < n) : ∃ g o u, ao = some ⟨g, o, none⟩ ∧ n ≤ cp ∧ n ≤ maxLen ∧ wr.cell? ⟨g, o + j, none⟩ = some u ∧ wr.frozen? ⟨g, o + j, none⟩ = false ∧ ∀ q, Mn w5 (wr.setCell ⟨g, o + j, none⟩ q) (.slice (some ⟨g, o, none⟩) n cp) n := by
  obtain ⟨xs, hs⟩ := h.s
  obtain ⟨g, o, cap, e, hc⟩ := Slc.at hs (by omega)
  cases e
  have hl : j < xs.length := by rw [hs.1]; omega
  have hfz : wr.frozen? ⟨g, o + j, none⟩ = false := by
    rcases hs.2 with ⟨h2, _⟩ | ⟨g', o', cap', cur, h2, hg, _⟩
    · cases h2
    · cases h2
      simp [World.frozen?, hg]
  refine ⟨g, o, xs[j], rfl, hc, hs.max, hs.cell j _ (List.getElem?_eq_getElem hl), hfz, fun q => ⟨⟨_, hs.setC hl q⟩, .inr ⟨g, rfl, ?_⟩⟩⟩
  have ho : Only g wr (wr.setCell ⟨g, o + j, none⟩ q) := ⟨rfl, rfl, rfl, by simp [World.setCell], fun k _ hk => Below.heap_setCell _ _ _ _ hk⟩
  rcases h.o with rfl | ⟨g', e, h'⟩
  · exact ho
  · cases e
    exact h'.trans ho
theorem Ap.mine (h : Ap E w0 w x y z flx fsx kx fly fsy ky) {v : Value} {n : Nat} {xs : List Value} (hs : Slc w 9 1 v n xs) (hm : Mn w w' v n) {H : Nat} (hf : ∀ g, v.ownBlock = some g → H ≤ g) (hH : x < H ∧ y < H ∧ z < H ∧ w0.heap.size ≤ H) : Ap E w0 w' x y z flx fsx kx fly fsy ky := by
  rcases hm.o with rfl | ⟨g, e, ho⟩
  · exact h
  · have hg := hf g e
    have hr : ∀ cur, w.heap[g]? ≠ some (.cells cur 274 (0, 0)) := by
      intro cur e2
      rcases hs.2 with ⟨rfl, _⟩ | ⟨g', o', cap', cur', rfl, hg', _⟩
      · cases e
      · cases e
        rw [hg'] at e2
        cases e2
    obtain ⟨a, b, c, hz⟩ := h.hz
    exact ⟨h.hx.other ho (by omega) (by omega) hr, h.hy.other ho (by omega) (by omega) hr, ⟨a, b, c, hz.other ho (by omega) (by omega) hr⟩, h.xy, h.xz, h.yz⟩
theorem Ap.lts (h : Ap E w0 w x y z flx fsx kx fly fsy ky) : x < w.heap.size ∧ y < w.heap.size ∧ z < w.heap.size ∧ w0.heap.size ≤ w.heap.size := by
  obtain ⟨a, b, c, hz⟩ := h.hz
  exact ⟨h.hx.sr.lt, h.hy.sr.lt, hz.sr.lt, h.hx.bel.size⟩
end
theorem apNums {i : Nat} (h : i < 12) : IntKind.i64.wrap ((i : Int) + 1) = (i : Int) + 1 ∧ wrap64 ((i : Int) + 1) = (i : Int) + 1 ∧ (i : Int) < 12 ∧ 0 ≤ (i : Int) ∧ I64 (i : Int) := ⟨by rw [IntKind.wrap_i64]; omega, by unfold wrap64; omega, by omega, by omega, by unfold I64; omega⟩
theorem mn_meas {j n : Nat} (h : j < n) : ((n : Int) - ((j + 1 : Nat) : Int)).toNat < ((n : Int) - (j : Int)).toNat := by omega
theorem ap_meas {i : Nat} (h : i < 12) : (100 - ((i + 1 : Nat) : Int)).toNat < (100 - (i : Int)).toNat := by omega
end Go.Proofs.YtlpmmmmniojflaaGreatDoor
