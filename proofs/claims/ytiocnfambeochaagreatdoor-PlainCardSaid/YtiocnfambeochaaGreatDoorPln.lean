/- The program's plain form of a list of tokens: 'grammar.Plain'. -/
import Derived.Test.YtiocnfambeochaaGreatDoorBld
namespace Go.Proofs.YtiocnfambeochaaGreatDoor
open Go.RowKit

theorem bld_below {w w' : World} {B b : Nat} {p : Value} {bs : List Value} (h : Lib.BuilderAt 123 5 B b p bs w) (hb : Below w.heap.size w w') : Lib.BuilderAt 123 5 B b p bs w' := by
  have hl := h.lt
  obtain ⟨hB, v, hbk, hown, hne⟩ := h
  exact ⟨hB, v, by rw [hb.block b hl]; exact hbk, owns_below hown hb, hne⟩
theorem isb_below {w w' : World} {B b : Nat} {bs : List Value} (h : Lib.IsBuilder 123 5 B b bs w) (hb : Below w.heap.size w w') : Lib.IsBuilder 123 5 B b bs w' :=
  h.elim (fun x => .inl (bld_below x hb)) (fun x => .inr (bld_below x hb))

theorem size_list (l : List UInt8) : (⟨l.toArray⟩ : ByteArray).size = l.length := by simp [ByteArray.size]

theorem ptk_len (t : Tk) : (ptk t).length ≤ t.x.length + 2 := by
  have h1 : (nzT t.x).length ≤ t.x.length + 2 := by
    unfold nzT
    split
    · simp
    · have := (List.dropWhile_sublist (fun c : UInt8 => c == 48) (l := t.x)).length_le; omega
  unfold ptk
  split
  · exact h1
  · split
    · simp
    · split
      · simp
      · omega
theorem flat_len (ts : List Tk) (h : ∀ t ∈ ts, t.x.length ≤ 1000) : (ts.flatMap ptk).length ≤ ts.length * 1002 := by
  induction ts with
  | nil => simp
  | cons a r ih =>
    have h1 := ptk_len a
    have h2 := h a List.mem_cons_self
    have h3 := ih fun t ht => h t (List.mem_cons_of_mem _ ht)
    simp only [List.flatMap_cons, List.length_append, List.length_cons]
    omega

set_option maxHeartbeats 2000000 in
theorem plain_any (w : World) (v : Value) (ts : List Tk) (h : TL w v ts) (hs : ts.length ≤ 1000000) (hx : Hid (∀ t ∈ ts, t.x.length ≤ 1000)) :
    Calls Tryz.prog 42 #[v] w fun e w' => e = .returned (.string ⟨(ts.flatMap ptk).toArray⟩) ∧ Below w.heap.size w w' := by
  obtain ⟨ao, c, hv⟩ : ∃ ao c, v = .slice ao ts.length c := by
    rcases h with ⟨hv, hn0⟩ | ⟨g, cap, hv, _⟩
    · exact ⟨none, 0, by rw [hv, hn0]; rfl⟩
    · exact ⟨_, _, hv⟩
  subst hv
  have HT : Hid (TL w (.slice ao ts.length c) ts) := h
  clear h
  go_enter Tryz.func42, Tryz.ntmps42
  go_wp2_with fail
  go_loopw [8] (fun x wr => ∃ k : Nat, k ≤ ts.length ∧ x = .int .i64 k ∧ Hid (Lib.IsBuilder 123 5 w.heap.size w.heap.size (Lib.byteCells ((ts.take k).flatMap ptk)) wr) ∧ Hid (Below w.heap.size w wr)) (fun x _ => ts.length - (intOf x).toNat)
  case atStart =>
    refine ⟨0, by omega, rfl, ?_, (Below.refl _ _).alloc (Nat.le_refl _) _⟩
    exact Or.inl ⟨Nat.le_refl _, .slice none 0 0, heap_alloc_new w _, World.ownsRow_nil _ _ _ _, by simp [Value.ownBlock]⟩
  case round =>
    obtain ⟨k, hk, rfl, hbd, hb⟩ := hrel
    by_cases hlt : k < ts.length
    · obtain ⟨t, ht⟩ : ∃ t, ts[k]? = some t := ⟨_, List.getElem?_eq_getElem hlt⟩
      have hlti : (k : Int) < (ts.length : Int) := by omega
      obtain ⟨g, cap, hve, hcap, hcs⟩ : ∃ g cap, Value.slice ao ts.length c = .slice (some ⟨g, 0, none⟩) ts.length cap ∧ ts.length ≤ cap ∧ ∀ (j : Nat) (t : Tk), ts[j]? = some t →
          w.cell? ⟨g, j * 3, none⟩ = some (.int .i64 t.k) ∧ w.cell? ⟨g, j * 3 + 1, none⟩ = some (.string ⟨t.x.toArray⟩) ∧ w.cell? ⟨g, j * 3 + 2, none⟩ = some (.int .i64 t.p) := by
        rcases HT.out with ⟨_, hn⟩ | h
        · rw [hn] at hlt; simp at hlt
        · exact h
      obtain ⟨rfl, rfl⟩ : ao = some ⟨g, 0, none⟩ ∧ c = cap := by simpa using hve
      clear hve
      obtain ⟨c0, c1, c2⟩ := hcs k t ht
      have hgl : g < w.heap.size := World.block_lt_of_cell? w _ c0
      have d0 : wr.cell? ⟨g, k * 3, none⟩ = some (.int .i64 t.k) := (hb.out.cell (by exact hgl)).trans c0
      have d1 : wr.cell? ⟨g, k * 3 + 1, none⟩ = some (.string ⟨t.x.toArray⟩) := (hb.out.cell (by exact hgl)).trans c1
      have d2 : wr.cell? ⟨g, k * 3 + 2, none⟩ = some (.int .i64 t.p) := (hb.out.cell (by exact hgl)).trans c2
      have HTK : Hid _ := ht
      have hxl : Hid (t.x.length ≤ 1000) := hx.out t (List.mem_of_getElem? ht)
      clear c0 c1 c2 hcs ht
      go_wp2_with fail
      refine (plainToken_any t _ (by have := hxl.out; omega)).mono ?_
      rintro e w1 ⟨rfl, hb1⟩
      have hw1 : Below wr.heap.size wr w1 := ((Below.refl _ _).alloc (Nat.le_refl _) _).trans (hb1.mono (by simp))
      have HBD : Hid (Lib.IsBuilder 123 5 w.heap.size w.heap.size (Lib.byteCells ((ts.take k).flatMap ptk)) w1) := isb_below hbd.out hw1
      have HB1 : Hid (Below w.heap.size w w1) := hb.out.trans (hw1.mono hb.out.size)
      have hsum : Hid (((ts.take k).flatMap ptk).length + (ptk t).length ≤ 1003000000) := by
        have h1 := flat_len (ts.take k) fun u hu => hx.out u (List.mem_of_mem_take hu)
        have h2 := ptk_len t
        have h3 := hxl.out
        have h4 : (ts.take k).length ≤ 1000000 := by rw [List.length_take]; omega
        unfold Hid
        omega
      clear hb1 hw1 hbd
      go_wp2_with fail
      refine (write_any w.heap.size w.heap.size _ _ _ HBD.out (by rw [Lib.byteCells_length, size_list]; have := hsum.out; omega) HB1.out.size).mono ?_
      rintro e w2 ⟨rfl, hbd2, hb2⟩
      have HBD2 : Hid (Lib.IsBuilder 123 5 w.heap.size w.heap.size (Lib.byteCells ((ts.take (k + 1)).flatMap ptk)) w2) := by
        refine Or.inr ?_
        rw [List.take_add_one, HTK.out]
        simp only [Option.toList_some, List.flatMap_append, List.flatMap_cons, List.flatMap_nil, List.append_nil]
        rw [Lib.byteCells_append]
        exact hbd2
      have HB2 : Hid (Below w.heap.size w w2) := HB1.out.trans hb2
      clear hbd2 hb2
      go_wp2_with fail
      go_roundw
      case rel => exact ⟨k + 1, by omega, by go_num, HBD2, HB2⟩
      case measure => simp [intOf]; omega
    · have e : k = ts.length := by omega
      have hlti : ¬ (k : Int) < (ts.length : Int) := by omega
      have HBD : Hid (Lib.IsBuilder 123 5 w.heap.size w.heap.size (Lib.byteCells (ts.flatMap ptk)) wr) := by
        have := hbd.out
        rw [e, List.take_length] at this
        exact this
      clear hbd e
      go_wp2_with fail
      refine (Tryz.Builder_String_any w.heap.size w.heap.size _ _ HBD.out hb.out.size).mono ?_
      rintro e w2 ⟨rfl, hb2⟩
      go_wp2_with fail
      go_ret
      exact ⟨rfl, hb.out.trans hb2⟩
end Go.Proofs.YtiocnfambeochaaGreatDoor
