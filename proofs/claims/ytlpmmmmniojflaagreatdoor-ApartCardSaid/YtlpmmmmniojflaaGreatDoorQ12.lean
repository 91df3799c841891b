/- Texts put together. -/
import Derived.Test.YtlpmmmmniojflaaGreatDoorQ10
import Derived.Lib.Builder
import Derived.Lib.AppendStr
import Derived.Laws.Externs
import Derived.Test.YtlpmmmmniojflaaGreatDoorQ11
/- A token in its plain form: 'withoutNoughts', 'plainToken'. -/
namespace Go.Proofs.YtlpmmmmniojflaaGreatDoor
open Go.RowKit
def nzT (l : List UInt8) : List UInt8 := if l.dropWhile (· == 48) = [] then [48] else l.dropWhile (· == 48)
def ptk (t : Tk) : List UInt8 :=
  if t.k = 1 then nzT t.x else if t.k ∈ [16, 17, 18, 19, 20, 21, 22] then 32 :: (t.x ++ [32]) else if t.k = 14 then t.x ++ [32] else t.x
theorem str_eq {a b : ByteArray} (h : a.data.toList = b.data.toList) : Ending.returned (.string a) = .returned (.string b) := by
  obtain ⟨⟨a⟩⟩ := a
  obtain ⟨⟨b⟩⟩ := b
  simp only at h
  rw [h]
theorem trim_any (s : ByteArray) (w : World) : Calls Tryz.prog 126 #[.string s, .string ⟨#[48]⟩] w fun e w' => e = .returned (.string ⟨(s.data.toList.dropWhile (· == 48)).toArray⟩) ∧ w' = w :=
  Tryz.strings_TrimLeft_one s 48 (by decide) w
set_option maxHeartbeats 1000000 in
theorem noughts_any (s : ByteArray) (w : World) : Calls Tryz.prog 96 #[.string s] w fun e w' => e = .returned (.string ⟨(nzT s.data.toList).toArray⟩) ∧ w' = w := by
  have hn : Hid _ := show nzT s.data.toList = if s.data.toList.dropWhile (· == 48) = [] then [48] else s.data.toList.dropWhile (· == 48) from rfl
  obtain ⟨r, hr⟩ : ∃ r, s.data.toList.dropWhile (· == 48) = r := ⟨_, rfl⟩
  have HR : Hid _ := hr
  clear hr
  go_enter Tryz.func96, Tryz.ntmps96
  go_wp2_with fail
  refine (trim_any s _).mono ?_
  rintro e w1 ⟨rfl, rfl⟩
  rw [HR.out]
  cases r with
  | nil =>
    have HN : Hid (nzT s.data.toList = [48]) := by unfold Hid; rw [hn.out, HR.out, if_pos rfl]
    go_wp2_with fail
    go_ret
    rw [HN.out]
    exact ⟨rfl, rfl⟩
  | cons a r =>
    have HN : Hid (nzT s.data.toList = a :: r) := by unfold Hid; rw [hn.out, HR.out, if_neg (by simp)]
    go_wp2_with fail
    go_ret
    rw [HN.out]
    exact ⟨rfl, rfl⟩
set_option maxHeartbeats 1000000 in
theorem plainToken_any (t : Tk) (w : World) (hx : t.x.length ≤ 1000000) :
    Calls Tryz.prog 64 #[.agg #[.int .i64 t.k, .string ⟨t.x.toArray⟩, .int .i64 t.p]] w fun e w' => e = .returned (.string ⟨(ptk t).toArray⟩) ∧ Below w.heap.size w w' := by
  obtain ⟨k, x, p⟩ := t
  simp only at hx ⊢
  have HP : Hid (ptk ⟨k, x, p⟩ = if k = 1 then nzT x else if k ∈ [16, 17, 18, 19, 20, 21, 22] then 32 :: (x ++ [32]) else if k = 14 then x ++ [32] else x) := rfl
  generalize ptk ⟨k, x, p⟩ = out at *
  by_cases h1 : k = 1
  · have b1 : (k == 1) = true := by simpa using h1
    have HP2 : Hid (out = nzT x) := by unfold Hid; rw [HP.out, if_pos h1]
    clear HP h1
    go_enter Tryz.func64, Tryz.ntmps64
    go_wp2_with fail
    refine (noughts_any _ _).mono ?_
    rintro e w1 ⟨rfl, rfl⟩
    go_wp2_with fail
    go_ret
    rw [HP2.out]
    exact ⟨rfl, (Below.refl _ _).alloc (Nat.le_refl _) _⟩
  by_cases h2 : k ∈ [16, 17, 18, 19, 20, 21, 22]
  · have HP2 : Hid (out = 32 :: (x ++ [32])) := by unfold Hid; rw [HP.out, if_neg h1, if_pos h2]
    simp only [List.mem_cons, List.not_mem_nil, or_false] at h2
    clear HP h1
    rcases h2 with rfl | rfl | rfl | rfl | rfl | rfl | rfl
    all_goals
      go_enter Tryz.func64, Tryz.ntmps64
      go_wp2_with fail
      go_ret
      rw [HP2.out]
      refine ⟨?_, (Below.refl _ _).alloc (Nat.le_refl _) _⟩
      first | rfl | (refine str_eq ?_; simp)
  have b1 : (k == 1) = false := by simpa using h1
  simp only [List.mem_cons, List.not_mem_nil, or_false, not_or] at h2
  obtain ⟨a16, a17, a18, a19, a20, a21, a22⟩ := h2
  have b16 : (k == 16) = false := by simpa using a16
  have b17 : (k == 17) = false := by simpa using a17
  have b18 : (k == 18) = false := by simpa using a18
  have b19 : (k == 19) = false := by simpa using a19
  have b20 : (k == 20) = false := by simpa using a20
  have b21 : (k == 21) = false := by simpa using a21
  have b22 : (k == 22) = false := by simpa using a22
  have HP3 : Hid (out = if k = 14 then x ++ [32] else x) := by unfold Hid; rw [HP.out, if_neg h1, if_neg (by simp [a16, a17, a18, a19, a20, a21, a22])]
  clear HP h1 a16 a17 a18 a19 a20 a21 a22
  by_cases h14 : k = 14
  · have b14 : (k == 14) = true := by simpa using h14
    have HP2 : Hid (out = x ++ [32]) := by unfold Hid; rw [HP3.out, if_pos h14]
    clear HP3 h14
    go_enter Tryz.func64, Tryz.ntmps64
    go_wp2_with fail
    go_ret
    rw [HP2.out]
    refine ⟨?_, (Below.refl _ _).alloc (Nat.le_refl _) _⟩
    first | rfl | (refine str_eq ?_; simp)
  · have b14 : (k == 14) = false := by simpa using h14
    have HP2 : Hid (out = x) := by unfold Hid; rw [HP3.out, if_neg h14]
    clear HP3 h14
    go_enter Tryz.func64, Tryz.ntmps64
    go_wp2_with fail
    go_ret
    rw [HP2.out]
    refine ⟨?_, (Below.refl _ _).alloc (Nat.le_refl _) _⟩
    first | rfl | (refine str_eq ?_; simp)
end Go.Proofs.YtlpmmmmniojflaaGreatDoor
/- The library's Builder in this program: 'copyCheck', 'WriteString'. -/
namespace Go.Proofs.YtlpmmmmniojflaaGreatDoor
open Go.RowKit
theorem bSize : (Tryz.prog.info? 123).map (·.size) = some 2 := by kernel_rfl
theorem bLies : liesAt Tryz.prog Tryz.prog.depth 123 (2 / Tryz.prog.cellsOf 123) 0 123 1 = true := by kernel_rfl
theorem Tryz.info5 : (Tryz.prog.info? 5).map (fun i => (i.zero, i.size, i.bytes)) = some (some (.int .u8 0), 1, 1) := by kernel_rfl
set_option maxHeartbeats 1000000 in
set_option maxRecDepth 100000 in
theorem check_used (b : Nat) (w : World) (h0 : w.cell? ⟨b, 0, none⟩ = some (.pointer (some ⟨b, 0, none⟩))) :
    Calls Tryz.prog 76 #[.pointer (some ⟨b, 0, none⟩)] w fun e w' => e = .returned (.tuple #[]) ∧ w' = w := by
  obtain ⟨j, hj, _⟩ := Option.map_eq_some_iff.1 bSize
  go_enter Tryz.func76, Tryz.ntmps76
  go_wp2
  rw [Lib.run_neq_ptr_same w _ Tryz.underlying121 hj]
  go_wp2
  go_end0
  exact ⟨rfl, rfl⟩
set_option maxHeartbeats 1000000 in
set_option maxRecDepth 100000 in
theorem check_fresh (b : Nat) (w : World) (h0 : w.cell? ⟨b, 0, none⟩ = some (.pointer none)) (hsh : w.shape? b = some (123, 2)) (hfz : w.frozen? ⟨b, 0, none⟩ = false) :
    Calls Tryz.prog 76 #[.pointer (some ⟨b, 0, none⟩)] w fun e w' => e = .returned (.tuple #[]) ∧ w' = w.setCell ⟨b, 0, none⟩ (.pointer (some ⟨b, 0, none⟩)) := by
  obtain ⟨j, hj, hjs⟩ := Option.map_eq_some_iff.1 bSize
  go_enter Tryz.func76, Tryz.ntmps76
  go_wp2
  rw [Lib.run_to_unsafe w ⟨b, 0, none⟩ Tryz.underlying121 Tryz.underlying204 hj (by rw [hjs]; decide) hsh (Nat.zero_lt_succ 1)]
  simp only [Result.andThen]
  rw [Oper.upon_value]
  go_wp2
  rw [run_callFunc_extern Tryz.func106 (by kernel_rfl) (by kernel_rfl) (by kernel_rfl) (e := Extern.AbiNoEscape.same) (by kernel_rfl)]
  rw [Lib.run_noEscape]
  simp only [Result.andThen]
  rw [Oper.upon_value]
  go_wp2
  rw [Lib.run_from_unsafe w ⟨b, 0, none⟩ Tryz.underlying204 Tryz.underlying121 hj hsh bLies]
  simp only [Result.andThen]
  rw [Oper.upon_value]
  go_wp2
  go_end0
  exact ⟨rfl, rfl⟩
theorem check_bld (B b : Nat) (bs : List Value) (w : World) (h : Lib.IsBuilder 123 5 B b bs w) :
    Calls Tryz.prog 76 #[.pointer (some ⟨b, 0, none⟩)] w fun e w' => e = .returned (.tuple #[]) ∧ (Lib.BuilderAt 123 5 B b (.pointer (some ⟨b, 0, none⟩)) bs w' ∧ Below B w w') := by
  rcases h with h | h
  · refine (check_fresh b w h.cell0 h.shape h.frozen0).mono ?_
    rintro e w' ⟨rfl, rfl⟩
    exact ⟨rfl, h.used _, (Below.refl B w).setCell (p := ⟨b, 0, none⟩) h.1 _⟩
  · refine (check_used b w h.cell0).mono ?_
    rintro e w' ⟨rfl, rfl⟩
    exact ⟨rfl, h, Below.refl B _⟩
set_option maxHeartbeats 2000000 in
set_option maxRecDepth 100000 in
theorem write_any (B b : Nat) (bs : List Value) (s : ByteArray) (w : World) (h : Lib.IsBuilder 123 5 B b bs w) (hlen : bs.length + s.size ≤ 140737488355328) (hBw : B ≤ w.heap.size) :
    Calls Tryz.prog 52 #[.pointer (some ⟨b, 0, none⟩), .string s] w fun e w' => e = .returned (.tuple #[.int .i64 s.size, .nilIface]) ∧ (Lib.BuilderAt 123 5 B b (.pointer (some ⟨b, 0, none⟩)) (bs ++ Lib.strCells s) w' ∧ Below B w w') := by
  obtain ⟨i0, hi, hz0, hz1, hz2⟩ := info_parts Tryz.info5
  go_enter Tryz.func52, Tryz.ntmps52
  go_wp2_with fail
  refine (check_bld B b bs _ h).mono ?_
  rintro e w1 ⟨rfl, h1, hb1⟩
  obtain ⟨hB, v, hbk, hown, hne⟩ := h1
  have c0 : w1.cell? ⟨b, 0, none⟩ = some (.pointer (some ⟨b, 0, none⟩)) := by rw [Lib.cell_of_heap hbk]; rfl
  have c1 : w1.cell? ⟨b, 1, none⟩ = some v := by rw [Lib.cell_of_heap hbk]; rfl
  clear h
  go_wp2_with (at_builtin; refine Lib.wpList_append_own_string _ rfl _ _ 118 9 rfl B 5 i0 Tryz.underlying118 Tryz.underlying9 hi hz0 hz1 hz2 _ _ _ rfl hown s rfl ?c3 ?c4 ?c5 ?_)
  case c3 => unfold maxLen; omega
  case c4 => omega
  case c5 => have := hb1.size; omega
  intro v' w2 hown' hgrow _
  have hlt : b < w1.heap.size := lt_of_block hbk
  have hb2 : w2.heap[b]? = some (.cells #[.pointer (some ⟨b, 0, none⟩), v] 123 (0, 0)) := by
    rw [hgrow.block b hlt (fun e => hne e.symm)]
    exact hbk
  have d0 : w2.cell? ⟨b, 0, none⟩ = some (.pointer (some ⟨b, 0, none⟩)) := by rw [Lib.cell_of_heap hb2]; rfl
  have d1 : w2.cell? ⟨b, 1, none⟩ = some v := by rw [Lib.cell_of_heap hb2]; rfl
  have f1 : w2.frozen? ⟨b, 1, none⟩ = false := Lib.frozen_of_heap hb2 1
  obtain ⟨ao, n', cap, rfl⟩ : ∃ ao n' cap, v' = .slice ao n' cap := by
    rcases hown'.2 with ⟨hv, _⟩ | ⟨g, cap, cur, hv, _⟩
    · exact ⟨_, _, _, hv⟩
    · exact ⟨_, _, _, hv⟩
  go_wp2
  go_ret2
  refine ⟨rfl, ?_, ?_⟩
  · exact Lib.BuilderAt.put (T := 123) (e := 5) hB hb2 (bs' := bs ++ Lib.strCells s) (by simpa [Lib.strCells_length] using hown') (by decide)
  · exact (hb1.grown hgrow (by have := hb1.size; omega) (fun k hk => (hown.lt k hk).1)).setCell (p := ⟨b, 1, none⟩) hB _
end Go.Proofs.YtlpmmmmniojflaaGreatDoor
/- The program's plain form of a list of tokens: 'grammar.Plain'. -/
namespace Go.Proofs.YtlpmmmmniojflaaGreatDoor
open Go.RowKit
theorem bld_below {w w' : World} {B b : Nat} {p : Value} {bs : List Value} (h : Lib.BuilderAt 123 5 B b p bs w) (hb : Below w.heap.size w w') : Lib.BuilderAt 123 5 B b p bs w' := by
  have hl := h.lt
  obtain ⟨hB, v, hbk, hown, hne⟩ := h
  exact ⟨hB, v, by rw [hb.block b hl]; exact hbk, owns_below hown hb, hne⟩
theorem isb_below {w w' : World} {B b : Nat} {bs : List Value} (h : Lib.IsBuilder 123 5 B b bs w) (hb : Below w.heap.size w w') : Lib.IsBuilder 123 5 B b bs w' :=
  h.elim (fun x => .inl (bld_below x hb)) (fun x => .inr (bld_below x hb))
theorem size_list (l : List UInt8) : (⟨l.toArray⟩ : ByteArray).size = l.length := by simp [ByteArray.size]
theorem ptk_len (t : Tk) : (ptk t).length ≤ t.x.length + 2 := by
  have h1 : (nzT t.x).length ≤ t.x.length + 2 := by
    unfold nzT
    split
    · simp
    · have := (List.dropWhile_sublist (fun c : UInt8 => c == 48) (l := t.x)).length_le; omega
  unfold ptk
  split
  · exact h1
  · split
    · simp
    · split
      · simp
      · omega
theorem flat_len (ts : List Tk) (h : ∀ t ∈ ts, t.x.length ≤ 1000) : (ts.flatMap ptk).length ≤ ts.length * 1002 := by
  induction ts with
  | nil => simp
  | cons a r ih =>
    have h1 := ptk_len a
    have h2 := h a List.mem_cons_self
    have h3 := ih fun t ht => h t (List.mem_cons_of_mem _ ht)
    simp only [List.flatMap_cons, List.length_append, List.length_cons]
    omega
set_option maxHeartbeats 2000000 in
theorem plain_any (w : World) (v : Value) (ts : List Tk) (h : TL w v ts) (hs : ts.length ≤ 1000000) (hx : Hid (∀ t ∈ ts, t.x.length ≤ 1000)) :
    Calls Tryz.prog 42 #[v] w fun e w' => e = .returned (.string ⟨(ts.flatMap ptk).toArray⟩) ∧ Below w.heap.size w w' := by
  obtain ⟨ao, c, hv⟩ : ∃ ao c, v = .slice ao ts.length c := by
    rcases h with ⟨hv, hn0⟩ | ⟨g, cap, hv, _⟩
    · exact ⟨none, 0, by rw [hv, hn0]; rfl⟩
    · exact ⟨_, _, hv⟩
  subst hv
  have HT : Hid (TL w (.slice ao ts.length c) ts) := h
  clear h
  go_enter Tryz.func42, Tryz.ntmps42
  go_wp2_with fail
  go_loopw [8] (fun x wr => ∃ k : Nat, k ≤ ts.length ∧ x = .int .i64 k ∧ Hid (Lib.IsBuilder 123 5 w.heap.size w.heap.size (Lib.byteCells ((ts.take k).flatMap ptk)) wr) ∧ Hid (Below w.heap.size w wr)) (fun x _ => ts.length - (intOf x).toNat)
  case atStart =>
    refine ⟨0, by omega, rfl, ?_, (Below.refl _ _).alloc (Nat.le_refl _) _⟩
    exact Or.inl ⟨Nat.le_refl _, .slice none 0 0, heap_alloc_new w _, World.ownsRow_nil _ _ _ _, by simp [Value.ownBlock]⟩
  case round =>
    obtain ⟨k, hk, rfl, hbd, hb⟩ := hrel
    by_cases hlt : k < ts.length
    · obtain ⟨t, ht⟩ : ∃ t, ts[k]? = some t := ⟨_, List.getElem?_eq_getElem hlt⟩
      have hlti : (k : Int) < (ts.length : Int) := by omega
      obtain ⟨g, cap, hve, hcap, hcs⟩ : ∃ g cap, Value.slice ao ts.length c = .slice (some ⟨g, 0, none⟩) ts.length cap ∧ ts.length ≤ cap ∧ ∀ (j : Nat) (t : Tk), ts[j]? = some t →
          w.cell? ⟨g, j * 3, none⟩ = some (.int .i64 t.k) ∧ w.cell? ⟨g, j * 3 + 1, none⟩ = some (.string ⟨t.x.toArray⟩) ∧ w.cell? ⟨g, j * 3 + 2, none⟩ = some (.int .i64 t.p) := by
        rcases HT.out with ⟨_, hn⟩ | h
        · rw [hn] at hlt; simp at hlt
        · exact h
      obtain ⟨rfl, rfl⟩ : ao = some ⟨g, 0, none⟩ ∧ c = cap := by simpa using hve
      clear hve
      obtain ⟨c0, c1, c2⟩ := hcs k t ht
      have hgl : g < w.heap.size := World.block_lt_of_cell? w _ c0
      have d0 : wr.cell? ⟨g, k * 3, none⟩ = some (.int .i64 t.k) := (hb.out.cell (by exact hgl)).trans c0
      have d1 : wr.cell? ⟨g, k * 3 + 1, none⟩ = some (.string ⟨t.x.toArray⟩) := (hb.out.cell (by exact hgl)).trans c1
      have d2 : wr.cell? ⟨g, k * 3 + 2, none⟩ = some (.int .i64 t.p) := (hb.out.cell (by exact hgl)).trans c2
      have HTK : Hid _ := ht
      have hxl : Hid (t.x.length ≤ 1000) := hx.out t (List.mem_of_getElem? ht)
      clear c0 c1 c2 hcs ht
      go_wp2_with fail
      refine (plainToken_any t _ (by have := hxl.out; omega)).mono ?_
      rintro e w1 ⟨rfl, hb1⟩
      have hw1 : Below wr.heap.size wr w1 := ((Below.refl _ _).alloc (Nat.le_refl _) _).trans (hb1.mono (by simp))
      have HBD : Hid (Lib.IsBuilder 123 5 w.heap.size w.heap.size (Lib.byteCells ((ts.take k).flatMap ptk)) w1) := isb_below hbd.out hw1
      have HB1 : Hid (Below w.heap.size w w1) := hb.out.trans (hw1.mono hb.out.size)
      have hsum : Hid (((ts.take k).flatMap ptk).length + (ptk t).length ≤ 1003000000) := by
        have h1 := flat_len (ts.take k) fun u hu => hx.out u (List.mem_of_mem_take hu)
        have h2 := ptk_len t
        have h3 := hxl.out
        have h4 : (ts.take k).length ≤ 1000000 := by rw [List.length_take]; omega
        unfold Hid
        omega
      clear hb1 hw1 hbd
      go_wp2_with fail
      refine (write_any w.heap.size w.heap.size _ _ _ HBD.out (by rw [Lib.byteCells_length, size_list]; have := hsum.out; omega) HB1.out.size).mono ?_
      rintro e w2 ⟨rfl, hbd2, hb2⟩
      have HBD2 : Hid (Lib.IsBuilder 123 5 w.heap.size w.heap.size (Lib.byteCells ((ts.take (k + 1)).flatMap ptk)) w2) := by
        refine Or.inr ?_
        rw [List.take_add_one, HTK.out]
        simp only [Option.toList_some, List.flatMap_append, List.flatMap_cons, List.flatMap_nil, List.append_nil]
        rw [Lib.byteCells_append]
        exact hbd2
      have HB2 : Hid (Below w.heap.size w w2) := HB1.out.trans hb2
      clear hbd2 hb2
      go_wp2_with fail
      go_roundw
      case rel => exact ⟨k + 1, by omega, by go_num, HBD2, HB2⟩
      case measure => simp [intOf]; omega
    · have e : k = ts.length := by omega
      have hlti : ¬ (k : Int) < (ts.length : Int) := by omega
      have HBD : Hid (Lib.IsBuilder 123 5 w.heap.size w.heap.size (Lib.byteCells (ts.flatMap ptk)) wr) := by
        have := hbd.out
        rw [e, List.take_length] at this
        exact this
      clear hbd e
      go_wp2_with fail
      refine (Tryz.Builder_String_any w.heap.size w.heap.size _ _ HBD.out hb.out.size).mono ?_
      rintro e w2 ⟨rfl, hb2⟩
      go_wp2_with fail
      go_ret
      exact ⟨rfl, hb.out.trans hb2⟩
end Go.Proofs.YtlpmmmmniojflaaGreatDoor
/- The program's call Plain, whole: what it answers is a plain function of the text. -/
namespace Go.Proofs.YtlpmmmmniojflaaGreatDoor
open Go.RowKit
def Txt (us ts : List Tk) : Prop := us.map (fun t => t.x) = ts.map (fun t => t.x)
theorem mark_txt (ts : List Tk) (i : Nat) : Txt (mark ts i) ts := by
  unfold Txt mark
  induction ts generalizing i with
  | nil => simp
  | cons a r ih =>
    cases i with
    | zero => simp [List.modify_cons]
    | succ i => simp [ih i]
theorem ngs_txt : ∀ (n : Nat) (ts : List Tk) (i : Nat), Txt (ngs n ts i).1 ts
  | 0, _, _ => rfl
  | n + 1, ts, i => by
    unfold ngs
    by_cases h : kindAt ts i = 17
    · rw [if_pos h]; exact (ngs_txt n (mark ts i) (i + 1)).trans (mark_txt ts i)
    · rw [if_neg h]; rfl
theorem prs_txt : ∀ (f tag : Nat) (ts : List Tk) (i d : Nat) (r : PR), prs f tag ts i d = some r → Txt r.ts ts
  | 0, _, _, _, _, _, h => by simp [prs] at h
  | f + 1, tag, ts, i, d, r, h => by
    have ih := prs_txt f
    have loop : ∀ (t1 t2 : Nat) (ks : List Int), andThen (prs f t1 ts i d) (fun ts i d => if kindAt ts i ∈ ks then prs f t2 ts (i + 1) d else some ⟨true, ts, i, d⟩) = some r → Txt r.ts ts := by
      intro t1 t2 ks h
      obtain ⟨r1, e1, ⟨_, rfl⟩ | ⟨_, h2⟩⟩ := and_cases h
      · exact ih _ _ _ _ _ e1
      have d1 := ih _ _ _ _ _ e1
      by_cases hk : kindAt r1.ts r1.i ∈ ks
      · rw [if_pos hk] at h2; exact (ih _ _ _ _ _ h2).trans d1
      · rw [if_neg hk] at h2; cases h2; exact d1
    unfold prs at h
    by_cases t0 : tag = 0
    · rw [if_pos t0] at h; exact loop _ _ _ h
    rw [if_neg t0] at h
    by_cases t1 : tag = 1
    · rw [if_pos t1] at h; exact loop _ _ _ h
    rw [if_neg t1] at h
    by_cases t2 : tag = 2
    · rw [if_pos t2] at h; exact loop _ _ _ h
    rw [if_neg t2] at h
    by_cases t3 : tag = 3
    · rw [if_pos t3] at h
      have hn := ngs_txt 8 ts i
      generalize (ngs 8 ts i).1 = us at *
      generalize (ngs 8 ts i).2 = j at *
      by_cases k1 : kindAt us j ∈ [1, 2, 3, 4, 5]
      · rw [if_pos k1] at h; cases h; exact hn
      rw [if_neg k1] at h
      by_cases k2 : kindAt us j = 12
      · rw [if_pos k2] at h; exact (ih _ _ _ _ _ h).trans hn
      rw [if_neg k2] at h
      by_cases k3 : kindAt us j = 6
      · rw [if_pos k3] at h; exact (ih _ _ _ _ _ h).trans hn
      rw [if_neg k3] at h
      by_cases k4 : kindAt us j ∈ [7, 8]
      · rw [if_pos k4] at h; exact (ih _ _ _ _ _ h).trans hn
      rw [if_neg k4] at h
      by_cases k5 : kindAt us j ∈ [9, 10]
      · rw [if_pos k5] at h; exact (ih _ _ _ _ _ h).trans hn
      rw [if_neg k5] at h
      cases h; exact hn
    rw [if_neg t3] at h
    by_cases t4 : tag = 4
    · rw [if_pos t4] at h
      obtain ⟨r1, e1, ⟨h1, rfl⟩ | ⟨h1, h2⟩⟩ := and_cases h
      · exact ih _ _ _ _ _ e1
      have d1 := ih _ _ _ _ _ e1
      rcases wants_some h2 with ⟨_, rfl⟩ | ⟨_, h3⟩
      · exact d1
      obtain ⟨r2, e2, ⟨h4, rfl⟩ | ⟨h4, h5⟩⟩ := and_cases h3
      · exact (ih _ _ _ _ _ e2).trans d1
      have d2 := (ih _ _ _ _ _ e2).trans d1
      rcases wants_some h5 with ⟨_, rfl⟩ | ⟨_, h6⟩
      · exact d2
      exact (ih _ _ _ _ _ h6).trans d2
    rw [if_neg t4] at h
    by_cases t5 : tag = 5
    · rw [if_pos t5] at h
      rcases wants_some h with ⟨_, rfl⟩ | ⟨_, h⟩
      · rfl
      rcases wants_some h with ⟨_, rfl⟩ | ⟨_, h⟩
      · rfl
      rcases wants_some h with ⟨_, rfl⟩ | ⟨_, h⟩
      · rfl
      cases h; rfl
    rw [if_neg t5] at h
    by_cases t8 : d = 8
    · rw [if_pos t8] at h; cases h; rfl
    rw [if_neg t8] at h
    rcases wants_some h with ⟨_, rfl⟩ | ⟨_, h⟩
    · rfl
    obtain ⟨r1, e1, ⟨h1, rfl⟩ | ⟨h1, h2⟩⟩ := and_cases h
    · exact ih _ _ _ _ _ e1
    have d1 := ih _ _ _ _ _ e1
    rcases wants_some h2 with ⟨_, rfl⟩ | ⟨_, h3⟩
    · exact d1
    cases h3
    exact d1
theorem scn_small : ∀ (n : Nat) (l : List UInt8) (p : Nat), ∀ t ∈ (scn n l p).1, t.x.length ≤ l.length
  | 0, _, _, t, h => by simp [scn] at h
  | _ + 1, [], _, t, h => by simp [scn] at h
  | n + 1, c :: r, p, t, h => by
    unfold scn at h
    by_cases h1 : c = 32
    · rw [if_pos h1] at h
      have := scn_small n r (p + 1) t h
      simp only [List.length_cons]; omega
    rw [if_neg h1] at h
    by_cases h2 : (tok1 (c :: r)).1 = 0
    · rw [if_pos h2] at h; simp at h
    rw [if_neg h2] at h
    rcases List.mem_cons.1 h with rfl | h
    · simp only [List.length_take]; omega
    · have := scn_small n _ _ t h
      simp only [List.length_drop] at this
      omega
theorem txt_small {us ts : List Tk} (h : Txt us ts) (k : Nat) (hs : ∀ t ∈ ts, t.x.length ≤ k) : ∀ t ∈ us, t.x.length ≤ k := by
  intro t ht
  have : t.x ∈ ts.map (fun t => t.x) := by rw [← h]; exact List.mem_map_of_mem ht
  obtain ⟨u, hu, e⟩ := List.mem_map.1 this
  rw [← e]
  exact hs u hu
theorem rd_small (l : List UInt8) : ∀ t ∈ (rd l).ts, t.x.length ≤ 120 := by
  unfold rd
  by_cases h1 : 120 < l.length
  · rw [if_pos h1]; simp
  rw [if_neg h1]
  unfold rdA
  have hsm := scn_small l.length l 0
  cases h2 : (scn l.length l 0).2 with
  | some p => simp
  | none =>
    simp only
    cases h3 : prs (8 * (scn l.length l 0).1.length + 6) 0 (scn l.length l 0).1 0 0 with
    | none => simp
    | some r =>
      have ht := prs_txt _ _ _ _ _ _ h3
      simp only [rdP]
      split
      · simp
      · split
        · simp
        · exact txt_small ht 120 fun t h => Nat.le_trans (hsm t h) (by omega)
theorem rd_len (l : List UInt8) : (rd l).ts.length ≤ 120 := by
  unfold rd
  by_cases h1 : 120 < l.length
  · rw [if_pos h1]; simp
  rw [if_neg h1]
  unfold rdA
  have hsm := scn_len l.length l 0
  cases h2 : (scn l.length l 0).2 with
  | some p => simp
  | none =>
    simp only
    cases h3 : prs (8 * (scn l.length l 0).1.length + 6) 0 (scn l.length l 0).1 0 0 with
    | none => simp
    | some r =>
      have ht := congrArg List.length (prs_txt _ _ _ _ _ _ h3)
      simp only [List.length_map] at ht
      simp only [rdP]
      split
      · simp
      · split
        · simp
        · simp only; omega
def plT (l : List UInt8) : List UInt8 := if (rd l).e = 0 then (rd l).ts.flatMap ptk else []
end Go.Proofs.YtlpmmmmniojflaaGreatDoor
/- Plain mathematics: lists of tokens that the parser takes for an ATOM, a PRODUCT, a SUM, a FORMULA; and how they are put together. -/
namespace Go.Proofs.YtlpmmmmniojflaaGreatDoor
theorem and_mono {x x' : Option PR} {k k' : List Tk → Nat → Nat → Option PR} {r : PR} (hx : ∀ r, x = some r → x' = some r) (hk : ∀ ts i d r, k ts i d = some r → k' ts i d = some r)
    (h : andThen x k = some r) : andThen x' k' = some r := by
  obtain ⟨r1, e1, ⟨h1, rfl⟩ | ⟨h1, h2⟩⟩ := and_cases h
  · rw [hx _ e1]; simp [andThen, h1]
  · rw [hx _ e1]; simp only [andThen, h1, if_true]; exact hk _ _ _ _ h2
theorem wants_mono {q : Int} {ts : List Tk} {i d : Nat} {k k' : List Tk → Nat → Nat → Option PR} {r : PR} (hk : ∀ ts i d r, k ts i d = some r → k' ts i d = some r)
    (h : wants q ts i d k = some r) : wants q ts i d k' = some r := by
  unfold wants at h ⊢
  by_cases hq : kindAt ts i = q
  · rw [if_pos hq] at h ⊢; exact hk _ _ _ _ h
  · rw [if_neg hq] at h ⊢; exact h
theorem if_mono {c : Prop} [Decidable c] {x x' y : Option PR} {r : PR} (hx : ∀ r, x = some r → x' = some r) (h : (if c then x else y) = some r) : (if c then x' else y) = some r := by
  by_cases hc : c
  · rw [if_pos hc] at h ⊢; exact hx _ h
  · rw [if_neg hc] at h ⊢; exact h
theorem prs_succ : ∀ (f tag : Nat) (ts : List Tk) (i d : Nat) (r : PR), prs f tag ts i d = some r → prs (f + 1) tag ts i d = some r
  | 0, _, _, _, _, _, h => by simp [prs] at h
  | f + 1, tag, ts, i, d, r, h => by
    have ih := prs_succ f
    unfold prs at h ⊢
    by_cases t0 : tag = 0
    · rw [if_pos t0] at h ⊢
      exact and_mono (fun r h => ih _ _ _ _ _ h) (fun ts i d r h => if_mono (fun r h => ih _ _ _ _ _ h) h) h
    rw [if_neg t0] at h ⊢
    by_cases t1 : tag = 1
    · rw [if_pos t1] at h ⊢
      exact and_mono (fun r h => ih _ _ _ _ _ h) (fun ts i d r h => if_mono (fun r h => ih _ _ _ _ _ h) h) h
    rw [if_neg t1] at h ⊢
    by_cases t2 : tag = 2
    · rw [if_pos t2] at h ⊢
      exact and_mono (fun r h => ih _ _ _ _ _ h) (fun ts i d r h => if_mono (fun r h => ih _ _ _ _ _ h) h) h
    rw [if_neg t2] at h ⊢
    by_cases t3 : tag = 3
    · rw [if_pos t3] at h ⊢
      generalize (ngs 8 ts i).1 = us at *
      generalize (ngs 8 ts i).2 = j at *
      by_cases k1 : kindAt us j ∈ [1, 2, 3, 4, 5]
      · rw [if_pos k1] at h ⊢; exact h
      rw [if_neg k1] at h ⊢
      by_cases k2 : kindAt us j = 12
      · rw [if_pos k2] at h ⊢; exact ih _ _ _ _ _ h
      rw [if_neg k2] at h ⊢
      by_cases k3 : kindAt us j = 6
      · rw [if_pos k3] at h ⊢; exact ih _ _ _ _ _ h
      rw [if_neg k3] at h ⊢
      by_cases k4 : kindAt us j ∈ [7, 8]
      · rw [if_pos k4] at h ⊢; exact ih _ _ _ _ _ h
      rw [if_neg k4] at h ⊢
      exact if_mono (fun r h => ih _ _ _ _ _ h) h
    rw [if_neg t3] at h ⊢
    by_cases t4 : tag = 4
    · rw [if_pos t4] at h ⊢
      exact and_mono (fun r h => ih _ _ _ _ _ h) (fun ts i d r h => wants_mono (fun ts i d r h => and_mono (fun r h => ih _ _ _ _ _ h) (fun ts i d r h => wants_mono (fun ts i d r h => ih _ _ _ _ _ h) h) h) h) h
    rw [if_neg t4] at h ⊢
    by_cases t5 : tag = 5
    · rw [if_pos t5] at h ⊢; exact h
    rw [if_neg t5] at h ⊢
    by_cases t8 : d = 8
    · rw [if_pos t8] at h ⊢; exact h
    rw [if_neg t8] at h ⊢
    exact wants_mono (fun ts i d r h => and_mono (fun r h => ih _ _ _ _ _ h) (fun ts i d r h => h) h) h
theorem prs_le {f g tag : Nat} {ts : List Tk} {i d : Nat} {r : PR} (hfg : f ≤ g) (h : prs f tag ts i d = some r) : prs g tag ts i d = some r := by
  induction hfg with
  | refl => exact h
  | step _ ih => exact prs_succ _ _ _ _ _ _ ih
def unm (t : Tk) : Tk := { t with k := if t.k = 23 then 17 else t.k }
def goesOn (lv : Nat) : List Int := if lv = 3 then [] else if lv = 2 then [18, 19] else if lv = 1 then [18, 19, 16, 17, 20] else [18, 19, 16, 17, 20, 21, 22]
def Is (lv n : Nat) (g : List Tk) : Prop := ∀ (pre post : List Tk) (d : Nat), d + n ≤ 8 → ¬ kindAt post 0 ∈ goesOn lv →
  ∃ f, prs f lv (pre ++ (g.map unm ++ post)) pre.length d = some ⟨true, pre ++ (g ++ post), pre.length + g.length, d⟩
theorem kindAt_app (a b : List Tk) (j : Nat) : kindAt (a ++ b) (a.length + j) = kindAt b j := by
  unfold kindAt; rw [List.getElem?_append_right (by omega), Nat.add_sub_cancel_left]
theorem kindAt_app0 (a b : List Tk) : kindAt (a ++ b) a.length = kindAt b 0 := kindAt_app a b 0
theorem Is.more {lv n m : Nat} {g : List Tk} (h : Is lv n g) (hm : n ≤ m) : Is lv m g := fun pre post d hd hp => h pre post d (by omega) hp
theorem is_prod {n : Nat} {g : List Tk} (h : Is 3 n g) : Is 2 n g := by
  intro pre post d hd hp
  obtain ⟨f, hf⟩ := h pre post d hd (by simp [goesOn])
  refine ⟨f + 1, ?_⟩
  rw [prs2, hf]
  simp only [andThen, if_true]
  rw [← List.length_append, ← List.append_assoc, kindAt_app0, if_neg (by simpa [goesOn] using hp)]
theorem is_sum {n : Nat} {g : List Tk} (h : Is 2 n g) : Is 1 n g := by
  intro pre post d hd hp
  obtain ⟨f, hf⟩ := h pre post d hd (by revert hp; simp [goesOn] <;> omega)
  refine ⟨f + 1, ?_⟩
  rw [prs1, hf]
  simp only [andThen, if_true]
  rw [← List.length_append, ← List.append_assoc, kindAt_app0, if_neg (by revert hp; simp [goesOn] <;> omega)]
theorem is_form {n : Nat} {g : List Tk} (h : Is 1 n g) : Is 0 n g := by
  intro pre post d hd hp
  obtain ⟨f, hf⟩ := h pre post d hd (by revert hp; simp [goesOn] <;> omega)
  refine ⟨f + 1, ?_⟩
  rw [prs0, hf]
  simp only [andThen, if_true]
  rw [← List.length_append, ← List.append_assoc, kindAt_app0, if_neg (by revert hp; simp [goesOn] <;> omega)]
theorem unm_other {t : Tk} (h : t.k ≠ 23) : unm t = t := by unfold unm; rw [if_neg h]
theorem kindAt_cons (t : Tk) (r : List Tk) : kindAt (t :: r) 0 = t.k := rfl
theorem is_two {lv hi n : Nat} {ks : List Int} {a b : List Tk} {o : Tk} (ha : Is hi n a) (ho : o.k ∈ ks) (h23 : o.k ≠ 23) (hno : ¬ o.k ∈ goesOn hi)
    (hb : ∀ (pre post : List Tk) (d : Nat), d + n ≤ 8 → ¬ kindAt post 0 ∈ goesOn lv → ∃ f r, prs f r (pre ++ (b.map unm ++ post)) pre.length d = some ⟨true, pre ++ (b ++ post), pre.length + b.length, d⟩ ∧ r = (if lv = 0 then 1 else lv))
    (hp : ∀ (f : Nat) (ts : List Tk) (i d : Nat), prs (f + 1) lv ts i d = andThen (prs f hi ts i d) fun ts i d => if kindAt ts i ∈ ks then prs f (if lv = 0 then 1 else lv) ts (i + 1) d else some ⟨true, ts, i, d⟩) :
    Is lv n (a ++ o :: b) := by
  intro pre post d hd hpost
  obtain ⟨f1, e1⟩ := ha pre (o :: (b.map unm ++ post)) d hd (by rw [kindAt_cons]; exact hno)
  obtain ⟨f2, r, e2, rfl⟩ := hb (pre ++ (a ++ [o])) post d hd hpost
  refine ⟨max f1 f2 + 1, ?_⟩
  have e1' := prs_le (Nat.le_max_left f1 f2) e1
  have e2' := prs_le (Nat.le_max_right f1 f2) e2
  have l1 : pre ++ (List.map unm (a ++ o :: b) ++ post) = pre ++ (a.map unm ++ (o :: (b.map unm ++ post))) := by simp [unm_other h23]
  have l2 : pre ++ (a ++ o :: (b.map unm ++ post)) = (pre ++ (a ++ [o])) ++ (b.map unm ++ post) := by simp
  have l3 : pre.length + a.length + 1 = (pre ++ (a ++ [o])).length := by simp; omega
  rw [hp, l1, e1']
  simp only [andThen, if_true]
  have hk : kindAt (pre ++ (a ++ o :: (b.map unm ++ post))) (pre.length + a.length) = o.k := by
    rw [← List.length_append, ← List.append_assoc, kindAt_app0, kindAt_cons]
  rw [hk, if_pos ho, l3, l2, e2']
  simp
  omega
theorem is_mul {n : Nat} {a b : List Tk} {o : Tk} (ha : Is 3 n a) (hb : Is 2 n b) (ho : o.k ∈ [18, 19]) : Is 2 n (a ++ o :: b) :=
  is_two (hi := 3) (lv := 2) (ks := [18, 19]) ha ho (by intro h; rw [h] at ho; revert ho; decide) (by simp [goesOn])
    (fun pre post d hd hp => by obtain ⟨f, e⟩ := hb pre post d hd hp; exact ⟨f, 2, e, rfl⟩) (fun f ts i d => prs2 f ts i d)
theorem is_add {n : Nat} {a b : List Tk} {o : Tk} (ha : Is 2 n a) (hb : Is 1 n b) (ho : o.k ∈ [16, 17, 20]) : Is 1 n (a ++ o :: b) :=
  is_two (hi := 2) (lv := 1) (ks := [16, 17, 20]) ha ho (by intro h; rw [h] at ho; revert ho; decide) (by simp only [List.mem_cons, List.not_mem_nil, or_false] at ho; simp [goesOn]; omega)
    (fun pre post d hd hp => by obtain ⟨f, e⟩ := hb pre post d hd hp; exact ⟨f, 1, e, rfl⟩) (fun f ts i d => prs1 f ts i d)
theorem is_cmp {n : Nat} {a b : List Tk} {o : Tk} (ha : Is 1 n a) (hb : Is 1 n b) (ho : o.k ∈ [21, 22]) : Is 0 n (a ++ o :: b) :=
  is_two (hi := 1) (lv := 0) (ks := [21, 22]) ha ho (by intro h; rw [h] at ho; revert ho; decide) (by simp only [List.mem_cons, List.not_mem_nil, or_false] at ho; simp [goesOn]; omega)
    (fun pre post d hd hp => by obtain ⟨f, e⟩ := hb pre post d hd (by revert hp; simp [goesOn] <;> omega); exact ⟨f, 1, e, rfl⟩) (fun f ts i d => prs0 f ts i d)
theorem ngs_stop {n : Nat} {ts : List Tk} {i : Nat} (h : kindAt ts i ≠ 17) : ngs n ts i = (ts, i) := by
  cases n with
  | zero => rfl
  | succ n => unfold ngs; rw [if_neg h]
theorem is_one {t : Tk} (h : t.k ∈ [1, 2, 3, 4, 5]) : Is 3 0 [t] := by
  intro pre post d hd hp
  have h23 : t.k ≠ 23 := by intro e; rw [e] at h; revert h; decide
  have h17 : t.k ≠ 17 := by intro e; rw [e] at h; revert h; decide
  refine ⟨1, ?_⟩
  have hk : kindAt (pre ++ ([t].map unm ++ post)) pre.length = t.k := by rw [kindAt_app0, List.map_cons, unm_other h23]; rfl
  rw [prs3, ngs_stop (by rw [hk]; exact h17)]
  simp only
  rw [hk, if_pos h]
  simp [unm_other h23]
theorem mark_app : ∀ (pre : List Tk) (t : Tk) (r : List Tk), mark (pre ++ t :: r) pre.length = pre ++ { t with k := 23 } :: r
  | [], t, r => by simp [mark, List.modify_cons]
  | a :: p, t, r => by
    have := mark_app p t r
    unfold mark at this ⊢
    simp [this]
theorem is_neg {m t : Tk} (hm : m.k = 23) (h : t.k ∈ [1, 2, 3, 4, 5]) : Is 3 0 [m, t] := by
  intro pre post d hd hp
  have h23 : t.k ≠ 23 := by intro e; rw [e] at h; revert h; decide
  have h17 : t.k ≠ 17 := by intro e; rw [e] at h; revert h; decide
  refine ⟨1, ?_⟩
  have hk : kindAt (pre ++ ([m, t].map unm ++ post)) pre.length = 17 := by rw [kindAt_app0]; simp [unm, hm, kindAt]
  have hmk : mark (pre ++ ([m, t].map unm ++ post)) pre.length = pre ++ ([m, t] ++ post) := by
    have e : [m, t].map unm ++ post = unm m :: (t :: post) := by simp [unm_other h23]
    rw [e, mark_app]
    have e2 : { unm m with k := 23 } = m := by cases m; simp at hm; rw [hm]; rfl
    rw [e2]
    rfl
  have hk2 : kindAt (pre ++ ([m, t] ++ post)) (pre.length + 1) = t.k := by rw [kindAt_app]; rfl
  have hn : ngs 8 (pre ++ ([m, t].map unm ++ post)) pre.length = (pre ++ ([m, t] ++ post), pre.length + 1) := by
    unfold ngs
    rw [if_pos hk, hmk, ngs_stop (by rw [hk2]; exact h17)]
  rw [prs3, hn]
  simp only
  rw [hk2, if_pos h]
  simp
theorem is_br {n tag inner : Nat} {o c : Tk} {g : List Tk} (ho : o.k = 12) (hc : c.k = 13)
    (hp : ∀ (f : Nat) (ts : List Tk) (i d : Nat), prs (f + 1) tag ts i d = if d = 8 then some ⟨false, ts, i, d⟩
      else wants 12 ts i d fun ts i d => andThen (prs f inner ts i (d + 1)) fun ts i d => wants 13 ts i d fun ts i d => some ⟨true, ts, i, d - 1⟩)
    (hg : ∀ (pre post : List Tk) (d : Nat), d + n ≤ 8 → kindAt post 0 = 13 → ∃ f, prs f inner (pre ++ (g.map unm ++ post)) pre.length d = some ⟨true, pre ++ (g ++ post), pre.length + g.length, d⟩)
    (pre post : List Tk) (d : Nat) (hd : d + (n + 1) ≤ 8) : ∃ f, prs f tag (pre ++ ((o :: (g ++ [c])).map unm ++ post)) pre.length d = some ⟨true, pre ++ ((o :: (g ++ [c])) ++ post), pre.length + (g.length + 2), d⟩ := by
  have uo : unm o = o := unm_other (by rw [ho]; decide)
  have uc : unm c = c := unm_other (by rw [hc]; decide)
  obtain ⟨f, e⟩ := hg (pre ++ [o]) (c :: post) (d + 1) (by omega) (by rw [kindAt_cons]; exact hc)
  refine ⟨f + 1, ?_⟩
  have l1 : pre ++ ((o :: (g ++ [c])).map unm ++ post) = (pre ++ [o]) ++ (g.map unm ++ (c :: post)) := by simp [uo, uc]
  have hk : kindAt ((pre ++ [o]) ++ (g.map unm ++ (c :: post))) pre.length = 12 := by
    rw [List.append_assoc, kindAt_app0]; simpa [kindAt] using ho
  have l2 : pre.length + 1 = (pre ++ [o]).length := by simp
  rw [hp, if_neg (by omega), l1]
  unfold wants
  simp only
  rw [if_pos hk, l2, e]
  simp only [andThen, if_true]
  have hk2 : kindAt ((pre ++ [o]) ++ (g ++ (c :: post))) ((pre ++ [o]).length + g.length) = 13 := by
    rw [← List.length_append, ← List.append_assoc, kindAt_app0, kindAt_cons]; exact hc
  rw [if_pos hk2]
  simp
  omega
theorem form_in {n : Nat} {g : List Tk} (h : Is 0 n g) : ∀ (pre post : List Tk) (d : Nat), d + n ≤ 8 → kindAt post 0 = 13 → ∃ f, prs f 0 (pre ++ (g.map unm ++ post)) pre.length d = some ⟨true, pre ++ (g ++ post), pre.length + g.length, d⟩ :=
  fun pre post d hd hp => h pre post d hd (by rw [hp]; simp [goesOn])
theorem is_bracket {n : Nat} {o c : Tk} {g : List Tk} (ho : o.k = 12) (hc : c.k = 13) (h : Is 0 n g) : Is 3 (n + 1) (o :: (g ++ [c])) := by
  intro pre post d hd hp
  obtain ⟨f, e⟩ := is_br ho hc prs6 (form_in h) pre post d hd
  refine ⟨f + 1, ?_⟩
  have uo : unm o = o := unm_other (by rw [ho]; decide)
  have hk : kindAt (pre ++ ((o :: (g ++ [c])).map unm ++ post)) pre.length = 12 := by rw [kindAt_app0, List.map_cons, uo]; exact ho
  rw [prs3, ngs_stop (by rw [hk]; decide)]
  simp only
  rw [hk, if_neg (by decide), if_pos rfl, e]
  simp
theorem is_word {n tag inner : Nat} {wd o c : Tk} {g : List Tk} (h23 : wd.k ≠ 23) (ho : o.k = 12) (hc : c.k = 13)
    (hp : ∀ (f : Nat) (ts : List Tk) (i d : Nat), prs (f + 1) tag ts i d = if d = 8 then some ⟨false, ts, i, d⟩
      else wants 12 ts i d fun ts i d => andThen (prs f inner ts i (d + 1)) fun ts i d => wants 13 ts i d fun ts i d => some ⟨true, ts, i, d - 1⟩)
    (hg : ∀ (pre post : List Tk) (d : Nat), d + n ≤ 8 → kindAt post 0 = 13 → ∃ f, prs f inner (pre ++ (g.map unm ++ post)) pre.length d = some ⟨true, pre ++ (g ++ post), pre.length + g.length, d⟩)
    (ha : ∀ (f : Nat) (ts : List Tk) (i d : Nat), kindAt ts i = wd.k → prs (f + 1) 3 ts i d = prs f tag ts (i + 1) d) : Is 3 (n + 1) (wd :: o :: (g ++ [c])) := by
  intro pre post d hd hpost
  obtain ⟨f, e⟩ := is_br ho hc hp hg (pre ++ [wd]) post d hd
  refine ⟨f + 1, ?_⟩
  have uw : unm wd = wd := unm_other h23
  have l1 : pre ++ ((wd :: o :: (g ++ [c])).map unm ++ post) = (pre ++ [wd]) ++ ((o :: (g ++ [c])).map unm ++ post) := by simp [uw]
  have hk : kindAt ((pre ++ [wd]) ++ ((o :: (g ++ [c])).map unm ++ post)) pre.length = wd.k := by rw [List.append_assoc, kindAt_app0]; rfl
  have l2 : pre.length + 1 = (pre ++ [wd]).length := by simp
  rw [l1, ha f _ _ _ hk, l2, e]
  simp
  omega
theorem atom_word {wd : Int} (f : Nat) (ts : List Tk) (i d : Nat) (h : kindAt ts i = wd) (h17 : wd ≠ 17) : prs (f + 1) 3 ts i d =
    if wd ∈ [1, 2, 3, 4, 5] then some ⟨true, ts, i + 1, d⟩ else if wd = 12 then prs f 6 ts i d else if wd = 6 then prs f 7 ts (i + 1) d
    else if wd ∈ [7, 8] then prs f 6 ts (i + 1) d else if wd ∈ [9, 10] then prs f 8 ts (i + 1) d else some ⟨false, ts, i, d⟩ := by
  rw [prs3, ngs_stop (by rw [h]; exact h17)]
  simp only
  rw [h]
theorem is_call {n : Nat} {wd o c : Tk} {g : List Tk} (hw : wd.k ∈ [7, 8]) (ho : o.k = 12) (hc : c.k = 13) (h : Is 0 n g) : Is 3 (n + 1) (wd :: o :: (g ++ [c])) := by
  have hw' : wd.k = 7 ∨ wd.k = 8 := by simpa using hw
  refine is_word (by omega) ho hc prs6 (form_in h) fun f ts i d hk => ?_
  rw [atom_word f ts i d hk (by omega), if_neg (by simp; omega), if_neg (by omega), if_neg (by omega), if_pos hw]
theorem is_if {n : Nat} {wd o c m1 m2 : Tk} {a b g : List Tk} (hw : wd.k = 6) (ho : o.k = 12) (hc : c.k = 13) (hm1 : m1.k = 14) (hm2 : m2.k = 14) (ha : Is 0 n a) (hb : Is 0 n b) (hg : Is 0 n g) :
    Is 3 (n + 1) (wd :: o :: ((a ++ m1 :: (b ++ m2 :: g)) ++ [c])) := by
  refine is_word (by omega) ho hc prs7 (fun pre post d hd hp => ?_) fun f ts i d hk => ?_
  · have u1 : unm m1 = m1 := unm_other (by rw [hm1]; decide)
    have u2 : unm m2 = m2 := unm_other (by rw [hm2]; decide)
    obtain ⟨f1, e1⟩ := ha pre (m1 :: (b.map unm ++ (m2 :: (g.map unm ++ post)))) d hd (by rw [kindAt_cons, hm1]; simp [goesOn])
    obtain ⟨f2, e2⟩ := hb (pre ++ (a ++ [m1])) (m2 :: (g.map unm ++ post)) d hd (by rw [kindAt_cons, hm2]; simp [goesOn])
    obtain ⟨f3, e3⟩ := hg (pre ++ (a ++ [m1]) ++ (b ++ [m2])) post d hd (by rw [hp]; simp [goesOn])
    refine ⟨max f1 (max f2 f3) + 1, ?_⟩
    have e1' := prs_le (show f1 ≤ max f1 (max f2 f3) by omega) e1
    have e2' := prs_le (show f2 ≤ max f1 (max f2 f3) by omega) e2
    have e3' := prs_le (show f3 ≤ max f1 (max f2 f3) by omega) e3
    have l1 : pre ++ (List.map unm (a ++ m1 :: (b ++ m2 :: g)) ++ post) = pre ++ (a.map unm ++ (m1 :: (b.map unm ++ (m2 :: (g.map unm ++ post))))) := by simp [u1, u2]
    have l2 : pre ++ (a ++ m1 :: (b.map unm ++ (m2 :: (g.map unm ++ post)))) = (pre ++ (a ++ [m1])) ++ (b.map unm ++ (m2 :: (g.map unm ++ post))) := by simp
    have l3 : pre.length + a.length + 1 = (pre ++ (a ++ [m1])).length := by simp; omega
    have l4 : (pre ++ (a ++ [m1])) ++ (b ++ m2 :: (g.map unm ++ post)) = (pre ++ (a ++ [m1]) ++ (b ++ [m2])) ++ (g.map unm ++ post) := by simp
    have l5 : (pre ++ (a ++ [m1])).length + b.length + 1 = (pre ++ (a ++ [m1]) ++ (b ++ [m2])).length := by simp; omega
    have k1 : kindAt (pre ++ (a ++ m1 :: (b.map unm ++ (m2 :: (g.map unm ++ post))))) (pre.length + a.length) = 14 := by
      rw [← List.length_append, ← List.append_assoc, kindAt_app0, kindAt_cons]; exact hm1
    have k2 : kindAt ((pre ++ (a ++ [m1])) ++ (b ++ m2 :: (g.map unm ++ post))) ((pre ++ (a ++ [m1])).length + b.length) = 14 := by
      rw [← List.length_append, ← List.append_assoc, kindAt_app0, kindAt_cons]; exact hm2
    rw [prs4, l1, e1']
    simp only [andThen, if_true]
    unfold wants
    rw [if_pos k1, l3, l2]
    dsimp only
    rw [e2']
    simp only [if_true]
    rw [if_pos k2, l5, l4, e3']
    simp
    omega
  · rw [atom_word f ts i d hk (by omega), hw, if_neg (by decide), if_neg (by decide), if_pos rfl]
theorem is_range {wd o c a m b : Tk} (hw : wd.k ∈ [9, 10]) (ho : o.k = 12) (hc : c.k = 13) (ha : a.k = 5) (hm : m.k = 15) (hb : b.k = 5) : Is 3 1 (wd :: o :: ([a, m, b] ++ [c])) := by
  have hw' : wd.k = 9 ∨ wd.k = 10 := by simpa using hw
  refine is_word (n := 0) (by omega) ho hc prs8 (fun pre post d hd hp => ?_) fun f ts i d hk => ?_
  · have u1 : unm a = a := unm_other (by rw [ha]; decide)
    have u2 : unm m = m := unm_other (by rw [hm]; decide)
    have u3 : unm b = b := unm_other (by rw [hb]; decide)
    refine ⟨1, ?_⟩
    have l1 : pre ++ ([a, m, b].map unm ++ post) = pre ++ ([a, m, b] ++ post) := by simp [u1, u2, u3]
    have k1 : kindAt (pre ++ ([a, m, b] ++ post)) pre.length = 5 := by rw [kindAt_app0]; exact ha
    have k2 : kindAt (pre ++ ([a, m, b] ++ post)) (pre.length + 1) = 15 := by rw [kindAt_app]; exact hm
    have k3 : kindAt (pre ++ ([a, m, b] ++ post)) (pre.length + 1 + 1) = 5 := by rw [show pre.length + 1 + 1 = pre.length + 2 from rfl, kindAt_app]; exact hb
    rw [prs5, l1]
    unfold wants
    rw [if_pos k1]
    dsimp only
    rw [if_pos k2, if_pos k3]
    simp
  · rw [atom_word f ts i d hk (by omega), if_neg (by simp; omega), if_neg (by omega), if_neg (by omega), if_neg (by simp; omega), if_pos hw]
end Go.Proofs.YtlpmmmmniojflaaGreatDoor
