/- The program's call Plain, whole: what it answers is a plain function of the text. -/
import Derived.Test.YtiocnfambeochaaGreatDoorRead
import Derived.Test.YtiocnfambeochaaGreatDoorPln
namespace Go.Proofs.YtiocnfambeochaaGreatDoor
open Go.RowKit

def Txt (us ts : List Tk) : Prop := us.map (fun t => t.x) = ts.map (fun t => t.x)
theorem mark_txt (ts : List Tk) (i : Nat) : Txt (mark ts i) ts := by
  unfold Txt mark
  induction ts generalizing i with
  | nil => simp
  | cons a r ih =>
    cases i with
    | zero => simp [List.modify_cons]
    | succ i => simp [ih i]
theorem ngs_txt : ∀ (n : Nat) (ts : List Tk) (i : Nat), Txt (ngs n ts i).1 ts
  | 0, _, _ => rfl
  | n + 1, ts, i => by
    unfold ngs
    by_cases h : kindAt ts i = 17
    · rw [if_pos h]; exact (ngs_txt n (mark ts i) (i + 1)).trans (mark_txt ts i)
    · rw [if_neg h]; rfl

theorem prs_txt : ∀ (f tag : Nat) (ts : List Tk) (i d : Nat) (r : PR), prs f tag ts i d = some r → Txt r.ts ts
  | 0, _, _, _, _, _, h => by simp [prs] at h
  | f + 1, tag, ts, i, d, r, h => by
    have ih := prs_txt f
    have loop : ∀ (t1 t2 : Nat) (ks : List Int), andThen (prs f t1 ts i d) (fun ts i d => if kindAt ts i ∈ ks then prs f t2 ts (i + 1) d else some ⟨true, ts, i, d⟩) = some r → Txt r.ts ts := by
      intro t1 t2 ks h
      obtain ⟨r1, e1, ⟨_, rfl⟩ | ⟨_, h2⟩⟩ := and_cases h
      · exact ih _ _ _ _ _ e1
      have d1 := ih _ _ _ _ _ e1
      by_cases hk : kindAt r1.ts r1.i ∈ ks
      · rw [if_pos hk] at h2; exact (ih _ _ _ _ _ h2).trans d1
      · rw [if_neg hk] at h2; cases h2; exact d1
    unfold prs at h
    by_cases t0 : tag = 0
    · rw [if_pos t0] at h; exact loop _ _ _ h
    rw [if_neg t0] at h
    by_cases t1 : tag = 1
    · rw [if_pos t1] at h; exact loop _ _ _ h
    rw [if_neg t1] at h
    by_cases t2 : tag = 2
    · rw [if_pos t2] at h; exact loop _ _ _ h
    rw [if_neg t2] at h
    by_cases t3 : tag = 3
    · rw [if_pos t3] at h
      have hn := ngs_txt 8 ts i
      generalize (ngs 8 ts i).1 = us at *
      generalize (ngs 8 ts i).2 = j at *
      by_cases k1 : kindAt us j ∈ [1, 2, 3, 4, 5]
      · rw [if_pos k1] at h; cases h; exact hn
      rw [if_neg k1] at h
      by_cases k2 : kindAt us j = 12
      · rw [if_pos k2] at h; exact (ih _ _ _ _ _ h).trans hn
      rw [if_neg k2] at h
      by_cases k3 : kindAt us j = 6
      · rw [if_pos k3] at h; exact (ih _ _ _ _ _ h).trans hn
      rw [if_neg k3] at h
      by_cases k4 : kindAt us j ∈ [7, 8]
      · rw [if_pos k4] at h; exact (ih _ _ _ _ _ h).trans hn
      rw [if_neg k4] at h
      by_cases k5 : kindAt us j ∈ [9, 10]
      · rw [if_pos k5] at h; exact (ih _ _ _ _ _ h).trans hn
      rw [if_neg k5] at h
      cases h; exact hn
    rw [if_neg t3] at h
    by_cases t4 : tag = 4
    · rw [if_pos t4] at h
      obtain ⟨r1, e1, ⟨h1, rfl⟩ | ⟨h1, h2⟩⟩ := and_cases h
      · exact ih _ _ _ _ _ e1
      have d1 := ih _ _ _ _ _ e1
      rcases wants_some h2 with ⟨_, rfl⟩ | ⟨_, h3⟩
      · exact d1
      obtain ⟨r2, e2, ⟨h4, rfl⟩ | ⟨h4, h5⟩⟩ := and_cases h3
      · exact (ih _ _ _ _ _ e2).trans d1
      have d2 := (ih _ _ _ _ _ e2).trans d1
      rcases wants_some h5 with ⟨_, rfl⟩ | ⟨_, h6⟩
      · exact d2
      exact (ih _ _ _ _ _ h6).trans d2
    rw [if_neg t4] at h
    by_cases t5 : tag = 5
    · rw [if_pos t5] at h
      rcases wants_some h with ⟨_, rfl⟩ | ⟨_, h⟩
      · rfl
      rcases wants_some h with ⟨_, rfl⟩ | ⟨_, h⟩
      · rfl
      rcases wants_some h with ⟨_, rfl⟩ | ⟨_, h⟩
      · rfl
      cases h; rfl
    rw [if_neg t5] at h
    by_cases t8 : d = 8
    · rw [if_pos t8] at h; cases h; rfl
    rw [if_neg t8] at h
    rcases wants_some h with ⟨_, rfl⟩ | ⟨_, h⟩
    · rfl
    obtain ⟨r1, e1, ⟨h1, rfl⟩ | ⟨h1, h2⟩⟩ := and_cases h
    · exact ih _ _ _ _ _ e1
    have d1 := ih _ _ _ _ _ e1
    rcases wants_some h2 with ⟨_, rfl⟩ | ⟨_, h3⟩
    · exact d1
    cases h3
    exact d1

theorem scn_small : ∀ (n : Nat) (l : List UInt8) (p : Nat), ∀ t ∈ (scn n l p).1, t.x.length ≤ l.length
  | 0, _, _, t, h => by simp [scn] at h
  | _ + 1, [], _, t, h => by simp [scn] at h
  | n + 1, c :: r, p, t, h => by
    unfold scn at h
    by_cases h1 : c = 32
    · rw [if_pos h1] at h
      have := scn_small n r (p + 1) t h
      simp only [List.length_cons]; omega
    rw [if_neg h1] at h
    by_cases h2 : (tok1 (c :: r)).1 = 0
    · rw [if_pos h2] at h; simp at h
    rw [if_neg h2] at h
    rcases List.mem_cons.1 h with rfl | h
    · simp only [List.length_take]; omega
    · have := scn_small n _ _ t h
      simp only [List.length_drop] at this
      omega

theorem txt_small {us ts : List Tk} (h : Txt us ts) (k : Nat) (hs : ∀ t ∈ ts, t.x.length ≤ k) : ∀ t ∈ us, t.x.length ≤ k := by
  intro t ht
  have : t.x ∈ ts.map (fun t => t.x) := by rw [← h]; exact List.mem_map_of_mem ht
  obtain ⟨u, hu, e⟩ := List.mem_map.1 this
  rw [← e]
  exact hs u hu

theorem rd_small (l : List UInt8) : ∀ t ∈ (rd l).ts, t.x.length ≤ 120 := by
  unfold rd
  by_cases h1 : 120 < l.length
  · rw [if_pos h1]; simp
  rw [if_neg h1]
  unfold rdA
  have hsm := scn_small l.length l 0
  cases h2 : (scn l.length l 0).2 with
  | some p => simp
  | none =>
    simp only
    cases h3 : prs (8 * (scn l.length l 0).1.length + 6) 0 (scn l.length l 0).1 0 0 with
    | none => simp
    | some r =>
      have ht := prs_txt _ _ _ _ _ _ h3
      simp only [rdP]
      split
      · simp
      · split
        · simp
        · exact txt_small ht 120 fun t h => Nat.le_trans (hsm t h) (by omega)
theorem rd_len (l : List UInt8) : (rd l).ts.length ≤ 120 := by
  unfold rd
  by_cases h1 : 120 < l.length
  · rw [if_pos h1]; simp
  rw [if_neg h1]
  unfold rdA
  have hsm := scn_len l.length l 0
  cases h2 : (scn l.length l 0).2 with
  | some p => simp
  | none =>
    simp only
    cases h3 : prs (8 * (scn l.length l 0).1.length + 6) 0 (scn l.length l 0).1 0 0 with
    | none => simp
    | some r =>
      have ht := congrArg List.length (prs_txt _ _ _ _ _ _ h3)
      simp only [List.length_map] at ht
      simp only [rdP]
      split
      · simp
      · split
        · simp
        · simp only; omega

/-- What Plain answers. -/
def plT (l : List UInt8) : List UInt8 := if (rd l).e = 0 then (rd l).ts.flatMap ptk else []

set_option maxHeartbeats 1000000 in
theorem Plain_any (s : ByteArray) (w : World) (hE : Hid (ErrVar w)) (hs : s.size ≤ maxLen) :
    Calls Tryz.prog 18 #[.string s] w fun e w' => e = .returned (.tuple #[.string ⟨(plT s.data.toList).toArray⟩, .int .i64 (rd s.data.toList).e, .int .i64 (rd s.data.toList).p]) ∧ Below w.heap.size w w' := by
  have HS : Hid _ := rd_small s.data.toList
  have HL : Hid _ := rd_len s.data.toList
  have HPT : Hid (plT s.data.toList = if (rd s.data.toList).e = 0 then (rd s.data.toList).ts.flatMap ptk else []) := rfl
  have HZ : Hid ((rd s.data.toList).e = 0 → (rd s.data.toList).p = 0) := by
    unfold Hid rd
    split
    · simp
    · unfold rdA
      split
      · simp
      · split
        · simp
        · unfold rdP
          split
          · simp
          · split <;> simp
  go_enter Tryz.func18, Tryz.ntmps18
  go_wp2_with fail
  refine (read_any s _ hE hs).mono ?_
  rintro e w1 ⟨hb1, v, rfl, hv0, hown⟩
  obtain ⟨⟨e, p, ts⟩, hR⟩ : ∃ R, rd s.data.toList = R := ⟨_, rfl⟩
  have HRD : Hid _ := hR
  rw [hR] at hv0 hown HS HL HPT HZ ⊢
  clear hR
  simp only at hv0 hown HS HL HPT HZ ⊢
  by_cases h0 : e = 0
  · subst h0
    have HP2 : Hid (plT s.data.toList = ts.flatMap ptk) := by unfold Hid; rw [HPT.out, if_pos rfl]
    have hz := HZ.out rfl
    subst hz
    obtain ⟨ao, c, hv⟩ : ∃ ao c, v = .slice ao ts.length c := by
      rcases hown.2 with ⟨hv, hn0⟩ | ⟨g, cap, cur, hv, _⟩
      · exact ⟨none, 0, by rw [hv, hn0]⟩
      · exact ⟨_, _, hv⟩
    subst hv
    have HO : Hid (w1.ownsRow w.heap.size 142 3 (.slice ao ts.length c) ts.length (ts.flatMap tkCells)) := hown
    clear hown hv0 HPT HZ
    go_wp2_with fail
    refine (plain_any _ _ ts (ownsRow_TL HO.out) (by have := HL.out; omega) (fun t h => Nat.le_trans (HS.out t h) (by omega))).mono ?_
    rintro e w2 ⟨rfl, hb2⟩
    go_wp2_with fail
    go_ret3
    rw [HP2.out, HRD.out]
    exact ⟨rfl, hb1.trans (hb2.mono hb1.size)⟩
  · have hb0 : (e != 0) = true := by simpa using h0
    have HP2 : Hid (plT s.data.toList = []) := by unfold Hid; rw [HPT.out, if_neg h0]
    have hv := hv0 h0
    subst hv
    clear hv0 hown h0 HPT HZ
    go_wp2_with fail
    go_ret3
    rw [HP2.out, HRD.out]
    exact ⟨rfl, hb1⟩
end Go.Proofs.YtiocnfambeochaaGreatDoor
