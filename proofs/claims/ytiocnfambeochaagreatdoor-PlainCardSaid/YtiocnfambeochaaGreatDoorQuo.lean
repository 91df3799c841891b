/- Plain mathematics: in a text whose tokens are known each quotation mark has its fellow. -/
import Derived.Test.YtiocnfambeochaaGreatDoorOdd
namespace Go.Proofs.YtiocnfambeochaaGreatDoor

/-- Going over the text as 'oddF' does, each quotation mark has its fellow. -/
def WQ : Nat → List UInt8 → Prop
  | 0, _ => True
  | _ + 1, [] => True
  | n + 1, c :: r => if c = 34 then spn nq r < r.length ∧ WQ n (r.drop (spn nq r + 1)) else WQ n r

theorem wq_ld : ∀ (x rest : List UInt8) (n : Nat), (∀ c ∈ x, ldB (c.toNat : Int) = true) → (∀ m, rest.length ≤ m → WQ m rest) → (x ++ rest).length ≤ n → WQ n (x ++ rest)
  | [], rest, n, _, h, hn => h n hn
  | c :: r, rest, n, h, hr, hn => by
    simp only [List.cons_append, List.length_cons] at hn
    obtain ⟨k, rfl⟩ : ∃ k, n = k + 1 := ⟨n - 1, by omega⟩
    rw [List.cons_append, WQ, if_neg (ld_plain (h c List.mem_cons_self)).1]
    exact wq_ld r rest k (fun a ha => h a (List.mem_cons_of_mem _ ha)) hr (by omega)
theorem wq_tok (x rest : List UInt8) (n : Nat) (h : OX x) (hr : ∀ m, rest.length ≤ m → WQ m rest) (hn : (x ++ rest).length ≤ n) : WQ n (x ++ rest) := by
  rcases h with ⟨r, rfl, hq⟩ | ⟨c, rfl, h34, _⟩ | h
  · have e0 : 34 :: (r ++ [34]) ++ rest = 34 :: (r ++ 34 :: rest) := by simp
    rw [e0] at hn ⊢
    simp only [List.length_cons, List.length_append] at hn
    obtain ⟨k, rfl⟩ : ∃ k, n = k + 1 := ⟨n - 1, by omega⟩
    have hsp : spn nq (r ++ 34 :: rest) = r.length := spn_all nq r (34 :: rest) hq (show nq _ = false by decide)
    have e2 : (r ++ 34 :: rest).drop (r.length + 1) = rest := by
      rw [List.drop_append, List.drop_of_length_le (by omega)]; simp
    rw [WQ, if_pos rfl, hsp, e2]
    exact ⟨by simp, hr k (by omega)⟩
  · simp only [List.singleton_append, List.length_cons] at hn
    obtain ⟨k, rfl⟩ : ∃ k, n = k + 1 := ⟨n - 1, by omega⟩
    rw [List.singleton_append, WQ, if_neg h34]
    exact hr k (by omega)
  · exact wq_ld x rest n h hr hn
theorem wq_blanks : ∀ (a : Nat) (rest : List UInt8) (n : Nat), (∀ m, rest.length ≤ m → WQ m rest) → (List.replicate a 32 ++ rest).length ≤ n → WQ n (List.replicate a 32 ++ rest)
  | 0, rest, n, h, hn => h n (by simpa using hn)
  | a + 1, rest, n, h, hn => by
    simp only [List.replicate_succ, List.cons_append, List.length_cons] at hn
    obtain ⟨k, rfl⟩ : ∃ k, n = k + 1 := ⟨n - 1, by omega⟩
    rw [List.replicate_succ, List.cons_append, WQ, if_neg (by decide)]
    exact wq_blanks a rest k h (by omega)
theorem wq_good : ∀ (g : List Tk) (n : Nat), Good g → (g.flatMap ptk).length ≤ n → WQ n (g.flatMap ptk)
  | [], n, _, _ => by cases n <;> trivial
  | t :: r, n, h, hn => by
    obtain ⟨h1, h2, _, h4⟩ := h
    obtain ⟨a, b, _, e⟩ := ptk_parts t h2
    have e1 : (t :: r).flatMap ptk = List.replicate a 32 ++ (t.x ++ (List.replicate b 32 ++ r.flatMap ptk)) := by rw [List.flatMap_cons, e]; simp
    rw [e1] at hn ⊢
    exact wq_blanks a _ n (fun m hm => wq_tok t.x _ m (ox_of_to h1) (fun k hk => wq_blanks b _ k (fun j hj => wq_good r j h4 hj) hk) hm) hn

/-- What stands at the head of the statement's own loop: so much of the text is passed, so much is written. -/
def OddAt (S fd0 : List UInt8) (k : Nat) (O fd : List UInt8) : Prop :=
  ∃ m, S.length - k ≤ m ∧ WQ m (S.drop k) ∧ (oddF S.length S fd0).1 = O ++ (oddF m (S.drop k) fd).1 ∧ O.length ≤ 3 * k
theorem oddAt_start (S fd : List UInt8) (h : WQ S.length S) : OddAt S fd 0 [] fd := ⟨S.length, by omega, h, by simp, by simp⟩
theorem oddAt_end {S fd0 O fd : List UInt8} (h : OddAt S fd0 S.length O fd) : (oddF S.length S fd0).1 = O := by
  obtain ⟨m, _, _, e, _⟩ := h
  rw [List.drop_length] at e
  rw [e]
  cases m <;> simp [oddF]
theorem oddAt_quote {S fd0 O fd r : List UInt8} {k : Nat} (h : OddAt S fd0 k O fd) (hd : S.drop k = 34 :: r) (hk : k < S.length) :
    spn nq r < r.length ∧ OddAt S fd0 (k + spn nq r + 2) (O ++ (34 :: r.take (spn nq r + 1))) fd := by
  obtain ⟨m, hm, hw, e, hl⟩ := h
  obtain ⟨n, rfl⟩ : ∃ n, m = n + 1 := ⟨m - 1, by omega⟩
  rw [hd] at hw e
  rw [WQ, if_pos rfl] at hw
  have hd2 : S.drop (k + spn nq r + 2) = r.drop (spn nq r + 1) := by
    have : S.drop (k + spn nq r + 2) = (S.drop k).drop (spn nq r + 2) := by rw [List.drop_drop, Nat.add_assoc]
    rw [this, hd]; rfl
  refine ⟨hw.1, n, by omega, by rw [hd2]; exact hw.2, ?_, ?_⟩
  · rw [hd2, e, oddF, if_pos rfl]; simp
  · simp only [List.length_append, List.length_cons, List.length_take]; omega
theorem oddAt_sign {S fd0 O fd r : List UInt8} {k : Nat} {c : UInt8} (h : OddAt S fd0 k O fd) (hd : S.drop k = c :: r) (hk : k < S.length) (h34 : c ≠ 34) (hb : isBr c = true) :
    OddAt S fd0 (k + 1) (O ++ [c] ++ (if (nx 3 fd).1 = 1 then [32, 32] else [])) (nx 3 fd).2 := by
  obtain ⟨m, hm, hw, e, hl⟩ := h
  obtain ⟨n, rfl⟩ : ∃ n, m = n + 1 := ⟨m - 1, by omega⟩
  rw [hd] at hw e
  rw [WQ, if_neg h34] at hw
  have hd2 : S.drop (k + 1) = r := by
    have : S.drop (k + 1) = (S.drop k).drop 1 := by rw [List.drop_drop]
    rw [this, hd]; rfl
  refine ⟨n, by omega, by rw [hd2]; exact hw, ?_, ?_⟩
  · rw [hd2, e, oddF, if_neg h34, if_pos hb]; simp
  · split <;> simp only [List.length_append, List.length_cons, List.length_nil] <;> omega
theorem oddAt_blank {S fd0 O fd r : List UInt8} {k : Nat} (h : OddAt S fd0 k O fd) (hd : S.drop k = 32 :: r) (hk : k < S.length) : OddAt S fd0 (k + 1) O fd := by
  obtain ⟨m, hm, hw, e, hl⟩ := h
  obtain ⟨n, rfl⟩ : ∃ n, m = n + 1 := ⟨m - 1, by omega⟩
  rw [hd] at hw e
  rw [WQ, if_neg (by decide)] at hw
  have hd2 : S.drop (k + 1) = r := by
    have : S.drop (k + 1) = (S.drop k).drop 1 := by rw [List.drop_drop]
    rw [this, hd]; rfl
  refine ⟨n, by omega, by rw [hd2]; exact hw, ?_, by omega⟩
  rw [hd2, e, oddF, if_neg (by decide), if_neg (by decide), if_pos rfl]
theorem oddAt_other {S fd0 O fd r : List UInt8} {k : Nat} {c : UInt8} (h : OddAt S fd0 k O fd) (hd : S.drop k = c :: r) (hk : k < S.length) (h34 : c ≠ 34) (hb : isBr c = false) (h32 : c ≠ 32) : OddAt S fd0 (k + 1) (O ++ [c]) fd := by
  obtain ⟨m, hm, hw, e, hl⟩ := h
  obtain ⟨n, rfl⟩ : ∃ n, m = n + 1 := ⟨m - 1, by omega⟩
  rw [hd] at hw e
  rw [WQ, if_neg h34] at hw
  have hd2 : S.drop (k + 1) = r := by
    have : S.drop (k + 1) = (S.drop k).drop 1 := by rw [List.drop_drop]
    rw [this, hd]; rfl
  refine ⟨n, by omega, by rw [hd2]; exact hw, ?_, ?_⟩
  · rw [hd2, e, oddF, if_neg h34, hb, if_neg (by simp), if_neg h32]; simp
  · simp only [List.length_append, List.length_cons, List.length_nil]; omega
end Go.Proofs.YtiocnfambeochaaGreatDoor
