/- sheetskeep.Plain: for every text of raw bytes the call answers true: the formula that it writes has its own text for its plain form, also with blanks more or less, and Formula tells it behind an edit. Condition: the package-level variables of Go's library that the row lists hold what the program's text lays there (the card ties them to it); nothing else is asked. -/
import Derived.Test.YtiocnfambeochaaGreatDoorCard0
import Derived.Test.YtiocnfambeochaaGreatDoorFmlE
import Derived.Test.YtiocnfambeochaaGreatDoorStm
namespace Go.Proofs.YtiocnfambeochaaGreatDoor
open Go.RowKit

def SHp (w : World) (x : Nat) : Prop := SR w x fs0 bd0 (k0 0)
def STp (w : World) (x : Nat) (t : List UInt8) : Prop := ∃ fs k, SR w x fs bd0 k ∧ fs 47 = ⟨t.toArray⟩
theorem cell_f8 : cellN (⟨#[70, 56]⟩ : ByteArray).data.toList = some 47 := by decide
theorem numT_range {ts : List Tk} {n : Int} (h : numT ts = some n) : -9223372036854775808 ≤ n ∧ n ≤ 9223372036854775807 := by
  unfold numT at h
  split at h
  · split at h
    · rw [Option.map_eq_some_iff] at h
      obtain ⟨a, _, rfl⟩ := h
      unfold wrap64; omega
    · cases h
  · split at h
    · rw [Option.map_eq_some_iff] at h
      obtain ⟨a, _, rfl⟩ := h
      unfold wrap64; omega
    · cases h
  · cases h
/-- Where no Bound spoke, a formula that may be is taken. -/
theorem ck_good {cl tx : ByteArray} {c : Nat} (hc : cellN cl.data.toList = some c) (h0 : tx ≠ eB) (he : (rd tx.data.toList).e = 0) : ckP bd0 cl tx = ⟨0, 0, c, ⟨(plT tx.data.toList).toArray⟩⟩ := by
  unfold ckP
  rw [hc]
  simp only
  rw [if_neg h0, if_neg (by simp [he])]
  unfold ckN
  split
  · rename_i n hn
    have := numT_range hn
    rw [if_neg (by unfold bd0; simp only; omega)]
  · rfl
theorem sheets_do : SheetC SHp STp where
  make := fun W => (begin_any 0 (by unfold I64; omega) W).mono fun e w' ⟨x, h1, h2, h3, h4⟩ => ⟨x, h1, h3, h4, h2⟩
  put := fun W x t hSH hA he ht hl B hB hBW => by
    have hne : (⟨t.toArray⟩ : ByteArray) ≠ eB := by
      intro e
      apply ht
      have := congrArg (fun b : ByteArray => b.data.toList) e
      simpa [eB] using this
    have hck := ck_good (cl := ⟨#[70, 56]⟩) (tx := ⟨t.toArray⟩) cell_f8 hne he
    have her : edR bd0 0 [(⟨#[70, 56]⟩, ⟨t.toArray⟩)] fs0 = ⟨0, 0, 0, updF fs0 47 ⟨(plT t).toArray⟩⟩ := by
      unfold edR
      simp only [hck]
      rfl
    refine (set_any W x ⟨#[70, 56]⟩ ⟨t.toArray⟩ hSH hA (by unfold Hid maxLen; simp only [ByteArray.size, List.size_toArray]; omega)).mono ?_
    rintro e w' ⟨rfl, h⟩
    rw [her] at h ⊢
    obtain ⟨h1, h2⟩ := h.out.2 rfl
    exact ⟨rfl, h1.below hB hBW, _, _, h2, by simp [updF]⟩
  tell := fun W x t h => by
    obtain ⟨fs, k, h1, h2⟩ := h
    have := formula_some W x h1 ⟨#[70, 56]⟩ 47 cell_f8
    rw [h2] at this
    exact this
theorem law_holds : LawWalk := fun raw hraw w hA => law_walk SHp STp sheets_do fml_all raw hraw w hA
theorem plain_card : Rows.PlainCardSaid := card law_holds
end Go.Proofs.YtiocnfambeochaaGreatDoor
