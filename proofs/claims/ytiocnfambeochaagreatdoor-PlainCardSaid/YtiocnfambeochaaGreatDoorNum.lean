/- 'grammar.Number': whatever the tokens are, an answer of 64 bits. -/
import Derived.Test.YtiocnfambeochaaGreatDoorChk
namespace Go.Proofs.YtiocnfambeochaaGreatDoor
open Go.RowKit

def SynVar (w : World) : Prop := ∃ tp p, w.var? Tryz.prog "strconv.ErrSyntax" = some #[.iface tp p]

theorem parse_any (t : ByteArray) (ht : t.size ≤ 1000) (w : World) (hE : ErrVar w) (hS : SynVar w) :
    Calls Tryz.prog 108 #[.string t, .int .i64 10, .int .i64 64] w fun e w' => ∃ x y, e = .returned (.tuple #[.int .i64 x, y]) ∧ (y = .nilIface ∨ ∃ N, y = .iface 269 (.pointer (some ⟨N, 0, none⟩))) ∧ Below w.heap.size w w' := by
  cases h : Lib.parseIntB 64 t.data.toList with
  | ok v =>
    refine (Tryz.strconv_ParseInt_10_at64_ok t (by omega) v h w).mono ?_
    rintro e w' ⟨rfl, rfl | ⟨t, rfl⟩⟩
    · exact ⟨_, _, rfl, .inl rfl, Below.refl _ _⟩
    · exact ⟨_, _, rfl, .inl rfl, Lib.bytesWorld_below w 5 t⟩
  | range =>
    obtain ⟨tp, p, hv⟩ := hE
    refine (Tryz.strconv_ParseInt_10_at64_range_var t (by omega) h tp p w hv).mono ?_
    rintro e w' ⟨N, rfl, _, _, hb⟩
    exact ⟨_, _, rfl, .inr ⟨N, rfl⟩, hb⟩
  | _ =>
    obtain ⟨tp, p, hv⟩ := hS
    have hs := (Any.strconv_ParseInt_10_at64_syntax_var Tryz.laysC174 t (by omega) h tp p w hv).mono (R' := fun e w' => ∃ x y, e = .returned (.tuple #[.int .i64 x, y]) ∧ (y = .nilIface ∨ ∃ N, y = .iface 269 (.pointer (some ⟨N, 0, none⟩))) ∧ Below w.heap.size w w') (by
      rintro e w' ⟨N, rfl, _, _, hb⟩
      exact ⟨_, _, rfl, .inr ⟨N, rfl⟩, hb⟩)
    exact hs

/-- An answer of 'Number': a number of 64 bits, and whether it is one. -/
def NumA (W : World) (e : Ending) (w' : World) : Prop := ∃ n b, e = .returned (.tuple #[.int .i64 n, .bool b]) ∧ (-9223372036854775808 ≤ n ∧ n ≤ 9223372036854775807) ∧ Below W.heap.size W w'
end Go.Proofs.YtiocnfambeochaaGreatDoor
