/- sheetskeep.Plain: for every text of raw bytes the call answers true: the formula that it writes has its own text for its plain form, also with blanks more or less, and Formula tells it behind an edit. Condition: the package-level variables of Go's library that the row lists hold what the program's text lays there (the card ties them to it); nothing else is asked. -/
import Derived.Test.YtabcicijjdggdaaDoorCard0
import Derived.Test.YtabcicijjdggdaaDoorFmlE
import Derived.Test.YtabcicijjdggdaaDoorEd
namespace Go.Proofs.YtabcicijjdggdaaDoor
open Go.RowKit

theorem sheets_do : SheetC SH ST where
  make := fun W => begin_any W
  put := fun W x t hSH hA he ht hl B hB hBW => by
    have h := set_f8 W x ⟨t.toArray⟩ hSH hA he (by rw [size_list]; cases t with | nil => exact absurd rfl ht | cons a r => simp) (by rw [size_list]; exact hl) B hB hBW
    exact h
  tell := fun W x t h => tell_any W x t h

theorem law_holds : LawWalk := fun raw hraw w hA => law_walk SH ST sheets_do fml_all raw hraw w hA

theorem plain_card : Rows.PlainCardSaid := card law_holds
end Go.Proofs.YtabcicijjdggdaaDoor
