/-
  DERIVED. GIVEN WITH THE SEED: THE CARDS: each row of YtnegdabcjnhpdaaDoorRows.lean that lists a variable, with what it lists TIED to the program's text (the seventh form; the later family's looks); each row that meets fmt, with fmt's text TOLD by the authors' own Lean function (tested against real Go, not proved from fmt's source: count such statements apart). THE CARD IS WHAT COUNTS. Prove the row's statement (the work); the ties are given (YtnegdabcjnhpdaaDoorTie.lean); close each card by the builder's one call (the guide's Derived/Test/ToyasCard.lean, 'card_holds'). Laid BY PROGRAM, IN A SANDBOX (cutbox-door.mjs). By AI agents, Wed Nov 11 2026. No macro, syntax, notation, axiom, sorry.
-/
import Derived.Test.YtnegdabcjnhpdaaDoorRows
import GoSem.ClaimSeven
namespace Go.Proofs.YtnegdabcjnhpdaaDoor
namespace Rows

/-- THE TIED CARD OF 'withylaw10.FieldPlays'. -/
def fieldPlaysCard : Claim7 := { stood := { row := fieldPlaysRow, standIns := [], harness := (true, "feb9db933cf09b04f6748e7da21388e1044eaf6b85d58a4b9500a4774a8d7166"), looks := false }, kinds := [], alts := [], laidByText := true, laidKinds := [.data], laidTests := true, laidLooks := .later }
def FieldPlaysCardSaid : Prop := Claim7.holds Tryd.pinned (.plain (OpenSpec.ofChange fieldPlaysSpec)) fieldPlaysCard

/-- THE TIED CARD OF 'withylaw10.FieldAlone'. -/
def fieldAloneCard : Claim7 := { stood := { row := fieldAloneRow, standIns := [], harness := (true, "feb9db933cf09b04f6748e7da21388e1044eaf6b85d58a4b9500a4774a8d7166"), looks := false }, kinds := [], alts := [], laidByText := true, laidKinds := [.data], laidTests := true, laidLooks := .later }
def FieldAloneCardSaid : Prop := Claim7.holds Tryd.pinned (.plain (OpenSpec.ofChange fieldAloneSpec)) fieldAloneCard

/-- THE TIED CARD OF 'withylaw10.FieldViews'. -/
def fieldViewsCard : Claim7 := { stood := { row := fieldViewsRow, standIns := [], harness := (true, "feb9db933cf09b04f6748e7da21388e1044eaf6b85d58a4b9500a4774a8d7166"), looks := false }, kinds := [], alts := [], laidByText := true, laidKinds := [.data], laidTests := true, laidLooks := .later }
def FieldViewsCardSaid : Prop := Claim7.holds Tryd.pinned (.plain (OpenSpec.ofChange fieldViewsSpec)) fieldViewsCard

/-- THE TIED CARD OF 'withylaw10.FieldNone'. -/
def fieldNoneCard : Claim7 := { stood := { row := fieldNoneRow, standIns := [], harness := (true, "feb9db933cf09b04f6748e7da21388e1044eaf6b85d58a4b9500a4774a8d7166"), looks := false }, kinds := [], alts := [], laidByText := true, laidKinds := [.data], laidTests := true, laidLooks := .later }
def FieldNoneCardSaid : Prop := Claim7.holds Tryd.pinned (.plain (OpenSpec.ofChange fieldNoneSpec)) fieldNoneCard

/-- THE SECOND FORM's CARD OF 'withylaw10.FieldPlays'. -/
def fieldPlaysUptoCard : Claim7 := { stood := { row := fieldPlaysUptoRow, standIns := [], harness := (true, "feb9db933cf09b04f6748e7da21388e1044eaf6b85d58a4b9500a4774a8d7166"), looks := false }, kinds := [], alts := [], laidByText := true, laidKinds := [.data], laidTests := true, laidLooks := .later }
def FieldPlaysUptoCardSaid : Prop := Claim7.holds Tryd.pinned (.plain (OpenSpec.upto fieldPlaysSpec)) fieldPlaysUptoCard

/-- THE SECOND FORM's CARD OF 'withylaw10.FieldAlone'. -/
def fieldAloneUptoCard : Claim7 := { stood := { row := fieldAloneUptoRow, standIns := [], harness := (true, "feb9db933cf09b04f6748e7da21388e1044eaf6b85d58a4b9500a4774a8d7166"), looks := false }, kinds := [], alts := [], laidByText := true, laidKinds := [.data], laidTests := true, laidLooks := .later }
def FieldAloneUptoCardSaid : Prop := Claim7.holds Tryd.pinned (.plain (OpenSpec.upto fieldAloneSpec)) fieldAloneUptoCard

/-- THE SECOND FORM's CARD OF 'withylaw10.FieldViews'. -/
def fieldViewsUptoCard : Claim7 := { stood := { row := fieldViewsUptoRow, standIns := [], harness := (true, "feb9db933cf09b04f6748e7da21388e1044eaf6b85d58a4b9500a4774a8d7166"), looks := false }, kinds := [], alts := [], laidByText := true, laidKinds := [.data], laidTests := true, laidLooks := .later }
def FieldViewsUptoCardSaid : Prop := Claim7.holds Tryd.pinned (.plain (OpenSpec.upto fieldViewsSpec)) fieldViewsUptoCard

/-- THE SECOND FORM's CARD OF 'withylaw10.FieldNone'. -/
def fieldNoneUptoCard : Claim7 := { stood := { row := fieldNoneUptoRow, standIns := [], harness := (true, "feb9db933cf09b04f6748e7da21388e1044eaf6b85d58a4b9500a4774a8d7166"), looks := false }, kinds := [], alts := [], laidByText := true, laidKinds := [.data], laidTests := true, laidLooks := .later }
def FieldNoneUptoCardSaid : Prop := Claim7.holds Tryd.pinned (.plain (OpenSpec.upto fieldNoneSpec)) fieldNoneUptoCard
end Rows
end Go.Proofs.YtnegdabcjnhpdaaDoor
