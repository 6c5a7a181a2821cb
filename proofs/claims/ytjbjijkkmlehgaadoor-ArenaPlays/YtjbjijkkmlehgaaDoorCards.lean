/-
  DERIVED. GIVEN WITH THE SEED: THE CARDS: each row of YtjbjijkkmlehgaaDoorRows.lean that lists a variable, with what it lists TIED to the program's text (the seventh form; the later family's looks); each row that meets fmt, with fmt's text TOLD by the authors' own Lean function (tested against real Go, not proved from fmt's source: count such statements apart). THE CARD IS WHAT COUNTS. Prove the row's statement (the work); the ties are given (YtjbjijkkmlehgaaDoorTie.lean); close each card by the builder's one call (the guide's Derived/Test/ToyasCard.lean, 'card_holds'). Laid BY PROGRAM, IN A SANDBOX (cutbox-door.mjs). By AI agents, Wed Nov 11 2026. No macro, syntax, notation, axiom, sorry.
-/
import Derived.Test.YtjbjijkkmlehgaaDoorRows
import GoSem.ClaimSeven
namespace Go.Proofs.YtjbjijkkmlehgaaDoor
namespace Rows

/-- THE TIED CARD OF 'withylaw12.ArenaPlays'. -/
def arenaPlaysCard : Claim7 := { stood := { row := arenaPlaysRow, standIns := [], harness := (true, "44cc8fabc3cc54229a36aea07e5ec8b65b2b86adae40c39f28dc96daea3705f6"), looks := false }, kinds := [], alts := [], laidByText := true, laidKinds := [.data], laidTests := true, laidLooks := .later }
def ArenaPlaysCardSaid : Prop := Claim7.holds Tryd.pinned (.plain (OpenSpec.ofChange arenaPlaysSpec)) arenaPlaysCard

/-- THE TIED CARD OF 'withylaw12.ArenaAlone'. -/
def arenaAloneCard : Claim7 := { stood := { row := arenaAloneRow, standIns := [], harness := (true, "44cc8fabc3cc54229a36aea07e5ec8b65b2b86adae40c39f28dc96daea3705f6"), looks := false }, kinds := [], alts := [], laidByText := true, laidKinds := [.data], laidTests := true, laidLooks := .later }
def ArenaAloneCardSaid : Prop := Claim7.holds Tryd.pinned (.plain (OpenSpec.ofChange arenaAloneSpec)) arenaAloneCard

/-- THE TIED CARD OF 'withylaw12.ArenaFrees'. -/
def arenaFreesCard : Claim7 := { stood := { row := arenaFreesRow, standIns := [], harness := (true, "44cc8fabc3cc54229a36aea07e5ec8b65b2b86adae40c39f28dc96daea3705f6"), looks := false }, kinds := [], alts := [], laidByText := true, laidKinds := [.data], laidTests := true, laidLooks := .later }
def ArenaFreesCardSaid : Prop := Claim7.holds Tryd.pinned (.plain (OpenSpec.ofChange arenaFreesSpec)) arenaFreesCard

/-- THE TIED CARD OF 'withylaw12.ArenaBodies'. -/
def arenaBodiesCard : Claim7 := { stood := { row := arenaBodiesRow, standIns := [], harness := (true, "44cc8fabc3cc54229a36aea07e5ec8b65b2b86adae40c39f28dc96daea3705f6"), looks := false }, kinds := [], alts := [], laidByText := true, laidKinds := [.data], laidTests := true, laidLooks := .later }
def ArenaBodiesCardSaid : Prop := Claim7.holds Tryd.pinned (.plain (OpenSpec.ofChange arenaBodiesSpec)) arenaBodiesCard

/-- THE TIED CARD OF 'withylaw12.ArenaNone'. -/
def arenaNoneCard : Claim7 := { stood := { row := arenaNoneRow, standIns := [], harness := (true, "44cc8fabc3cc54229a36aea07e5ec8b65b2b86adae40c39f28dc96daea3705f6"), looks := false }, kinds := [], alts := [], laidByText := true, laidKinds := [.data], laidTests := true, laidLooks := .later }
def ArenaNoneCardSaid : Prop := Claim7.holds Tryd.pinned (.plain (OpenSpec.ofChange arenaNoneSpec)) arenaNoneCard

/-- THE SECOND FORM's CARD OF 'withylaw12.ArenaPlays'. -/
def arenaPlaysUptoCard : Claim7 := { stood := { row := arenaPlaysUptoRow, standIns := [], harness := (true, "44cc8fabc3cc54229a36aea07e5ec8b65b2b86adae40c39f28dc96daea3705f6"), looks := false }, kinds := [], alts := [], laidByText := true, laidKinds := [.data], laidTests := true, laidLooks := .later }
def ArenaPlaysUptoCardSaid : Prop := Claim7.holds Tryd.pinned (.plain (OpenSpec.upto arenaPlaysSpec)) arenaPlaysUptoCard

/-- THE SECOND FORM's CARD OF 'withylaw12.ArenaAlone'. -/
def arenaAloneUptoCard : Claim7 := { stood := { row := arenaAloneUptoRow, standIns := [], harness := (true, "44cc8fabc3cc54229a36aea07e5ec8b65b2b86adae40c39f28dc96daea3705f6"), looks := false }, kinds := [], alts := [], laidByText := true, laidKinds := [.data], laidTests := true, laidLooks := .later }
def ArenaAloneUptoCardSaid : Prop := Claim7.holds Tryd.pinned (.plain (OpenSpec.upto arenaAloneSpec)) arenaAloneUptoCard

/-- THE SECOND FORM's CARD OF 'withylaw12.ArenaFrees'. -/
def arenaFreesUptoCard : Claim7 := { stood := { row := arenaFreesUptoRow, standIns := [], harness := (true, "44cc8fabc3cc54229a36aea07e5ec8b65b2b86adae40c39f28dc96daea3705f6"), looks := false }, kinds := [], alts := [], laidByText := true, laidKinds := [.data], laidTests := true, laidLooks := .later }
def ArenaFreesUptoCardSaid : Prop := Claim7.holds Tryd.pinned (.plain (OpenSpec.upto arenaFreesSpec)) arenaFreesUptoCard

/-- THE SECOND FORM's CARD OF 'withylaw12.ArenaBodies'. -/
def arenaBodiesUptoCard : Claim7 := { stood := { row := arenaBodiesUptoRow, standIns := [], harness := (true, "44cc8fabc3cc54229a36aea07e5ec8b65b2b86adae40c39f28dc96daea3705f6"), looks := false }, kinds := [], alts := [], laidByText := true, laidKinds := [.data], laidTests := true, laidLooks := .later }
def ArenaBodiesUptoCardSaid : Prop := Claim7.holds Tryd.pinned (.plain (OpenSpec.upto arenaBodiesSpec)) arenaBodiesUptoCard

/-- THE SECOND FORM's CARD OF 'withylaw12.ArenaNone'. -/
def arenaNoneUptoCard : Claim7 := { stood := { row := arenaNoneUptoRow, standIns := [], harness := (true, "44cc8fabc3cc54229a36aea07e5ec8b65b2b86adae40c39f28dc96daea3705f6"), looks := false }, kinds := [], alts := [], laidByText := true, laidKinds := [.data], laidTests := true, laidLooks := .later }
def ArenaNoneUptoCardSaid : Prop := Claim7.holds Tryd.pinned (.plain (OpenSpec.upto arenaNoneSpec)) arenaNoneUptoCard
end Rows
end Go.Proofs.YtjbjijkkmlehgaaDoor
