/-
  DERIVED. GIVEN WITH THE SEED: THE CARDS: each row of YtmdifoejacogpaaDoorRows.lean that lists a variable, with what it lists TIED to the program's text (the seventh form; the later family's looks); each row that meets fmt, with fmt's text TOLD by the authors' own Lean function (tested against real Go, not proved from fmt's source: count such statements apart). THE CARD IS WHAT COUNTS. Prove the row's statement (the work); the ties are given (YtmdifoejacogpaaDoorTie.lean); close each card by the builder's one call (the guide's Derived/Test/ToyasCard.lean, 'card_holds'). Laid BY PROGRAM, IN A SANDBOX (cutbox-door.mjs). By AI agents, Wed Nov 11 2026. No macro, syntax, notation, axiom, sorry.
-/
import Derived.Test.YtmdifoejacogpaaDoorRows
import GoSem.ClaimSeven
namespace Go.Proofs.YtmdifoejacogpaaDoor
namespace Rows

/-- THE TIED CARD OF 'furrowlaw4.TokLine'. -/
def tokLineCard : Claim7 := { stood := { row := tokLineRow, standIns := [], harness := (true, "1b3836d56054d535b08a4bcd49b95e5476b7300265737140691561279d9fca07"), looks := true }, kinds := [], alts := [], laidByText := true, laidKinds := [.data, .handle, .pinned], laidTests := true, laidLooks := .later }
def TokLineCardSaid : Prop := Claim7.holds Tryd.pinned (.plain (OpenSpec.ofChange tokLineSpec)) tokLineCard

/-- THE TIED CARD OF 'furrowlaw4.TokReplace'. -/
def tokReplaceCard : Claim7 := { stood := { row := tokReplaceRow, standIns := [], harness := (true, "1b3836d56054d535b08a4bcd49b95e5476b7300265737140691561279d9fca07"), looks := true }, kinds := [], alts := [], laidByText := true, laidKinds := [.data, .pinned], laidTests := true, laidLooks := .later }
def TokReplaceCardSaid : Prop := Claim7.holds Tryd.pinned (.plain (OpenSpec.ofChange tokReplaceSpec)) tokReplaceCard

/-- THE TIED CARD OF 'furrowlaw4.TokNumbers'. -/
def tokNumbersCard : Claim7 := { stood := { row := tokNumbersRow, standIns := [], harness := (true, "1b3836d56054d535b08a4bcd49b95e5476b7300265737140691561279d9fca07"), looks := true }, kinds := [], alts := [], laidByText := true, laidKinds := [.data, .handle, .pinned], laidTests := true, laidLooks := .later }
def TokNumbersCardSaid : Prop := Claim7.holds Tryd.pinned (.plain (OpenSpec.ofChange tokNumbersSpec)) tokNumbersCard

/-- THE TIED CARD OF 'furrowlaw4.TokBlanks'. -/
def tokBlanksCard : Claim7 := { stood := { row := tokBlanksRow, standIns := [], harness := (true, "1b3836d56054d535b08a4bcd49b95e5476b7300265737140691561279d9fca07"), looks := true }, kinds := [], alts := [], laidByText := true, laidKinds := [.data, .pinned], laidTests := true, laidLooks := .later }
def TokBlanksCardSaid : Prop := Claim7.holds Tryd.pinned (.plain (OpenSpec.ofChange tokBlanksSpec)) tokBlanksCard

/-- THE TIED CARD OF 'furrowlaw4.TokJoined'. -/
def tokJoinedCard : Claim7 := { stood := { row := tokJoinedRow, standIns := [], harness := (true, "1b3836d56054d535b08a4bcd49b95e5476b7300265737140691561279d9fca07"), looks := true }, kinds := [], alts := [], laidByText := true, laidKinds := [.data, .pinned], laidTests := true, laidLooks := .later }
def TokJoinedCardSaid : Prop := Claim7.holds Tryd.pinned (.plain (OpenSpec.ofChange tokJoinedSpec)) tokJoinedCard

/-- THE SECOND FORM's CARD OF 'furrowlaw4.TokLine'. -/
def tokLineUptoCard : Claim7 := { stood := { row := tokLineUptoRow, standIns := [], harness := (true, "1b3836d56054d535b08a4bcd49b95e5476b7300265737140691561279d9fca07"), looks := true }, kinds := [], alts := [], laidByText := true, laidKinds := [.data, .handle, .pinned], laidTests := true, laidLooks := .later }
def TokLineUptoCardSaid : Prop := Claim7.holds Tryd.pinned (.plain (OpenSpec.upto tokLineSpec)) tokLineUptoCard

/-- THE SECOND FORM's CARD OF 'furrowlaw4.TokReplace'. -/
def tokReplaceUptoCard : Claim7 := { stood := { row := tokReplaceUptoRow, standIns := [], harness := (true, "1b3836d56054d535b08a4bcd49b95e5476b7300265737140691561279d9fca07"), looks := true }, kinds := [], alts := [], laidByText := true, laidKinds := [.data, .pinned], laidTests := true, laidLooks := .later }
def TokReplaceUptoCardSaid : Prop := Claim7.holds Tryd.pinned (.plain (OpenSpec.upto tokReplaceSpec)) tokReplaceUptoCard

/-- THE SECOND FORM's CARD OF 'furrowlaw4.TokNumbers'. -/
def tokNumbersUptoCard : Claim7 := { stood := { row := tokNumbersUptoRow, standIns := [], harness := (true, "1b3836d56054d535b08a4bcd49b95e5476b7300265737140691561279d9fca07"), looks := true }, kinds := [], alts := [], laidByText := true, laidKinds := [.data, .handle, .pinned], laidTests := true, laidLooks := .later }
def TokNumbersUptoCardSaid : Prop := Claim7.holds Tryd.pinned (.plain (OpenSpec.upto tokNumbersSpec)) tokNumbersUptoCard

/-- THE SECOND FORM's CARD OF 'furrowlaw4.TokBlanks'. -/
def tokBlanksUptoCard : Claim7 := { stood := { row := tokBlanksUptoRow, standIns := [], harness := (true, "1b3836d56054d535b08a4bcd49b95e5476b7300265737140691561279d9fca07"), looks := true }, kinds := [], alts := [], laidByText := true, laidKinds := [.data, .pinned], laidTests := true, laidLooks := .later }
def TokBlanksUptoCardSaid : Prop := Claim7.holds Tryd.pinned (.plain (OpenSpec.upto tokBlanksSpec)) tokBlanksUptoCard

/-- THE SECOND FORM's CARD OF 'furrowlaw4.TokJoined'. -/
def tokJoinedUptoCard : Claim7 := { stood := { row := tokJoinedUptoRow, standIns := [], harness := (true, "1b3836d56054d535b08a4bcd49b95e5476b7300265737140691561279d9fca07"), looks := true }, kinds := [], alts := [], laidByText := true, laidKinds := [.data, .pinned], laidTests := true, laidLooks := .later }
def TokJoinedUptoCardSaid : Prop := Claim7.holds Tryd.pinned (.plain (OpenSpec.upto tokJoinedSpec)) tokJoinedUptoCard
end Rows
end Go.Proofs.YtmdifoejacogpaaDoor
