/-
  DERIVED. GIVEN WITH THE SEED: THE CARDS: each row of YtadlhnjnhllpfaaDoorRows.lean that lists a variable, with what it lists TIED to the program's text (the seventh form; the later family's looks); each row that meets fmt, with fmt's text TOLD by the authors' own Lean function (tested against real Go, not proved from fmt's source: count such statements apart). THE CARD IS WHAT COUNTS. Prove the row's statement (the work); the ties are given (YtadlhnjnhllpfaaDoorTie.lean); close each card by the builder's one call (the guide's Derived/Test/ToyasCard.lean, 'card_holds'). Laid BY PROGRAM, IN A SANDBOX (cutbox-door.mjs). By AI agents, Wed Nov 11 2026. No macro, syntax, notation, axiom, sorry.
-/
import Derived.Test.YtadlhnjnhllpfaaDoorRows
import GoSem.ClaimSeven
namespace Go.Proofs.YtadlhnjnhllpfaaDoor
namespace Rows

/-- THE TIED CARD OF 'convoylaw06.SstBuilds'. -/
def sstBuildsCard : Claim7 := { stood := { row := sstBuildsRow, standIns := [], harness := (true, "99b9a2bcb012d4c7941297c24edd264f9177d12add396c3c8a936ac4b7b8c2d3"), looks := false }, kinds := [], alts := [], laidByText := true, laidKinds := [.data], laidTests := true, laidLooks := .later }
def SstBuildsCardSaid : Prop := Claim7.holds Tryd.pinned (.plain (OpenSpec.ofChange sstBuildsSpec)) sstBuildsCard

/-- THE TIED CARD OF 'convoylaw06.SstParses'. -/
def sstParsesCard : Claim7 := { stood := { row := sstParsesRow, standIns := [], harness := (true, "99b9a2bcb012d4c7941297c24edd264f9177d12add396c3c8a936ac4b7b8c2d3"), looks := false }, kinds := [], alts := [], laidByText := true, laidKinds := [.data], laidTests := true, laidLooks := .later }
def SstParsesCardSaid : Prop := Claim7.holds Tryd.pinned (.plain (OpenSpec.ofChange sstParsesSpec)) sstParsesCard

/-- THE TIED CARD OF 'convoylaw06.SstReads'. -/
def sstReadsCard : Claim7 := { stood := { row := sstReadsRow, standIns := [], harness := (true, "99b9a2bcb012d4c7941297c24edd264f9177d12add396c3c8a936ac4b7b8c2d3"), looks := false }, kinds := [], alts := [], laidByText := true, laidKinds := [.data], laidTests := true, laidLooks := .later }
def SstReadsCardSaid : Prop := Claim7.holds Tryd.pinned (.plain (OpenSpec.ofChange sstReadsSpec)) sstReadsCard

/-- THE TIED CARD OF 'convoylaw06.SstBlocks'. -/
def sstBlocksCard : Claim7 := { stood := { row := sstBlocksRow, standIns := [], harness := (true, "99b9a2bcb012d4c7941297c24edd264f9177d12add396c3c8a936ac4b7b8c2d3"), looks := false }, kinds := [], alts := [], laidByText := true, laidKinds := [.data], laidTests := true, laidLooks := .later }
def SstBlocksCardSaid : Prop := Claim7.holds Tryd.pinned (.plain (OpenSpec.ofChange sstBlocksSpec)) sstBlocksCard

/-- THE TIED CARD OF 'convoylaw06.SstOwn'. -/
def sstOwnCard : Claim7 := { stood := { row := sstOwnRow, standIns := [], harness := (true, "99b9a2bcb012d4c7941297c24edd264f9177d12add396c3c8a936ac4b7b8c2d3"), looks := false }, kinds := [], alts := [], laidByText := true, laidKinds := [.data], laidTests := true, laidLooks := .later }
def SstOwnCardSaid : Prop := Claim7.holds Tryd.pinned (.plain (OpenSpec.ofChange sstOwnSpec)) sstOwnCard

/-- THE SECOND FORM's CARD OF 'convoylaw06.SstBuilds'. -/
def sstBuildsUptoCard : Claim7 := { stood := { row := sstBuildsUptoRow, standIns := [], harness := (true, "99b9a2bcb012d4c7941297c24edd264f9177d12add396c3c8a936ac4b7b8c2d3"), looks := false }, kinds := [], alts := [], laidByText := true, laidKinds := [.data], laidTests := true, laidLooks := .later }
def SstBuildsUptoCardSaid : Prop := Claim7.holds Tryd.pinned (.plain (OpenSpec.upto sstBuildsSpec)) sstBuildsUptoCard

/-- THE SECOND FORM's CARD OF 'convoylaw06.SstParses'. -/
def sstParsesUptoCard : Claim7 := { stood := { row := sstParsesUptoRow, standIns := [], harness := (true, "99b9a2bcb012d4c7941297c24edd264f9177d12add396c3c8a936ac4b7b8c2d3"), looks := false }, kinds := [], alts := [], laidByText := true, laidKinds := [.data], laidTests := true, laidLooks := .later }
def SstParsesUptoCardSaid : Prop := Claim7.holds Tryd.pinned (.plain (OpenSpec.upto sstParsesSpec)) sstParsesUptoCard

/-- THE SECOND FORM's CARD OF 'convoylaw06.SstReads'. -/
def sstReadsUptoCard : Claim7 := { stood := { row := sstReadsUptoRow, standIns := [], harness := (true, "99b9a2bcb012d4c7941297c24edd264f9177d12add396c3c8a936ac4b7b8c2d3"), looks := false }, kinds := [], alts := [], laidByText := true, laidKinds := [.data], laidTests := true, laidLooks := .later }
def SstReadsUptoCardSaid : Prop := Claim7.holds Tryd.pinned (.plain (OpenSpec.upto sstReadsSpec)) sstReadsUptoCard

/-- THE SECOND FORM's CARD OF 'convoylaw06.SstBlocks'. -/
def sstBlocksUptoCard : Claim7 := { stood := { row := sstBlocksUptoRow, standIns := [], harness := (true, "99b9a2bcb012d4c7941297c24edd264f9177d12add396c3c8a936ac4b7b8c2d3"), looks := false }, kinds := [], alts := [], laidByText := true, laidKinds := [.data], laidTests := true, laidLooks := .later }
def SstBlocksUptoCardSaid : Prop := Claim7.holds Tryd.pinned (.plain (OpenSpec.upto sstBlocksSpec)) sstBlocksUptoCard

/-- THE SECOND FORM's CARD OF 'convoylaw06.SstOwn'. -/
def sstOwnUptoCard : Claim7 := { stood := { row := sstOwnUptoRow, standIns := [], harness := (true, "99b9a2bcb012d4c7941297c24edd264f9177d12add396c3c8a936ac4b7b8c2d3"), looks := false }, kinds := [], alts := [], laidByText := true, laidKinds := [.data], laidTests := true, laidLooks := .later }
def SstOwnUptoCardSaid : Prop := Claim7.holds Tryd.pinned (.plain (OpenSpec.upto sstOwnSpec)) sstOwnUptoCard
end Rows
end Go.Proofs.YtadlhnjnhllpfaaDoor
