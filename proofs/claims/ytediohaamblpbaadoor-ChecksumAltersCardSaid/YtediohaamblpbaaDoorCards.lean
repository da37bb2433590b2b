/-
  DERIVED. GIVEN WITH THE SEED: THE CARDS: each row of YtediohaamblpbaaDoorRows.lean that lists a variable, with what it lists TIED to the program's text (the seventh form; the later family's looks); each row that meets fmt, with fmt's text TOLD by the authors' own Lean function (tested against real Go, not proved from fmt's source: count such statements apart). THE CARD IS WHAT COUNTS. Prove the row's statement (the work); the ties are given (YtediohaamblpbaaDoorTie.lean); close each card by the builder's one call (the guide's Derived/Test/ToyasCard.lean, 'card_holds'). Laid BY PROGRAM, IN A SANDBOX (cutbox-door.mjs). By AI agents, Wed Nov 11 2026. No macro, syntax, notation, axiom, sorry.
-/
import Derived.Test.YtediohaamblpbaaDoorRows
import GoSem.ClaimSeven
namespace Go.Proofs.YtediohaamblpbaaDoor
namespace Rows

/-- THE TIED CARD OF 'sleuthlaw04.ChecksumWords'. -/
def checksumWordsCard : Claim7 := { stood := { row := checksumWordsRow, standIns := [], harness := (true, "43c0ad6c5a17789672237db7c95ea7a8cc0e466e7e5cc0a233bd0dbbedbc5178"), looks := false }, kinds := [], alts := [], laidByText := true, laidKinds := [.data], laidTests := true, laidLooks := .later }
def ChecksumWordsCardSaid : Prop := Claim7.holds Tryd.pinned (.plain (OpenSpec.ofChange checksumWordsSpec)) checksumWordsCard

/-- THE TIED CARD OF 'sleuthlaw04.ChecksumMixes'. -/
def checksumMixesCard : Claim7 := { stood := { row := checksumMixesRow, standIns := [], harness := (true, "43c0ad6c5a17789672237db7c95ea7a8cc0e466e7e5cc0a233bd0dbbedbc5178"), looks := false }, kinds := [], alts := [], laidByText := true, laidKinds := [.data], laidTests := true, laidLooks := .later }
def ChecksumMixesCardSaid : Prop := Claim7.holds Tryd.pinned (.plain (OpenSpec.ofChange checksumMixesSpec)) checksumMixesCard

/-- THE TIED CARD OF 'sleuthlaw04.ChecksumTexts'. -/
def checksumTextsCard : Claim7 := { stood := { row := checksumTextsRow, standIns := [], harness := (true, "43c0ad6c5a17789672237db7c95ea7a8cc0e466e7e5cc0a233bd0dbbedbc5178"), looks := false }, kinds := [], alts := [], laidByText := true, laidKinds := [.data], laidTests := true, laidLooks := .later }
def ChecksumTextsCardSaid : Prop := Claim7.holds Tryd.pinned (.plain (OpenSpec.ofChange checksumTextsSpec)) checksumTextsCard

/-- THE TIED CARD OF 'sleuthlaw04.ChecksumSums'. -/
def checksumSumsCard : Claim7 := { stood := { row := checksumSumsRow, standIns := [], harness := (true, "43c0ad6c5a17789672237db7c95ea7a8cc0e466e7e5cc0a233bd0dbbedbc5178"), looks := false }, kinds := [], alts := [], laidByText := true, laidKinds := [.data], laidTests := true, laidLooks := .later }
def ChecksumSumsCardSaid : Prop := Claim7.holds Tryd.pinned (.plain (OpenSpec.ofChange checksumSumsSpec)) checksumSumsCard

/-- THE TIED CARD OF 'sleuthlaw04.ChecksumExtends'. -/
def checksumExtendsCard : Claim7 := { stood := { row := checksumExtendsRow, standIns := [], harness := (true, "43c0ad6c5a17789672237db7c95ea7a8cc0e466e7e5cc0a233bd0dbbedbc5178"), looks := false }, kinds := [], alts := [], laidByText := true, laidKinds := [.data], laidTests := true, laidLooks := .later }
def ChecksumExtendsCardSaid : Prop := Claim7.holds Tryd.pinned (.plain (OpenSpec.ofChange checksumExtendsSpec)) checksumExtendsCard

/-- THE TIED CARD OF 'sleuthlaw04.ChecksumCombines'. -/
def checksumCombinesCard : Claim7 := { stood := { row := checksumCombinesRow, standIns := [], harness := (true, "43c0ad6c5a17789672237db7c95ea7a8cc0e466e7e5cc0a233bd0dbbedbc5178"), looks := false }, kinds := [], alts := [], laidByText := true, laidKinds := [.data], laidTests := true, laidLooks := .later }
def ChecksumCombinesCardSaid : Prop := Claim7.holds Tryd.pinned (.plain (OpenSpec.ofChange checksumCombinesSpec)) checksumCombinesCard

/-- THE TIED CARD OF 'sleuthlaw04.ChecksumAssociates'. -/
def checksumAssociatesCard : Claim7 := { stood := { row := checksumAssociatesRow, standIns := [], harness := (true, "43c0ad6c5a17789672237db7c95ea7a8cc0e466e7e5cc0a233bd0dbbedbc5178"), looks := false }, kinds := [], alts := [], laidByText := true, laidKinds := [.data], laidTests := true, laidLooks := .later }
def ChecksumAssociatesCardSaid : Prop := Claim7.holds Tryd.pinned (.plain (OpenSpec.ofChange checksumAssociatesSpec)) checksumAssociatesCard

/-- THE TIED CARD OF 'sleuthlaw04.ChecksumDetects'. -/
def checksumDetectsCard : Claim7 := { stood := { row := checksumDetectsRow, standIns := [], harness := (true, "43c0ad6c5a17789672237db7c95ea7a8cc0e466e7e5cc0a233bd0dbbedbc5178"), looks := false }, kinds := [], alts := [], laidByText := true, laidKinds := [.data], laidTests := true, laidLooks := .later }
def ChecksumDetectsCardSaid : Prop := Claim7.holds Tryd.pinned (.plain (OpenSpec.ofChange checksumDetectsSpec)) checksumDetectsCard

/-- THE TIED CARD OF 'sleuthlaw04.ChecksumChains'. -/
def checksumChainsCard : Claim7 := { stood := { row := checksumChainsRow, standIns := [], harness := (true, "43c0ad6c5a17789672237db7c95ea7a8cc0e466e7e5cc0a233bd0dbbedbc5178"), looks := false }, kinds := [], alts := [], laidByText := true, laidKinds := [.data], laidTests := true, laidLooks := .later }
def ChecksumChainsCardSaid : Prop := Claim7.holds Tryd.pinned (.plain (OpenSpec.ofChange checksumChainsSpec)) checksumChainsCard

/-- THE TIED CARD OF 'sleuthlaw04.ChecksumAlters'. -/
def checksumAltersCard : Claim7 := { stood := { row := checksumAltersRow, standIns := [], harness := (true, "43c0ad6c5a17789672237db7c95ea7a8cc0e466e7e5cc0a233bd0dbbedbc5178"), looks := false }, kinds := [], alts := [], laidByText := true, laidKinds := [.data], laidTests := true, laidLooks := .later }
def ChecksumAltersCardSaid : Prop := Claim7.holds Tryd.pinned (.plain (OpenSpec.ofChange checksumAltersSpec)) checksumAltersCard

/-- THE SECOND FORM's CARD OF 'sleuthlaw04.ChecksumWords'. -/
def checksumWordsUptoCard : Claim7 := { stood := { row := checksumWordsUptoRow, standIns := [], harness := (true, "43c0ad6c5a17789672237db7c95ea7a8cc0e466e7e5cc0a233bd0dbbedbc5178"), looks := false }, kinds := [], alts := [], laidByText := true, laidKinds := [.data], laidTests := true, laidLooks := .later }
def ChecksumWordsUptoCardSaid : Prop := Claim7.holds Tryd.pinned (.plain (OpenSpec.upto checksumWordsSpec)) checksumWordsUptoCard

/-- THE SECOND FORM's CARD OF 'sleuthlaw04.ChecksumMixes'. -/
def checksumMixesUptoCard : Claim7 := { stood := { row := checksumMixesUptoRow, standIns := [], harness := (true, "43c0ad6c5a17789672237db7c95ea7a8cc0e466e7e5cc0a233bd0dbbedbc5178"), looks := false }, kinds := [], alts := [], laidByText := true, laidKinds := [.data], laidTests := true, laidLooks := .later }
def ChecksumMixesUptoCardSaid : Prop := Claim7.holds Tryd.pinned (.plain (OpenSpec.upto checksumMixesSpec)) checksumMixesUptoCard

/-- THE SECOND FORM's CARD OF 'sleuthlaw04.ChecksumTexts'. -/
def checksumTextsUptoCard : Claim7 := { stood := { row := checksumTextsUptoRow, standIns := [], harness := (true, "43c0ad6c5a17789672237db7c95ea7a8cc0e466e7e5cc0a233bd0dbbedbc5178"), looks := false }, kinds := [], alts := [], laidByText := true, laidKinds := [.data], laidTests := true, laidLooks := .later }
def ChecksumTextsUptoCardSaid : Prop := Claim7.holds Tryd.pinned (.plain (OpenSpec.upto checksumTextsSpec)) checksumTextsUptoCard

/-- THE SECOND FORM's CARD OF 'sleuthlaw04.ChecksumSums'. -/
def checksumSumsUptoCard : Claim7 := { stood := { row := checksumSumsUptoRow, standIns := [], harness := (true, "43c0ad6c5a17789672237db7c95ea7a8cc0e466e7e5cc0a233bd0dbbedbc5178"), looks := false }, kinds := [], alts := [], laidByText := true, laidKinds := [.data], laidTests := true, laidLooks := .later }
def ChecksumSumsUptoCardSaid : Prop := Claim7.holds Tryd.pinned (.plain (OpenSpec.upto checksumSumsSpec)) checksumSumsUptoCard

/-- THE SECOND FORM's CARD OF 'sleuthlaw04.ChecksumExtends'. -/
def checksumExtendsUptoCard : Claim7 := { stood := { row := checksumExtendsUptoRow, standIns := [], harness := (true, "43c0ad6c5a17789672237db7c95ea7a8cc0e466e7e5cc0a233bd0dbbedbc5178"), looks := false }, kinds := [], alts := [], laidByText := true, laidKinds := [.data], laidTests := true, laidLooks := .later }
def ChecksumExtendsUptoCardSaid : Prop := Claim7.holds Tryd.pinned (.plain (OpenSpec.upto checksumExtendsSpec)) checksumExtendsUptoCard

/-- THE SECOND FORM's CARD OF 'sleuthlaw04.ChecksumCombines'. -/
def checksumCombinesUptoCard : Claim7 := { stood := { row := checksumCombinesUptoRow, standIns := [], harness := (true, "43c0ad6c5a17789672237db7c95ea7a8cc0e466e7e5cc0a233bd0dbbedbc5178"), looks := false }, kinds := [], alts := [], laidByText := true, laidKinds := [.data], laidTests := true, laidLooks := .later }
def ChecksumCombinesUptoCardSaid : Prop := Claim7.holds Tryd.pinned (.plain (OpenSpec.upto checksumCombinesSpec)) checksumCombinesUptoCard

/-- THE SECOND FORM's CARD OF 'sleuthlaw04.ChecksumAssociates'. -/
def checksumAssociatesUptoCard : Claim7 := { stood := { row := checksumAssociatesUptoRow, standIns := [], harness := (true, "43c0ad6c5a17789672237db7c95ea7a8cc0e466e7e5cc0a233bd0dbbedbc5178"), looks := false }, kinds := [], alts := [], laidByText := true, laidKinds := [.data], laidTests := true, laidLooks := .later }
def ChecksumAssociatesUptoCardSaid : Prop := Claim7.holds Tryd.pinned (.plain (OpenSpec.upto checksumAssociatesSpec)) checksumAssociatesUptoCard

/-- THE SECOND FORM's CARD OF 'sleuthlaw04.ChecksumDetects'. -/
def checksumDetectsUptoCard : Claim7 := { stood := { row := checksumDetectsUptoRow, standIns := [], harness := (true, "43c0ad6c5a17789672237db7c95ea7a8cc0e466e7e5cc0a233bd0dbbedbc5178"), looks := false }, kinds := [], alts := [], laidByText := true, laidKinds := [.data], laidTests := true, laidLooks := .later }
def ChecksumDetectsUptoCardSaid : Prop := Claim7.holds Tryd.pinned (.plain (OpenSpec.upto checksumDetectsSpec)) checksumDetectsUptoCard

/-- THE SECOND FORM's CARD OF 'sleuthlaw04.ChecksumChains'. -/
def checksumChainsUptoCard : Claim7 := { stood := { row := checksumChainsUptoRow, standIns := [], harness := (true, "43c0ad6c5a17789672237db7c95ea7a8cc0e466e7e5cc0a233bd0dbbedbc5178"), looks := false }, kinds := [], alts := [], laidByText := true, laidKinds := [.data], laidTests := true, laidLooks := .later }
def ChecksumChainsUptoCardSaid : Prop := Claim7.holds Tryd.pinned (.plain (OpenSpec.upto checksumChainsSpec)) checksumChainsUptoCard

/-- THE SECOND FORM's CARD OF 'sleuthlaw04.ChecksumAlters'. -/
def checksumAltersUptoCard : Claim7 := { stood := { row := checksumAltersUptoRow, standIns := [], harness := (true, "43c0ad6c5a17789672237db7c95ea7a8cc0e466e7e5cc0a233bd0dbbedbc5178"), looks := false }, kinds := [], alts := [], laidByText := true, laidKinds := [.data], laidTests := true, laidLooks := .later }
def ChecksumAltersUptoCardSaid : Prop := Claim7.holds Tryd.pinned (.plain (OpenSpec.upto checksumAltersSpec)) checksumAltersUptoCard
end Rows
end Go.Proofs.YtediohaamblpbaaDoor
