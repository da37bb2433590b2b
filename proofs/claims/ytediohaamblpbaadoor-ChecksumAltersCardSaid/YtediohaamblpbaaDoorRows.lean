/-
  NARROWER THAN 'FOR EVERY INPUT', by the rows' own cells (each row's printed sentence says how): ChecksumWords: laid · ChecksumMixes: laid · ChecksumTexts: laid · ChecksumSums: laid · ChecksumExtends: laid · ChecksumCombines: laid · ChecksumAssociates: laid · ChecksumDetects: laid · ChecksumChains: laid · ChecksumAlters: laid.
  DERIVED. THE GIVEN ROWS OF THIS SEAT. 10 by the template 'for every input the law returns true; each argument reads behind the call as it read before'; 0 by the template 'total and deterministic' (their statements: YtediohaamblpbaaDoorTotals.lean).
  GIVEN WITH THE SEED: the statements are not yours to turn. If you find one false, say at which input.
  Laid BY PROGRAM, IN A SANDBOX (cutbox-rows.mjs): the forced cells as the released guide's own fill.sh prints them over the translation fd4b418f9b24f8d3… (all of the seat's roots in one cut). By AI agents, Wed Nov 11 2026. No macro, syntax, notation, axiom, sorry.
-/
import Derived.Test.YtediohaamblpbaaDoorChecked
import GoSem.Claim
import GoSem.ClaimJoined
import GoSem.ClaimMapViews
import Derived.JoinedTies
import Derived.KernelRfl
namespace Go.Proofs.YtediohaamblpbaaDoor
/- THE CELL 'sum', in the pinned program and in every row, IS THE sha256 OF THE DUMP (.gsa) THAT YtediohaamblpbaaDoorProg.lean LOADS. Nothing in Lean hashes anything: it is a label: what it is worth is what the hold of that sum in a sandbox is worth. -/
noncomputable def Tryd.pinned : Pinned := { name := "ytediohaamblpbaadoor", sum := "fd4b418f9b24f8d34f2a3ec363cef718462997128d97c421bb8dc29d72050eac", checked := Tryd.checked }
namespace Rows
def none {H : Type} : Left H := { results := [], args := [] }

/- WHAT THE LISTED PACKAGE-LEVEL VARIABLES READ AS WHEN THE CALL BEGINS. Each datum BY PROGRAM (the guide's laid-datum.mjs) off the statement by which the dump's own 'gosem.cut.vars' lays the variable. In a bare row this is a premise. The card (YtediohaamblpbaaDoorCards.lean) ties it to the program's text. -/
def laid_sleuth_checksum_remainders {H : Type} : DataW H := .agg [.lit (.int .u32 0), .lit (.int .u32 274646895), .lit (.int .u32 549293790), .lit (.int .u32 820201905), .lit (.int .u32 1098587580), .lit (.int .u32 1361435347), .lit (.int .u32 1640403810), .lit (.int .u32 1905808397), .lit (.int .u32 2197175160), .lit (.int .u32 2460548119), .lit (.int .u32 2722870694), .lit (.int .u32 2987750089), .lit (.int .u32 3280807620), .lit (.int .u32 3553878443), .lit (.int .u32 3811616794), .lit (.int .u32 4084100981)]

/-- 'sleuthlaw04.ChecksumWords': WHATEVER THE INPUT: true; the input reads as it did. -/
def checksumWordsSpec : ChangeSpec := { name := "checksumWords", fn := fun _ => fun
  | [d1, d2] => { results := [.lit (.bool true)], args := [d1, d2] }
  | _ => none }
def checksumWordsRow : OpenClaim := { program := "ytediohaamblpbaadoor", sum := "fd4b418f9b24f8d34f2a3ec363cef718462997128d97c421bb8dc29d72050eac", func := "sleuth/sleuthlaw04.ChecksumWords", spec := "checksumWords", named := ["sleuth/checksum.remainders"], apart := false, laid := [("sleuth/checksum.remainders", laid_sleuth_checksum_remainders)] }
def ChecksumWordsSaid : Prop := checksumWordsRow.holds Tryd.pinned (OpenSpec.ofChange checksumWordsSpec)

/-- ITS FALSE NEIGHBOUR: 'it returns false'. Refute it at one input. -/
def checksumWordsWrong : ChangeSpec := { name := "checksumWords", fn := fun _ => fun
  | [d1, d2] => { results := [.lit (.bool false)], args := [d1, d2] }
  | _ => none }
def ChecksumWordsWrongFalsely : Prop := checksumWordsRow.holds Tryd.pinned (OpenSpec.ofChange checksumWordsWrong)

/-- 'sleuthlaw04.ChecksumMixes': WHATEVER THE INPUT: true; the input reads as it did. -/
def checksumMixesSpec : ChangeSpec := { name := "checksumMixes", fn := fun _ => fun
  | [d1, d2, d3] => { results := [.lit (.bool true)], args := [d1, d2, d3] }
  | _ => none }
def checksumMixesRow : OpenClaim := { program := "ytediohaamblpbaadoor", sum := "fd4b418f9b24f8d34f2a3ec363cef718462997128d97c421bb8dc29d72050eac", func := "sleuth/sleuthlaw04.ChecksumMixes", spec := "checksumMixes", named := ["sleuth/checksum.remainders"], apart := false, laid := [("sleuth/checksum.remainders", laid_sleuth_checksum_remainders)] }
def ChecksumMixesSaid : Prop := checksumMixesRow.holds Tryd.pinned (OpenSpec.ofChange checksumMixesSpec)

/-- ITS FALSE NEIGHBOUR: 'it returns false'. Refute it at one input. -/
def checksumMixesWrong : ChangeSpec := { name := "checksumMixes", fn := fun _ => fun
  | [d1, d2, d3] => { results := [.lit (.bool false)], args := [d1, d2, d3] }
  | _ => none }
def ChecksumMixesWrongFalsely : Prop := checksumMixesRow.holds Tryd.pinned (OpenSpec.ofChange checksumMixesWrong)

/-- 'sleuthlaw04.ChecksumTexts': WHATEVER THE INPUT: true; the input reads as it did. -/
def checksumTextsSpec : ChangeSpec := { name := "checksumTexts", fn := fun _ => fun
  | [d1, d2] => { results := [.lit (.bool true)], args := [d1, d2] }
  | _ => none }
def checksumTextsRow : OpenClaim := { program := "ytediohaamblpbaadoor", sum := "fd4b418f9b24f8d34f2a3ec363cef718462997128d97c421bb8dc29d72050eac", func := "sleuth/sleuthlaw04.ChecksumTexts", spec := "checksumTexts", named := ["sleuth/checksum.remainders"], apart := false, laid := [("sleuth/checksum.remainders", laid_sleuth_checksum_remainders)] }
def ChecksumTextsSaid : Prop := checksumTextsRow.holds Tryd.pinned (OpenSpec.ofChange checksumTextsSpec)

/-- ITS FALSE NEIGHBOUR: 'it returns false'. Refute it at one input. -/
def checksumTextsWrong : ChangeSpec := { name := "checksumTexts", fn := fun _ => fun
  | [d1, d2] => { results := [.lit (.bool false)], args := [d1, d2] }
  | _ => none }
def ChecksumTextsWrongFalsely : Prop := checksumTextsRow.holds Tryd.pinned (OpenSpec.ofChange checksumTextsWrong)

/-- 'sleuthlaw04.ChecksumSums': WHATEVER THE INPUT: true; the input reads as it did. -/
def checksumSumsSpec : ChangeSpec := { name := "checksumSums", fn := fun _ => fun
  | [d] => { results := [.lit (.bool true)], args := [d] }
  | _ => none }
def checksumSumsRow : OpenClaim := { program := "ytediohaamblpbaadoor", sum := "fd4b418f9b24f8d34f2a3ec363cef718462997128d97c421bb8dc29d72050eac", func := "sleuth/sleuthlaw04.ChecksumSums", spec := "checksumSums", named := ["sleuth/checksum.remainders"], apart := false, laid := [("sleuth/checksum.remainders", laid_sleuth_checksum_remainders)] }
def ChecksumSumsSaid : Prop := checksumSumsRow.holds Tryd.pinned (OpenSpec.ofChange checksumSumsSpec)

/-- ITS FALSE NEIGHBOUR: 'it returns false'. Refute it at one input. -/
def checksumSumsWrong : ChangeSpec := { name := "checksumSums", fn := fun _ => fun
  | [d] => { results := [.lit (.bool false)], args := [d] }
  | _ => none }
def ChecksumSumsWrongFalsely : Prop := checksumSumsRow.holds Tryd.pinned (OpenSpec.ofChange checksumSumsWrong)

/-- 'sleuthlaw04.ChecksumExtends': WHATEVER THE INPUT: true; the input reads as it did. -/
def checksumExtendsSpec : ChangeSpec := { name := "checksumExtends", fn := fun _ => fun
  | [d1, d2, d3] => { results := [.lit (.bool true)], args := [d1, d2, d3] }
  | _ => none }
def checksumExtendsRow : OpenClaim := { program := "ytediohaamblpbaadoor", sum := "fd4b418f9b24f8d34f2a3ec363cef718462997128d97c421bb8dc29d72050eac", func := "sleuth/sleuthlaw04.ChecksumExtends", spec := "checksumExtends", named := ["sleuth/checksum.remainders"], apart := false, laid := [("sleuth/checksum.remainders", laid_sleuth_checksum_remainders)] }
def ChecksumExtendsSaid : Prop := checksumExtendsRow.holds Tryd.pinned (OpenSpec.ofChange checksumExtendsSpec)

/-- ITS FALSE NEIGHBOUR: 'it returns false'. Refute it at one input. -/
def checksumExtendsWrong : ChangeSpec := { name := "checksumExtends", fn := fun _ => fun
  | [d1, d2, d3] => { results := [.lit (.bool false)], args := [d1, d2, d3] }
  | _ => none }
def ChecksumExtendsWrongFalsely : Prop := checksumExtendsRow.holds Tryd.pinned (OpenSpec.ofChange checksumExtendsWrong)

/-- 'sleuthlaw04.ChecksumCombines': WHATEVER THE INPUT: true; the input reads as it did. -/
def checksumCombinesSpec : ChangeSpec := { name := "checksumCombines", fn := fun _ => fun
  | [d1, d2, d3] => { results := [.lit (.bool true)], args := [d1, d2, d3] }
  | _ => none }
def checksumCombinesRow : OpenClaim := { program := "ytediohaamblpbaadoor", sum := "fd4b418f9b24f8d34f2a3ec363cef718462997128d97c421bb8dc29d72050eac", func := "sleuth/sleuthlaw04.ChecksumCombines", spec := "checksumCombines", named := ["sleuth/checksum.remainders"], apart := false, laid := [("sleuth/checksum.remainders", laid_sleuth_checksum_remainders)] }
def ChecksumCombinesSaid : Prop := checksumCombinesRow.holds Tryd.pinned (OpenSpec.ofChange checksumCombinesSpec)

/-- ITS FALSE NEIGHBOUR: 'it returns false'. Refute it at one input. -/
def checksumCombinesWrong : ChangeSpec := { name := "checksumCombines", fn := fun _ => fun
  | [d1, d2, d3] => { results := [.lit (.bool false)], args := [d1, d2, d3] }
  | _ => none }
def ChecksumCombinesWrongFalsely : Prop := checksumCombinesRow.holds Tryd.pinned (OpenSpec.ofChange checksumCombinesWrong)

/-- 'sleuthlaw04.ChecksumAssociates': WHATEVER THE INPUT: true; the input reads as it did. -/
def checksumAssociatesSpec : ChangeSpec := { name := "checksumAssociates", fn := fun _ => fun
  | [d1, d2, d3] => { results := [.lit (.bool true)], args := [d1, d2, d3] }
  | _ => none }
def checksumAssociatesRow : OpenClaim := { program := "ytediohaamblpbaadoor", sum := "fd4b418f9b24f8d34f2a3ec363cef718462997128d97c421bb8dc29d72050eac", func := "sleuth/sleuthlaw04.ChecksumAssociates", spec := "checksumAssociates", named := ["sleuth/checksum.remainders"], apart := false, laid := [("sleuth/checksum.remainders", laid_sleuth_checksum_remainders)] }
def ChecksumAssociatesSaid : Prop := checksumAssociatesRow.holds Tryd.pinned (OpenSpec.ofChange checksumAssociatesSpec)

/-- ITS FALSE NEIGHBOUR: 'it returns false'. Refute it at one input. -/
def checksumAssociatesWrong : ChangeSpec := { name := "checksumAssociates", fn := fun _ => fun
  | [d1, d2, d3] => { results := [.lit (.bool false)], args := [d1, d2, d3] }
  | _ => none }
def ChecksumAssociatesWrongFalsely : Prop := checksumAssociatesRow.holds Tryd.pinned (OpenSpec.ofChange checksumAssociatesWrong)

/-- 'sleuthlaw04.ChecksumDetects': WHATEVER THE INPUT: true; the input reads as it did. -/
def checksumDetectsSpec : ChangeSpec := { name := "checksumDetects", fn := fun _ => fun
  | [d1, d2, d3] => { results := [.lit (.bool true)], args := [d1, d2, d3] }
  | _ => none }
def checksumDetectsRow : OpenClaim := { program := "ytediohaamblpbaadoor", sum := "fd4b418f9b24f8d34f2a3ec363cef718462997128d97c421bb8dc29d72050eac", func := "sleuth/sleuthlaw04.ChecksumDetects", spec := "checksumDetects", named := ["sleuth/checksum.remainders"], apart := false, laid := [("sleuth/checksum.remainders", laid_sleuth_checksum_remainders)] }
def ChecksumDetectsSaid : Prop := checksumDetectsRow.holds Tryd.pinned (OpenSpec.ofChange checksumDetectsSpec)

/-- ITS FALSE NEIGHBOUR: 'it returns false'. Refute it at one input. -/
def checksumDetectsWrong : ChangeSpec := { name := "checksumDetects", fn := fun _ => fun
  | [d1, d2, d3] => { results := [.lit (.bool false)], args := [d1, d2, d3] }
  | _ => none }
def ChecksumDetectsWrongFalsely : Prop := checksumDetectsRow.holds Tryd.pinned (OpenSpec.ofChange checksumDetectsWrong)

/-- 'sleuthlaw04.ChecksumChains': WHATEVER THE INPUT: true; the input reads as it did. -/
def checksumChainsSpec : ChangeSpec := { name := "checksumChains", fn := fun _ => fun
  | [d1, d2, d3] => { results := [.lit (.bool true)], args := [d1, d2, d3] }
  | _ => none }
def checksumChainsRow : OpenClaim := { program := "ytediohaamblpbaadoor", sum := "fd4b418f9b24f8d34f2a3ec363cef718462997128d97c421bb8dc29d72050eac", func := "sleuth/sleuthlaw04.ChecksumChains", spec := "checksumChains", named := ["sleuth/checksum.remainders"], apart := false, laid := [("sleuth/checksum.remainders", laid_sleuth_checksum_remainders)] }
def ChecksumChainsSaid : Prop := checksumChainsRow.holds Tryd.pinned (OpenSpec.ofChange checksumChainsSpec)

/-- ITS FALSE NEIGHBOUR: 'it returns false'. Refute it at one input. -/
def checksumChainsWrong : ChangeSpec := { name := "checksumChains", fn := fun _ => fun
  | [d1, d2, d3] => { results := [.lit (.bool false)], args := [d1, d2, d3] }
  | _ => none }
def ChecksumChainsWrongFalsely : Prop := checksumChainsRow.holds Tryd.pinned (OpenSpec.ofChange checksumChainsWrong)

/-- 'sleuthlaw04.ChecksumAlters': WHATEVER THE INPUT: true; the input reads as it did. -/
def checksumAltersSpec : ChangeSpec := { name := "checksumAlters", fn := fun _ => fun
  | [d1, d2, d3] => { results := [.lit (.bool true)], args := [d1, d2, d3] }
  | _ => none }
def checksumAltersRow : OpenClaim := { program := "ytediohaamblpbaadoor", sum := "fd4b418f9b24f8d34f2a3ec363cef718462997128d97c421bb8dc29d72050eac", func := "sleuth/sleuthlaw04.ChecksumAlters", spec := "checksumAlters", named := ["sleuth/checksum.remainders"], apart := false, laid := [("sleuth/checksum.remainders", laid_sleuth_checksum_remainders)] }
def ChecksumAltersSaid : Prop := checksumAltersRow.holds Tryd.pinned (OpenSpec.ofChange checksumAltersSpec)

/-- ITS FALSE NEIGHBOUR: 'it returns false'. Refute it at one input. -/
def checksumAltersWrong : ChangeSpec := { name := "checksumAlters", fn := fun _ => fun
  | [d1, d2, d3] => { results := [.lit (.bool false)], args := [d1, d2, d3] }
  | _ => none }
def ChecksumAltersWrongFalsely : Prop := checksumAltersRow.holds Tryd.pinned (OpenSpec.ofChange checksumAltersWrong)

/- THE SECOND FORM. 'bulk': how many values and letters a reading holds, each counted each time it is reached (what is shared counts as often as it is met; a slice's spare places count too). A statement '..UptoSaid' is the law's where the arguments, and the package variables that the reading takes, are together of bulk at most 1048576: NARROWER than '..Said'. Prove '..Said' where nothing that the law and all that it calls make is longer than what came in: it says more and counts as full. Else prove '..UptoSaid'. A law counts once. -/
mutual
def uptoBulk {H : Type} : DataW H → Nat
  | .lit (.string bytes) => bytes.length + 1
  | .lit _ => 1
  | .nil => 1
  | .ptr d => uptoBulk d + 1
  | .slice elems spare => uptoBulkAll elems + uptoBulkAll spare + 1
  | .agg parts => uptoBulkAll parts + 1
  | .iface _ d => uptoBulk d + 1
  | .map entries => uptoBulkEntries entries + 1
  | .held _ => 1
def uptoBulkAll {H : Type} : List (DataW H) → Nat
  | [] => 0
  | d :: r => uptoBulk d + uptoBulkAll r
def uptoBulkEntries {H : Type} : List (Lit × DataW H) → Nat
  | [] => 0
  | x :: r => uptoBulkEntry x + uptoBulkEntries r
def uptoBulkEntry {H : Type} : Lit × DataW H → Nat
  | (.string bytes, d) => bytes.length + uptoBulk d + 1
  | (_, d) => uptoBulk d + 1
 end
def uptoSmall : (H : Type) → List (DataW H) → Bool := fun _ ds => decide (uptoBulkAll ds ≤ 1048576)
def OpenSpec.upto (s : _root_.Go.ChangeSpec) : _root_.Go.OpenSpec := { _root_.Go.OpenSpec.ofChange s with cond := some uptoSmall }

/-- 'sleuthlaw04.ChecksumWords', WHERE WHAT IT READS IS OF BULK AT MOST 1048576: true; the input reads as it did. -/
def checksumWordsUptoRow : OpenClaim := { program := "ytediohaamblpbaadoor", sum := "fd4b418f9b24f8d34f2a3ec363cef718462997128d97c421bb8dc29d72050eac", func := "sleuth/sleuthlaw04.ChecksumWords", spec := "checksumWords", named := ["sleuth/checksum.remainders"], apart := false, laid := [("sleuth/checksum.remainders", laid_sleuth_checksum_remainders)], narrowed := true }
def ChecksumWordsUptoSaid : Prop := checksumWordsUptoRow.holds Tryd.pinned (OpenSpec.upto checksumWordsSpec)

/-- 'sleuthlaw04.ChecksumMixes', WHERE WHAT IT READS IS OF BULK AT MOST 1048576: true; the input reads as it did. -/
def checksumMixesUptoRow : OpenClaim := { program := "ytediohaamblpbaadoor", sum := "fd4b418f9b24f8d34f2a3ec363cef718462997128d97c421bb8dc29d72050eac", func := "sleuth/sleuthlaw04.ChecksumMixes", spec := "checksumMixes", named := ["sleuth/checksum.remainders"], apart := false, laid := [("sleuth/checksum.remainders", laid_sleuth_checksum_remainders)], narrowed := true }
def ChecksumMixesUptoSaid : Prop := checksumMixesUptoRow.holds Tryd.pinned (OpenSpec.upto checksumMixesSpec)

/-- 'sleuthlaw04.ChecksumTexts', WHERE WHAT IT READS IS OF BULK AT MOST 1048576: true; the input reads as it did. -/
def checksumTextsUptoRow : OpenClaim := { program := "ytediohaamblpbaadoor", sum := "fd4b418f9b24f8d34f2a3ec363cef718462997128d97c421bb8dc29d72050eac", func := "sleuth/sleuthlaw04.ChecksumTexts", spec := "checksumTexts", named := ["sleuth/checksum.remainders"], apart := false, laid := [("sleuth/checksum.remainders", laid_sleuth_checksum_remainders)], narrowed := true }
def ChecksumTextsUptoSaid : Prop := checksumTextsUptoRow.holds Tryd.pinned (OpenSpec.upto checksumTextsSpec)

/-- 'sleuthlaw04.ChecksumSums', WHERE WHAT IT READS IS OF BULK AT MOST 1048576: true; the input reads as it did. -/
def checksumSumsUptoRow : OpenClaim := { program := "ytediohaamblpbaadoor", sum := "fd4b418f9b24f8d34f2a3ec363cef718462997128d97c421bb8dc29d72050eac", func := "sleuth/sleuthlaw04.ChecksumSums", spec := "checksumSums", named := ["sleuth/checksum.remainders"], apart := false, laid := [("sleuth/checksum.remainders", laid_sleuth_checksum_remainders)], narrowed := true }
def ChecksumSumsUptoSaid : Prop := checksumSumsUptoRow.holds Tryd.pinned (OpenSpec.upto checksumSumsSpec)

/-- 'sleuthlaw04.ChecksumExtends', WHERE WHAT IT READS IS OF BULK AT MOST 1048576: true; the input reads as it did. -/
def checksumExtendsUptoRow : OpenClaim := { program := "ytediohaamblpbaadoor", sum := "fd4b418f9b24f8d34f2a3ec363cef718462997128d97c421bb8dc29d72050eac", func := "sleuth/sleuthlaw04.ChecksumExtends", spec := "checksumExtends", named := ["sleuth/checksum.remainders"], apart := false, laid := [("sleuth/checksum.remainders", laid_sleuth_checksum_remainders)], narrowed := true }
def ChecksumExtendsUptoSaid : Prop := checksumExtendsUptoRow.holds Tryd.pinned (OpenSpec.upto checksumExtendsSpec)

/-- 'sleuthlaw04.ChecksumCombines', WHERE WHAT IT READS IS OF BULK AT MOST 1048576: true; the input reads as it did. -/
def checksumCombinesUptoRow : OpenClaim := { program := "ytediohaamblpbaadoor", sum := "fd4b418f9b24f8d34f2a3ec363cef718462997128d97c421bb8dc29d72050eac", func := "sleuth/sleuthlaw04.ChecksumCombines", spec := "checksumCombines", named := ["sleuth/checksum.remainders"], apart := false, laid := [("sleuth/checksum.remainders", laid_sleuth_checksum_remainders)], narrowed := true }
def ChecksumCombinesUptoSaid : Prop := checksumCombinesUptoRow.holds Tryd.pinned (OpenSpec.upto checksumCombinesSpec)

/-- 'sleuthlaw04.ChecksumAssociates', WHERE WHAT IT READS IS OF BULK AT MOST 1048576: true; the input reads as it did. -/
def checksumAssociatesUptoRow : OpenClaim := { program := "ytediohaamblpbaadoor", sum := "fd4b418f9b24f8d34f2a3ec363cef718462997128d97c421bb8dc29d72050eac", func := "sleuth/sleuthlaw04.ChecksumAssociates", spec := "checksumAssociates", named := ["sleuth/checksum.remainders"], apart := false, laid := [("sleuth/checksum.remainders", laid_sleuth_checksum_remainders)], narrowed := true }
def ChecksumAssociatesUptoSaid : Prop := checksumAssociatesUptoRow.holds Tryd.pinned (OpenSpec.upto checksumAssociatesSpec)

/-- 'sleuthlaw04.ChecksumDetects', WHERE WHAT IT READS IS OF BULK AT MOST 1048576: true; the input reads as it did. -/
def checksumDetectsUptoRow : OpenClaim := { program := "ytediohaamblpbaadoor", sum := "fd4b418f9b24f8d34f2a3ec363cef718462997128d97c421bb8dc29d72050eac", func := "sleuth/sleuthlaw04.ChecksumDetects", spec := "checksumDetects", named := ["sleuth/checksum.remainders"], apart := false, laid := [("sleuth/checksum.remainders", laid_sleuth_checksum_remainders)], narrowed := true }
def ChecksumDetectsUptoSaid : Prop := checksumDetectsUptoRow.holds Tryd.pinned (OpenSpec.upto checksumDetectsSpec)

/-- 'sleuthlaw04.ChecksumChains', WHERE WHAT IT READS IS OF BULK AT MOST 1048576: true; the input reads as it did. -/
def checksumChainsUptoRow : OpenClaim := { program := "ytediohaamblpbaadoor", sum := "fd4b418f9b24f8d34f2a3ec363cef718462997128d97c421bb8dc29d72050eac", func := "sleuth/sleuthlaw04.ChecksumChains", spec := "checksumChains", named := ["sleuth/checksum.remainders"], apart := false, laid := [("sleuth/checksum.remainders", laid_sleuth_checksum_remainders)], narrowed := true }
def ChecksumChainsUptoSaid : Prop := checksumChainsUptoRow.holds Tryd.pinned (OpenSpec.upto checksumChainsSpec)

/-- 'sleuthlaw04.ChecksumAlters', WHERE WHAT IT READS IS OF BULK AT MOST 1048576: true; the input reads as it did. -/
def checksumAltersUptoRow : OpenClaim := { program := "ytediohaamblpbaadoor", sum := "fd4b418f9b24f8d34f2a3ec363cef718462997128d97c421bb8dc29d72050eac", func := "sleuth/sleuthlaw04.ChecksumAlters", spec := "checksumAlters", named := ["sleuth/checksum.remainders"], apart := false, laid := [("sleuth/checksum.remainders", laid_sleuth_checksum_remainders)], narrowed := true }
def ChecksumAltersUptoSaid : Prop := checksumAltersUptoRow.holds Tryd.pinned (OpenSpec.upto checksumAltersSpec)

end Rows
end Go.Proofs.YtediohaamblpbaaDoor
