/-
  NARROWER THAN 'FOR EVERY INPUT', by the rows' own cells (each row's printed sentence says how): FrameNumbers: laid · FrameTexts: laid · FrameSums: laid · FrameSeals: laid · FrameTakes: laid · FrameTorn: laid · FrameBursts: laid · FrameOwn: laid.
  DERIVED. THE GIVEN ROWS OF THIS SEAT. 8 by the template 'for every input the law returns true; each argument reads behind the call as it read before'; 0 by the template 'total and deterministic' (their statements: YtjpimbbdjdlelaaDoorTotals.lean).
  GIVEN WITH THE SEED: the statements are not yours to turn. If you find one false, say at which input.
  Laid BY PROGRAM, IN A SANDBOX (cutbox-rows.mjs): the forced cells as the released guide's own fill.sh prints them over the translation 32ac1f9dc9d8fa0f… (all of the seat's roots in one cut). By AI agents, Wed Nov 11 2026. No macro, syntax, notation, axiom, sorry.
-/
import Derived.Test.YtjpimbbdjdlelaaDoorChecked
import GoSem.Claim
import GoSem.ClaimJoined
import GoSem.ClaimMapViews
import Derived.JoinedTies
import Derived.KernelRfl
namespace Go.Proofs.YtjpimbbdjdlelaaDoor
/- THE CELL 'sum', in the pinned program and in every row, IS THE sha256 OF THE DUMP (.gsa) THAT YtjpimbbdjdlelaaDoorProg.lean LOADS. Nothing in Lean hashes anything: it is a label: what it is worth is what the hold of that sum in a sandbox is worth. -/
noncomputable def Tryd.pinned : Pinned := { name := "ytjpimbbdjdlelaadoor", sum := "32ac1f9dc9d8fa0fcc4a20252100ae30dddb860029d990974d4b3169076df895", checked := Tryd.checked }
namespace Rows
def none {H : Type} : Left H := { results := [], args := [] }

/- WHAT THE LISTED PACKAGE-LEVEL VARIABLES READ AS WHEN THE CALL BEGINS. Each datum BY PROGRAM (the guide's laid-datum.mjs) off the statement by which the dump's own 'gosem.cut.vars' lays the variable. In a bare row this is a premise. The card (YtjpimbbdjdlelaaDoorCards.lean) ties it to the program's text. -/
def laid_convoy_frame_sums {H : Type} : DataW H := .agg [.lit (.int .u32 0), .lit (.int .u32 498536548), .lit (.int .u32 997073096), .lit (.int .u32 651767980), .lit (.int .u32 1994146192), .lit (.int .u32 1802195444), .lit (.int .u32 1303535960), .lit (.int .u32 1342533948), .lit (.int .u32 3988292384), .lit (.int .u32 4027552580), .lit (.int .u32 3604390888), .lit (.int .u32 3412177804), .lit (.int .u32 2607071920), .lit (.int .u32 2262029012), .lit (.int .u32 2685067896), .lit (.int .u32 3183342108)]

/-- 'convoylaw01.FrameNumbers': WHATEVER THE INPUT: true; the input reads as it did. -/
def frameNumbersSpec : ChangeSpec := { name := "frameNumbers", fn := fun _ => fun
  | [d1, d2] => { results := [.lit (.bool true)], args := [d1, d2] }
  | _ => none }
def frameNumbersRow : OpenClaim := { program := "ytjpimbbdjdlelaadoor", sum := "32ac1f9dc9d8fa0fcc4a20252100ae30dddb860029d990974d4b3169076df895", func := "convoy/convoylaw01.FrameNumbers", spec := "frameNumbers", named := ["convoy/frame.sums"], apart := false, laid := [("convoy/frame.sums", laid_convoy_frame_sums)] }
def FrameNumbersSaid : Prop := frameNumbersRow.holds Tryd.pinned (OpenSpec.ofChange frameNumbersSpec)

/-- ITS FALSE NEIGHBOUR: 'it returns false'. Refute it at one input. -/
def frameNumbersWrong : ChangeSpec := { name := "frameNumbers", fn := fun _ => fun
  | [d1, d2] => { results := [.lit (.bool false)], args := [d1, d2] }
  | _ => none }
def FrameNumbersWrongFalsely : Prop := frameNumbersRow.holds Tryd.pinned (OpenSpec.ofChange frameNumbersWrong)

/-- 'convoylaw01.FrameTexts': WHATEVER THE INPUT: true; the input reads as it did. -/
def frameTextsSpec : ChangeSpec := { name := "frameTexts", fn := fun _ => fun
  | [d1, d2] => { results := [.lit (.bool true)], args := [d1, d2] }
  | _ => none }
def frameTextsRow : OpenClaim := { program := "ytjpimbbdjdlelaadoor", sum := "32ac1f9dc9d8fa0fcc4a20252100ae30dddb860029d990974d4b3169076df895", func := "convoy/convoylaw01.FrameTexts", spec := "frameTexts", named := ["convoy/frame.sums"], apart := false, laid := [("convoy/frame.sums", laid_convoy_frame_sums)] }
def FrameTextsSaid : Prop := frameTextsRow.holds Tryd.pinned (OpenSpec.ofChange frameTextsSpec)

/-- ITS FALSE NEIGHBOUR: 'it returns false'. Refute it at one input. -/
def frameTextsWrong : ChangeSpec := { name := "frameTexts", fn := fun _ => fun
  | [d1, d2] => { results := [.lit (.bool false)], args := [d1, d2] }
  | _ => none }
def FrameTextsWrongFalsely : Prop := frameTextsRow.holds Tryd.pinned (OpenSpec.ofChange frameTextsWrong)

/-- 'convoylaw01.FrameSums': WHATEVER THE INPUT: true; the input reads as it did. -/
def frameSumsSpec : ChangeSpec := { name := "frameSums", fn := fun _ => fun
  | [d] => { results := [.lit (.bool true)], args := [d] }
  | _ => none }
def frameSumsRow : OpenClaim := { program := "ytjpimbbdjdlelaadoor", sum := "32ac1f9dc9d8fa0fcc4a20252100ae30dddb860029d990974d4b3169076df895", func := "convoy/convoylaw01.FrameSums", spec := "frameSums", named := ["convoy/frame.sums"], apart := false, laid := [("convoy/frame.sums", laid_convoy_frame_sums)] }
def FrameSumsSaid : Prop := frameSumsRow.holds Tryd.pinned (OpenSpec.ofChange frameSumsSpec)

/-- ITS FALSE NEIGHBOUR: 'it returns false'. Refute it at one input. -/
def frameSumsWrong : ChangeSpec := { name := "frameSums", fn := fun _ => fun
  | [d] => { results := [.lit (.bool false)], args := [d] }
  | _ => none }
def FrameSumsWrongFalsely : Prop := frameSumsRow.holds Tryd.pinned (OpenSpec.ofChange frameSumsWrong)

/-- 'convoylaw01.FrameSeals': WHATEVER THE INPUT: true; the input reads as it did. -/
def frameSealsSpec : ChangeSpec := { name := "frameSeals", fn := fun _ => fun
  | [d1, d2] => { results := [.lit (.bool true)], args := [d1, d2] }
  | _ => none }
def frameSealsRow : OpenClaim := { program := "ytjpimbbdjdlelaadoor", sum := "32ac1f9dc9d8fa0fcc4a20252100ae30dddb860029d990974d4b3169076df895", func := "convoy/convoylaw01.FrameSeals", spec := "frameSeals", named := ["convoy/frame.sums"], apart := false, laid := [("convoy/frame.sums", laid_convoy_frame_sums)] }
def FrameSealsSaid : Prop := frameSealsRow.holds Tryd.pinned (OpenSpec.ofChange frameSealsSpec)

/-- ITS FALSE NEIGHBOUR: 'it returns false'. Refute it at one input. -/
def frameSealsWrong : ChangeSpec := { name := "frameSeals", fn := fun _ => fun
  | [d1, d2] => { results := [.lit (.bool false)], args := [d1, d2] }
  | _ => none }
def FrameSealsWrongFalsely : Prop := frameSealsRow.holds Tryd.pinned (OpenSpec.ofChange frameSealsWrong)

/-- 'convoylaw01.FrameTakes': WHATEVER THE INPUT: true; the input reads as it did. -/
def frameTakesSpec : ChangeSpec := { name := "frameTakes", fn := fun _ => fun
  | [d] => { results := [.lit (.bool true)], args := [d] }
  | _ => none }
def frameTakesRow : OpenClaim := { program := "ytjpimbbdjdlelaadoor", sum := "32ac1f9dc9d8fa0fcc4a20252100ae30dddb860029d990974d4b3169076df895", func := "convoy/convoylaw01.FrameTakes", spec := "frameTakes", named := ["convoy/frame.sums"], apart := false, laid := [("convoy/frame.sums", laid_convoy_frame_sums)] }
def FrameTakesSaid : Prop := frameTakesRow.holds Tryd.pinned (OpenSpec.ofChange frameTakesSpec)

/-- ITS FALSE NEIGHBOUR: 'it returns false'. Refute it at one input. -/
def frameTakesWrong : ChangeSpec := { name := "frameTakes", fn := fun _ => fun
  | [d] => { results := [.lit (.bool false)], args := [d] }
  | _ => none }
def FrameTakesWrongFalsely : Prop := frameTakesRow.holds Tryd.pinned (OpenSpec.ofChange frameTakesWrong)

/-- 'convoylaw01.FrameTorn': WHATEVER THE INPUT: true; the input reads as it did. -/
def frameTornSpec : ChangeSpec := { name := "frameTorn", fn := fun _ => fun
  | [d1, d2] => { results := [.lit (.bool true)], args := [d1, d2] }
  | _ => none }
def frameTornRow : OpenClaim := { program := "ytjpimbbdjdlelaadoor", sum := "32ac1f9dc9d8fa0fcc4a20252100ae30dddb860029d990974d4b3169076df895", func := "convoy/convoylaw01.FrameTorn", spec := "frameTorn", named := ["convoy/frame.sums"], apart := false, laid := [("convoy/frame.sums", laid_convoy_frame_sums)] }
def FrameTornSaid : Prop := frameTornRow.holds Tryd.pinned (OpenSpec.ofChange frameTornSpec)

/-- ITS FALSE NEIGHBOUR: 'it returns false'. Refute it at one input. -/
def frameTornWrong : ChangeSpec := { name := "frameTorn", fn := fun _ => fun
  | [d1, d2] => { results := [.lit (.bool false)], args := [d1, d2] }
  | _ => none }
def FrameTornWrongFalsely : Prop := frameTornRow.holds Tryd.pinned (OpenSpec.ofChange frameTornWrong)

/-- 'convoylaw01.FrameBursts': WHATEVER THE INPUT: true; the input reads as it did. -/
def frameBurstsSpec : ChangeSpec := { name := "frameBursts", fn := fun _ => fun
  | [d1, d2, d3] => { results := [.lit (.bool true)], args := [d1, d2, d3] }
  | _ => none }
def frameBurstsRow : OpenClaim := { program := "ytjpimbbdjdlelaadoor", sum := "32ac1f9dc9d8fa0fcc4a20252100ae30dddb860029d990974d4b3169076df895", func := "convoy/convoylaw01.FrameBursts", spec := "frameBursts", named := ["convoy/frame.sums"], apart := false, laid := [("convoy/frame.sums", laid_convoy_frame_sums)] }
def FrameBurstsSaid : Prop := frameBurstsRow.holds Tryd.pinned (OpenSpec.ofChange frameBurstsSpec)

/-- ITS FALSE NEIGHBOUR: 'it returns false'. Refute it at one input. -/
def frameBurstsWrong : ChangeSpec := { name := "frameBursts", fn := fun _ => fun
  | [d1, d2, d3] => { results := [.lit (.bool false)], args := [d1, d2, d3] }
  | _ => none }
def FrameBurstsWrongFalsely : Prop := frameBurstsRow.holds Tryd.pinned (OpenSpec.ofChange frameBurstsWrong)

/-- 'convoylaw01.FrameOwn': WHATEVER THE INPUT: true; the input reads as it did. -/
def frameOwnSpec : ChangeSpec := { name := "frameOwn", fn := fun _ => fun
  | [d1, d2] => { results := [.lit (.bool true)], args := [d1, d2] }
  | _ => none }
def frameOwnRow : OpenClaim := { program := "ytjpimbbdjdlelaadoor", sum := "32ac1f9dc9d8fa0fcc4a20252100ae30dddb860029d990974d4b3169076df895", func := "convoy/convoylaw01.FrameOwn", spec := "frameOwn", named := ["convoy/frame.sums"], apart := false, laid := [("convoy/frame.sums", laid_convoy_frame_sums)] }
def FrameOwnSaid : Prop := frameOwnRow.holds Tryd.pinned (OpenSpec.ofChange frameOwnSpec)

/-- ITS FALSE NEIGHBOUR: 'it returns false'. Refute it at one input. -/
def frameOwnWrong : ChangeSpec := { name := "frameOwn", fn := fun _ => fun
  | [d1, d2] => { results := [.lit (.bool false)], args := [d1, d2] }
  | _ => none }
def FrameOwnWrongFalsely : Prop := frameOwnRow.holds Tryd.pinned (OpenSpec.ofChange frameOwnWrong)

/- THE SECOND FORM. 'bulk': how many values and letters a reading holds, each counted each time it is reached (what is shared counts as often as it is met; a slice's spare places count too). A statement '..UptoSaid' is the law's where the arguments, and the package variables that the reading takes, are together of bulk at most 1048576: NARROWER than '..Said'. Prove '..Said' where nothing that the law and all that it calls make is longer than what came in: it says more and counts as full. Else prove '..UptoSaid'. A law counts once. -/
mutual
def uptoBulk {H : Type} : DataW H → Nat
  | .lit (.string bytes) => bytes.length + 1
  | .lit _ => 1
  | .nil => 1
  | .ptr d => uptoBulk d + 1
  | .slice elems spare => uptoBulkAll elems + uptoBulkAll spare + 1
  | .agg parts => uptoBulkAll parts + 1
  | .iface _ d => uptoBulk d + 1
  | .map entries => uptoBulkEntries entries + 1
  | .held _ => 1
def uptoBulkAll {H : Type} : List (DataW H) → Nat
  | [] => 0
  | d :: r => uptoBulk d + uptoBulkAll r
def uptoBulkEntries {H : Type} : List (Lit × DataW H) → Nat
  | [] => 0
  | x :: r => uptoBulkEntry x + uptoBulkEntries r
def uptoBulkEntry {H : Type} : Lit × DataW H → Nat
  | (.string bytes, d) => bytes.length + uptoBulk d + 1
  | (_, d) => uptoBulk d + 1
 end
def uptoSmall : (H : Type) → List (DataW H) → Bool := fun _ ds => decide (uptoBulkAll ds ≤ 1048576)
def OpenSpec.upto (s : _root_.Go.ChangeSpec) : _root_.Go.OpenSpec := { _root_.Go.OpenSpec.ofChange s with cond := some uptoSmall }

/-- 'convoylaw01.FrameNumbers', WHERE WHAT IT READS IS OF BULK AT MOST 1048576: true; the input reads as it did. -/
def frameNumbersUptoRow : OpenClaim := { program := "ytjpimbbdjdlelaadoor", sum := "32ac1f9dc9d8fa0fcc4a20252100ae30dddb860029d990974d4b3169076df895", func := "convoy/convoylaw01.FrameNumbers", spec := "frameNumbers", named := ["convoy/frame.sums"], apart := false, laid := [("convoy/frame.sums", laid_convoy_frame_sums)], narrowed := true }
def FrameNumbersUptoSaid : Prop := frameNumbersUptoRow.holds Tryd.pinned (OpenSpec.upto frameNumbersSpec)

/-- 'convoylaw01.FrameTexts', WHERE WHAT IT READS IS OF BULK AT MOST 1048576: true; the input reads as it did. -/
def frameTextsUptoRow : OpenClaim := { program := "ytjpimbbdjdlelaadoor", sum := "32ac1f9dc9d8fa0fcc4a20252100ae30dddb860029d990974d4b3169076df895", func := "convoy/convoylaw01.FrameTexts", spec := "frameTexts", named := ["convoy/frame.sums"], apart := false, laid := [("convoy/frame.sums", laid_convoy_frame_sums)], narrowed := true }
def FrameTextsUptoSaid : Prop := frameTextsUptoRow.holds Tryd.pinned (OpenSpec.upto frameTextsSpec)

/-- 'convoylaw01.FrameSums', WHERE WHAT IT READS IS OF BULK AT MOST 1048576: true; the input reads as it did. -/
def frameSumsUptoRow : OpenClaim := { program := "ytjpimbbdjdlelaadoor", sum := "32ac1f9dc9d8fa0fcc4a20252100ae30dddb860029d990974d4b3169076df895", func := "convoy/convoylaw01.FrameSums", spec := "frameSums", named := ["convoy/frame.sums"], apart := false, laid := [("convoy/frame.sums", laid_convoy_frame_sums)], narrowed := true }
def FrameSumsUptoSaid : Prop := frameSumsUptoRow.holds Tryd.pinned (OpenSpec.upto frameSumsSpec)

/-- 'convoylaw01.FrameSeals', WHERE WHAT IT READS IS OF BULK AT MOST 1048576: true; the input reads as it did. -/
def frameSealsUptoRow : OpenClaim := { program := "ytjpimbbdjdlelaadoor", sum := "32ac1f9dc9d8fa0fcc4a20252100ae30dddb860029d990974d4b3169076df895", func := "convoy/convoylaw01.FrameSeals", spec := "frameSeals", named := ["convoy/frame.sums"], apart := false, laid := [("convoy/frame.sums", laid_convoy_frame_sums)], narrowed := true }
def FrameSealsUptoSaid : Prop := frameSealsUptoRow.holds Tryd.pinned (OpenSpec.upto frameSealsSpec)

/-- 'convoylaw01.FrameTakes', WHERE WHAT IT READS IS OF BULK AT MOST 1048576: true; the input reads as it did. -/
def frameTakesUptoRow : OpenClaim := { program := "ytjpimbbdjdlelaadoor", sum := "32ac1f9dc9d8fa0fcc4a20252100ae30dddb860029d990974d4b3169076df895", func := "convoy/convoylaw01.FrameTakes", spec := "frameTakes", named := ["convoy/frame.sums"], apart := false, laid := [("convoy/frame.sums", laid_convoy_frame_sums)], narrowed := true }
def FrameTakesUptoSaid : Prop := frameTakesUptoRow.holds Tryd.pinned (OpenSpec.upto frameTakesSpec)

/-- 'convoylaw01.FrameTorn', WHERE WHAT IT READS IS OF BULK AT MOST 1048576: true; the input reads as it did. -/
def frameTornUptoRow : OpenClaim := { program := "ytjpimbbdjdlelaadoor", sum := "32ac1f9dc9d8fa0fcc4a20252100ae30dddb860029d990974d4b3169076df895", func := "convoy/convoylaw01.FrameTorn", spec := "frameTorn", named := ["convoy/frame.sums"], apart := false, laid := [("convoy/frame.sums", laid_convoy_frame_sums)], narrowed := true }
def FrameTornUptoSaid : Prop := frameTornUptoRow.holds Tryd.pinned (OpenSpec.upto frameTornSpec)

/-- 'convoylaw01.FrameBursts', WHERE WHAT IT READS IS OF BULK AT MOST 1048576: true; the input reads as it did. -/
def frameBurstsUptoRow : OpenClaim := { program := "ytjpimbbdjdlelaadoor", sum := "32ac1f9dc9d8fa0fcc4a20252100ae30dddb860029d990974d4b3169076df895", func := "convoy/convoylaw01.FrameBursts", spec := "frameBursts", named := ["convoy/frame.sums"], apart := false, laid := [("convoy/frame.sums", laid_convoy_frame_sums)], narrowed := true }
def FrameBurstsUptoSaid : Prop := frameBurstsUptoRow.holds Tryd.pinned (OpenSpec.upto frameBurstsSpec)

/-- 'convoylaw01.FrameOwn', WHERE WHAT IT READS IS OF BULK AT MOST 1048576: true; the input reads as it did. -/
def frameOwnUptoRow : OpenClaim := { program := "ytjpimbbdjdlelaadoor", sum := "32ac1f9dc9d8fa0fcc4a20252100ae30dddb860029d990974d4b3169076df895", func := "convoy/convoylaw01.FrameOwn", spec := "frameOwn", named := ["convoy/frame.sums"], apart := false, laid := [("convoy/frame.sums", laid_convoy_frame_sums)], narrowed := true }
def FrameOwnUptoSaid : Prop := frameOwnUptoRow.holds Tryd.pinned (OpenSpec.upto frameOwnSpec)

end Rows
end Go.Proofs.YtjpimbbdjdlelaaDoor
