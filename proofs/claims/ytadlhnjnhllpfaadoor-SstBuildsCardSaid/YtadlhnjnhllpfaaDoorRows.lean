/-
  NARROWER THAN 'FOR EVERY INPUT', by the rows' own cells (each row's printed sentence says how): SstBuilds: laid · SstParses: laid · SstReads: laid · SstBlocks: laid · SstOwn: laid.
  DERIVED. THE GIVEN ROWS OF THIS SEAT. 5 by the template 'for every input the law returns true; each argument reads behind the call as it read before'; 0 by the template 'total and deterministic' (their statements: YtadlhnjnhllpfaaDoorTotals.lean).
  GIVEN WITH THE SEED: the statements are not yours to turn. If you find one false, say at which input.
  Laid BY PROGRAM, IN A SANDBOX (cutbox-rows.mjs): the forced cells as the released guide's own fill.sh prints them over the translation 157b08d0401e2ada… (all of the seat's roots in one cut). By AI agents, Wed Nov 11 2026. No macro, syntax, notation, axiom, sorry.
-/
import Derived.Test.YtadlhnjnhllpfaaDoorChecked
import GoSem.Claim
import GoSem.ClaimJoined
import GoSem.ClaimMapViews
import Derived.JoinedTies
import Derived.KernelRfl
namespace Go.Proofs.YtadlhnjnhllpfaaDoor
/- THE CELL 'sum', in the pinned program and in every row, IS THE sha256 OF THE DUMP (.gsa) THAT YtadlhnjnhllpfaaDoorProg.lean LOADS. Nothing in Lean hashes anything: it is a label: what it is worth is what the hold of that sum in a sandbox is worth. -/
noncomputable def Tryd.pinned : Pinned := { name := "ytadlhnjnhllpfaadoor", sum := "157b08d0401e2ada21e0d7e5cbd5aea294252f22f9df4d9091aa80d9e9979865", checked := Tryd.checked }
namespace Rows
def none {H : Type} : Left H := { results := [], args := [] }

/- WHAT THE LISTED PACKAGE-LEVEL VARIABLES READ AS WHEN THE CALL BEGINS. Each datum BY PROGRAM (the guide's laid-datum.mjs) off the statement by which the dump's own 'gosem.cut.vars' lays the variable. In a bare row this is a premise. The card (YtadlhnjnhllpfaaDoorCards.lean) ties it to the program's text. -/
def laid_convoy_frame_sums {H : Type} : DataW H := .agg [.lit (.int .u32 0), .lit (.int .u32 498536548), .lit (.int .u32 997073096), .lit (.int .u32 651767980), .lit (.int .u32 1994146192), .lit (.int .u32 1802195444), .lit (.int .u32 1303535960), .lit (.int .u32 1342533948), .lit (.int .u32 3988292384), .lit (.int .u32 4027552580), .lit (.int .u32 3604390888), .lit (.int .u32 3412177804), .lit (.int .u32 2607071920), .lit (.int .u32 2262029012), .lit (.int .u32 2685067896), .lit (.int .u32 3183342108)]

/-- 'convoylaw06.SstBuilds': WHATEVER THE INPUT: true; the input reads as it did. -/
def sstBuildsSpec : ChangeSpec := { name := "sstBuilds", fn := fun _ => fun
  | [d] => { results := [.lit (.bool true)], args := [d] }
  | _ => none }
def sstBuildsRow : OpenClaim := { program := "ytadlhnjnhllpfaadoor", sum := "157b08d0401e2ada21e0d7e5cbd5aea294252f22f9df4d9091aa80d9e9979865", func := "convoy/convoylaw06.SstBuilds", spec := "sstBuilds", inPlace := ["internal/bytealg.abigen_runtime_cmpstring"], unfollowed := true, recurses := true, named := ["convoy/frame.sums"], apart := false, laid := [("convoy/frame.sums", laid_convoy_frame_sums)] }
def SstBuildsSaid : Prop := sstBuildsRow.holds Tryd.pinned (OpenSpec.ofChange sstBuildsSpec)

/-- ITS FALSE NEIGHBOUR: 'it returns false'. Refute it at one input. -/
def sstBuildsWrong : ChangeSpec := { name := "sstBuilds", fn := fun _ => fun
  | [d] => { results := [.lit (.bool false)], args := [d] }
  | _ => none }
def SstBuildsWrongFalsely : Prop := sstBuildsRow.holds Tryd.pinned (OpenSpec.ofChange sstBuildsWrong)

/-- 'convoylaw06.SstParses': WHATEVER THE INPUT: true; the input reads as it did. -/
def sstParsesSpec : ChangeSpec := { name := "sstParses", fn := fun _ => fun
  | [d] => { results := [.lit (.bool true)], args := [d] }
  | _ => none }
def sstParsesRow : OpenClaim := { program := "ytadlhnjnhllpfaadoor", sum := "157b08d0401e2ada21e0d7e5cbd5aea294252f22f9df4d9091aa80d9e9979865", func := "convoy/convoylaw06.SstParses", spec := "sstParses", inPlace := ["internal/bytealg.abigen_runtime_cmpstring"], unfollowed := true, recurses := true, named := ["convoy/frame.sums"], apart := false, laid := [("convoy/frame.sums", laid_convoy_frame_sums)] }
def SstParsesSaid : Prop := sstParsesRow.holds Tryd.pinned (OpenSpec.ofChange sstParsesSpec)

/-- ITS FALSE NEIGHBOUR: 'it returns false'. Refute it at one input. -/
def sstParsesWrong : ChangeSpec := { name := "sstParses", fn := fun _ => fun
  | [d] => { results := [.lit (.bool false)], args := [d] }
  | _ => none }
def SstParsesWrongFalsely : Prop := sstParsesRow.holds Tryd.pinned (OpenSpec.ofChange sstParsesWrong)

/-- 'convoylaw06.SstReads': WHATEVER THE INPUT: true; the input reads as it did. -/
def sstReadsSpec : ChangeSpec := { name := "sstReads", fn := fun _ => fun
  | [d1, d2, d3] => { results := [.lit (.bool true)], args := [d1, d2, d3] }
  | _ => none }
def sstReadsRow : OpenClaim := { program := "ytadlhnjnhllpfaadoor", sum := "157b08d0401e2ada21e0d7e5cbd5aea294252f22f9df4d9091aa80d9e9979865", func := "convoy/convoylaw06.SstReads", spec := "sstReads", inPlace := ["internal/bytealg.abigen_runtime_cmpstring"], unfollowed := true, recurses := true, named := ["convoy/frame.sums"], apart := false, laid := [("convoy/frame.sums", laid_convoy_frame_sums)] }
def SstReadsSaid : Prop := sstReadsRow.holds Tryd.pinned (OpenSpec.ofChange sstReadsSpec)

/-- ITS FALSE NEIGHBOUR: 'it returns false'. Refute it at one input. -/
def sstReadsWrong : ChangeSpec := { name := "sstReads", fn := fun _ => fun
  | [d1, d2, d3] => { results := [.lit (.bool false)], args := [d1, d2, d3] }
  | _ => none }
def SstReadsWrongFalsely : Prop := sstReadsRow.holds Tryd.pinned (OpenSpec.ofChange sstReadsWrong)

/-- 'convoylaw06.SstBlocks': WHATEVER THE INPUT: true; the input reads as it did. -/
def sstBlocksSpec : ChangeSpec := { name := "sstBlocks", fn := fun _ => fun
  | [d1, d2, d3] => { results := [.lit (.bool true)], args := [d1, d2, d3] }
  | _ => none }
def sstBlocksRow : OpenClaim := { program := "ytadlhnjnhllpfaadoor", sum := "157b08d0401e2ada21e0d7e5cbd5aea294252f22f9df4d9091aa80d9e9979865", func := "convoy/convoylaw06.SstBlocks", spec := "sstBlocks", inPlace := ["internal/bytealg.abigen_runtime_cmpstring"], unfollowed := true, recurses := true, named := ["convoy/frame.sums"], apart := false, laid := [("convoy/frame.sums", laid_convoy_frame_sums)] }
def SstBlocksSaid : Prop := sstBlocksRow.holds Tryd.pinned (OpenSpec.ofChange sstBlocksSpec)

/-- ITS FALSE NEIGHBOUR: 'it returns false'. Refute it at one input. -/
def sstBlocksWrong : ChangeSpec := { name := "sstBlocks", fn := fun _ => fun
  | [d1, d2, d3] => { results := [.lit (.bool false)], args := [d1, d2, d3] }
  | _ => none }
def SstBlocksWrongFalsely : Prop := sstBlocksRow.holds Tryd.pinned (OpenSpec.ofChange sstBlocksWrong)

/-- 'convoylaw06.SstOwn': WHATEVER THE INPUT: true; the input reads as it did. -/
def sstOwnSpec : ChangeSpec := { name := "sstOwn", fn := fun _ => fun
  | [d1, d2] => { results := [.lit (.bool true)], args := [d1, d2] }
  | _ => none }
def sstOwnRow : OpenClaim := { program := "ytadlhnjnhllpfaadoor", sum := "157b08d0401e2ada21e0d7e5cbd5aea294252f22f9df4d9091aa80d9e9979865", func := "convoy/convoylaw06.SstOwn", spec := "sstOwn", inPlace := ["internal/bytealg.abigen_runtime_cmpstring"], unfollowed := true, recurses := true, named := ["convoy/frame.sums"], apart := false, laid := [("convoy/frame.sums", laid_convoy_frame_sums)] }
def SstOwnSaid : Prop := sstOwnRow.holds Tryd.pinned (OpenSpec.ofChange sstOwnSpec)

/-- ITS FALSE NEIGHBOUR: 'it returns false'. Refute it at one input. -/
def sstOwnWrong : ChangeSpec := { name := "sstOwn", fn := fun _ => fun
  | [d1, d2] => { results := [.lit (.bool false)], args := [d1, d2] }
  | _ => none }
def SstOwnWrongFalsely : Prop := sstOwnRow.holds Tryd.pinned (OpenSpec.ofChange sstOwnWrong)

/- THE SECOND FORM. 'bulk': how many values and letters a reading holds, each counted each time it is reached (what is shared counts as often as it is met; a slice's spare places count too). A statement '..UptoSaid' is the law's where the arguments, and the package variables that the reading takes, are together of bulk at most 1048576: NARROWER than '..Said'. Prove '..Said' where nothing that the law and all that it calls make is longer than what came in: it says more and counts as full. Else prove '..UptoSaid'. A law counts once. -/
mutual
def uptoBulk {H : Type} : DataW H → Nat
  | .lit (.string bytes) => bytes.length + 1
  | .lit _ => 1
  | .nil => 1
  | .ptr d => uptoBulk d + 1
  | .slice elems spare => uptoBulkAll elems + uptoBulkAll spare + 1
  | .agg parts => uptoBulkAll parts + 1
  | .iface _ d => uptoBulk d + 1
  | .map entries => uptoBulkEntries entries + 1
  | .held _ => 1
def uptoBulkAll {H : Type} : List (DataW H) → Nat
  | [] => 0
  | d :: r => uptoBulk d + uptoBulkAll r
def uptoBulkEntries {H : Type} : List (Lit × DataW H) → Nat
  | [] => 0
  | x :: r => uptoBulkEntry x + uptoBulkEntries r
def uptoBulkEntry {H : Type} : Lit × DataW H → Nat
  | (.string bytes, d) => bytes.length + uptoBulk d + 1
  | (_, d) => uptoBulk d + 1
 end
def uptoSmall : (H : Type) → List (DataW H) → Bool := fun _ ds => decide (uptoBulkAll ds ≤ 1048576)
def OpenSpec.upto (s : _root_.Go.ChangeSpec) : _root_.Go.OpenSpec := { _root_.Go.OpenSpec.ofChange s with cond := some uptoSmall }

/-- 'convoylaw06.SstBuilds', WHERE WHAT IT READS IS OF BULK AT MOST 1048576: true; the input reads as it did. -/
def sstBuildsUptoRow : OpenClaim := { program := "ytadlhnjnhllpfaadoor", sum := "157b08d0401e2ada21e0d7e5cbd5aea294252f22f9df4d9091aa80d9e9979865", func := "convoy/convoylaw06.SstBuilds", spec := "sstBuilds", inPlace := ["internal/bytealg.abigen_runtime_cmpstring"], unfollowed := true, recurses := true, named := ["convoy/frame.sums"], apart := false, laid := [("convoy/frame.sums", laid_convoy_frame_sums)], narrowed := true }
def SstBuildsUptoSaid : Prop := sstBuildsUptoRow.holds Tryd.pinned (OpenSpec.upto sstBuildsSpec)

/-- 'convoylaw06.SstParses', WHERE WHAT IT READS IS OF BULK AT MOST 1048576: true; the input reads as it did. -/
def sstParsesUptoRow : OpenClaim := { program := "ytadlhnjnhllpfaadoor", sum := "157b08d0401e2ada21e0d7e5cbd5aea294252f22f9df4d9091aa80d9e9979865", func := "convoy/convoylaw06.SstParses", spec := "sstParses", inPlace := ["internal/bytealg.abigen_runtime_cmpstring"], unfollowed := true, recurses := true, named := ["convoy/frame.sums"], apart := false, laid := [("convoy/frame.sums", laid_convoy_frame_sums)], narrowed := true }
def SstParsesUptoSaid : Prop := sstParsesUptoRow.holds Tryd.pinned (OpenSpec.upto sstParsesSpec)

/-- 'convoylaw06.SstReads', WHERE WHAT IT READS IS OF BULK AT MOST 1048576: true; the input reads as it did. -/
def sstReadsUptoRow : OpenClaim := { program := "ytadlhnjnhllpfaadoor", sum := "157b08d0401e2ada21e0d7e5cbd5aea294252f22f9df4d9091aa80d9e9979865", func := "convoy/convoylaw06.SstReads", spec := "sstReads", inPlace := ["internal/bytealg.abigen_runtime_cmpstring"], unfollowed := true, recurses := true, named := ["convoy/frame.sums"], apart := false, laid := [("convoy/frame.sums", laid_convoy_frame_sums)], narrowed := true }
def SstReadsUptoSaid : Prop := sstReadsUptoRow.holds Tryd.pinned (OpenSpec.upto sstReadsSpec)

/-- 'convoylaw06.SstBlocks', WHERE WHAT IT READS IS OF BULK AT MOST 1048576: true; the input reads as it did. -/
def sstBlocksUptoRow : OpenClaim := { program := "ytadlhnjnhllpfaadoor", sum := "157b08d0401e2ada21e0d7e5cbd5aea294252f22f9df4d9091aa80d9e9979865", func := "convoy/convoylaw06.SstBlocks", spec := "sstBlocks", inPlace := ["internal/bytealg.abigen_runtime_cmpstring"], unfollowed := true, recurses := true, named := ["convoy/frame.sums"], apart := false, laid := [("convoy/frame.sums", laid_convoy_frame_sums)], narrowed := true }
def SstBlocksUptoSaid : Prop := sstBlocksUptoRow.holds Tryd.pinned (OpenSpec.upto sstBlocksSpec)

/-- 'convoylaw06.SstOwn', WHERE WHAT IT READS IS OF BULK AT MOST 1048576: true; the input reads as it did. -/
def sstOwnUptoRow : OpenClaim := { program := "ytadlhnjnhllpfaadoor", sum := "157b08d0401e2ada21e0d7e5cbd5aea294252f22f9df4d9091aa80d9e9979865", func := "convoy/convoylaw06.SstOwn", spec := "sstOwn", inPlace := ["internal/bytealg.abigen_runtime_cmpstring"], unfollowed := true, recurses := true, named := ["convoy/frame.sums"], apart := false, laid := [("convoy/frame.sums", laid_convoy_frame_sums)], narrowed := true }
def SstOwnUptoSaid : Prop := sstOwnUptoRow.holds Tryd.pinned (OpenSpec.upto sstOwnSpec)

end Rows
end Go.Proofs.YtadlhnjnhllpfaaDoor
