/-
  No cell of these rows narrows 'for every input' (looked for: loops, veiled, ifaces, maps, wideKeys, modest, calm, conditions, laid).
  DERIVED. THE GIVEN ROWS OF THIS SEAT. 8 by the template 'for every input the law returns true; each argument reads behind the call as it read before'; 0 by the template 'total and deterministic' (their statements: YtekdcjbjjakhcaaTotals.lean).
  GIVEN WITH THE SEED: the statements are not yours to turn. If you find one false, say at which input.
  Laid BY PROGRAM, IN A SANDBOX (cutbox-rows.mjs): the forced cells as the released guide's own fill.sh prints them over the translation d96e9ab580d3869c… (all of the seat's roots in one cut). By AI agents, Wed Nov 11 2026. No macro, syntax, notation, axiom, sorry.
-/
import Derived.Test.YtekdcjbjjakhcaaChecked
import GoSem.Claim
import GoSem.ClaimJoined
import GoSem.ClaimMapViews
import Derived.JoinedTies
import Derived.KernelRfl
namespace Go.Proofs.Ytekdcjbjjakhcaa
/- THE CELL 'sum', in the pinned program and in every row, IS THE sha256 OF THE DUMP (.gsa) THAT YtekdcjbjjakhcaaProg.lean LOADS. Nothing in Lean hashes anything: it is a label: what it is worth is what the hold of that sum in a sandbox is worth. -/
noncomputable def Try.pinned : Pinned := { name := "ytekdcjbjjakhcaa", sum := "d96e9ab580d3869cd4eb5660842804976129b93e451febb42ceb7d0645931651", checked := Try.checked }
namespace Rows
def none {H : Type} : Left H := { results := [], args := [] }

/-- 'sentrylaw18.DropKeeps': WHATEVER THE INPUT: true; the input reads as it did. -/
def dropKeepsSpec : ChangeSpec := { name := "dropKeeps", fn := fun _ => fun
  | [d1, d2, d3, d4] => { results := [.lit (.bool true)], args := [d1, d2, d3, d4] }
  | _ => none }
def dropKeepsRow : OpenClaim := { program := "ytekdcjbjjakhcaa", sum := "d96e9ab580d3869cd4eb5660842804976129b93e451febb42ceb7d0645931651", func := "sentry/sentrylaw18.DropKeeps", spec := "dropKeeps", inPlace := ["internal/bytealg.IndexByteString", "internal/abi.NoEscape"], unfollowed := true, recurses := true, apart := false }
def DropKeepsSaid : Prop := dropKeepsRow.holds Try.pinned (OpenSpec.ofChange dropKeepsSpec)

/-- ITS FALSE NEIGHBOUR: 'it returns false'. Refute it at one input. -/
def dropKeepsWrong : ChangeSpec := { name := "dropKeeps", fn := fun _ => fun
  | [d1, d2, d3, d4] => { results := [.lit (.bool false)], args := [d1, d2, d3, d4] }
  | _ => none }
def DropKeepsWrongFalsely : Prop := dropKeepsRow.holds Try.pinned (OpenSpec.ofChange dropKeepsWrong)

/-- 'sentrylaw18.DropRefuses': WHATEVER THE INPUT: true; the input reads as it did. -/
def dropRefusesSpec : ChangeSpec := { name := "dropRefuses", fn := fun _ => fun
  | [d1, d2] => { results := [.lit (.bool true)], args := [d1, d2] }
  | _ => none }
def dropRefusesRow : OpenClaim := { program := "ytekdcjbjjakhcaa", sum := "d96e9ab580d3869cd4eb5660842804976129b93e451febb42ceb7d0645931651", func := "sentry/sentrylaw18.DropRefuses", spec := "dropRefuses", inPlace := ["internal/bytealg.IndexByteString", "internal/abi.NoEscape"], unfollowed := true, recurses := true, apart := false }
def DropRefusesSaid : Prop := dropRefusesRow.holds Try.pinned (OpenSpec.ofChange dropRefusesSpec)

/-- ITS FALSE NEIGHBOUR: 'it returns false'. Refute it at one input. -/
def dropRefusesWrong : ChangeSpec := { name := "dropRefuses", fn := fun _ => fun
  | [d1, d2] => { results := [.lit (.bool false)], args := [d1, d2] }
  | _ => none }
def DropRefusesWrongFalsely : Prop := dropRefusesRow.holds Try.pinned (OpenSpec.ofChange dropRefusesWrong)

/-- 'sentrylaw18.DropSame': WHATEVER THE INPUT: true; the input reads as it did. -/
def dropSameSpec : ChangeSpec := { name := "dropSame", fn := fun _ => fun
  | [d1, d2, d3, d4] => { results := [.lit (.bool true)], args := [d1, d2, d3, d4] }
  | _ => none }
def dropSameRow : OpenClaim := { program := "ytekdcjbjjakhcaa", sum := "d96e9ab580d3869cd4eb5660842804976129b93e451febb42ceb7d0645931651", func := "sentry/sentrylaw18.DropSame", spec := "dropSame", inPlace := ["internal/bytealg.IndexByteString", "internal/abi.NoEscape"], unfollowed := true, recurses := true, apart := false }
def DropSameSaid : Prop := dropSameRow.holds Try.pinned (OpenSpec.ofChange dropSameSpec)

/-- ITS FALSE NEIGHBOUR: 'it returns false'. Refute it at one input. -/
def dropSameWrong : ChangeSpec := { name := "dropSame", fn := fun _ => fun
  | [d1, d2, d3, d4] => { results := [.lit (.bool false)], args := [d1, d2, d3, d4] }
  | _ => none }
def DropSameWrongFalsely : Prop := dropSameRow.holds Try.pinned (OpenSpec.ofChange dropSameWrong)

/-- 'sentrylaw18.DropTwice': WHATEVER THE INPUT: true; the input reads as it did. -/
def dropTwiceSpec : ChangeSpec := { name := "dropTwice", fn := fun _ => fun
  | [d1, d2, d3, d4] => { results := [.lit (.bool true)], args := [d1, d2, d3, d4] }
  | _ => none }
def dropTwiceRow : OpenClaim := { program := "ytekdcjbjjakhcaa", sum := "d96e9ab580d3869cd4eb5660842804976129b93e451febb42ceb7d0645931651", func := "sentry/sentrylaw18.DropTwice", spec := "dropTwice", inPlace := ["internal/bytealg.IndexByteString", "internal/abi.NoEscape"], unfollowed := true, recurses := true, apart := false }
def DropTwiceSaid : Prop := dropTwiceRow.holds Try.pinned (OpenSpec.ofChange dropTwiceSpec)

/-- ITS FALSE NEIGHBOUR: 'it returns false'. Refute it at one input. -/
def dropTwiceWrong : ChangeSpec := { name := "dropTwice", fn := fun _ => fun
  | [d1, d2, d3, d4] => { results := [.lit (.bool false)], args := [d1, d2, d3, d4] }
  | _ => none }
def DropTwiceWrongFalsely : Prop := dropTwiceRow.holds Try.pinned (OpenSpec.ofChange dropTwiceWrong)

/-- 'sentrylaw19.IterGets': WHATEVER THE INPUT: true; the input reads as it did. -/
def iterGetsSpec : ChangeSpec := { name := "iterGets", fn := fun _ => fun
  | [d1, d2, d3] => { results := [.lit (.bool true)], args := [d1, d2, d3] }
  | _ => none }
def iterGetsRow : OpenClaim := { program := "ytekdcjbjjakhcaa", sum := "d96e9ab580d3869cd4eb5660842804976129b93e451febb42ceb7d0645931651", func := "sentry/sentrylaw19.IterGets", spec := "iterGets", inPlace := ["internal/bytealg.IndexByteString", "internal/abi.NoEscape"], unfollowed := true, recurses := true, apart := false }
def IterGetsSaid : Prop := iterGetsRow.holds Try.pinned (OpenSpec.ofChange iterGetsSpec)

/-- ITS FALSE NEIGHBOUR: 'it returns false'. Refute it at one input. -/
def iterGetsWrong : ChangeSpec := { name := "iterGets", fn := fun _ => fun
  | [d1, d2, d3] => { results := [.lit (.bool false)], args := [d1, d2, d3] }
  | _ => none }
def IterGetsWrongFalsely : Prop := iterGetsRow.holds Try.pinned (OpenSpec.ofChange iterGetsWrong)

/-- 'sentrylaw19.IterScans': WHATEVER THE INPUT: true; the input reads as it did. -/
def iterScansSpec : ChangeSpec := { name := "iterScans", fn := fun _ => fun
  | [d1, d2, d3, d4, d5] => { results := [.lit (.bool true)], args := [d1, d2, d3, d4, d5] }
  | _ => none }
def iterScansRow : OpenClaim := { program := "ytekdcjbjjakhcaa", sum := "d96e9ab580d3869cd4eb5660842804976129b93e451febb42ceb7d0645931651", func := "sentry/sentrylaw19.IterScans", spec := "iterScans", inPlace := ["internal/bytealg.IndexByteString", "internal/abi.NoEscape"], unfollowed := true, recurses := true, apart := false }
def IterScansSaid : Prop := iterScansRow.holds Try.pinned (OpenSpec.ofChange iterScansSpec)

/-- ITS FALSE NEIGHBOUR: 'it returns false'. Refute it at one input. -/
def iterScansWrong : ChangeSpec := { name := "iterScans", fn := fun _ => fun
  | [d1, d2, d3, d4, d5] => { results := [.lit (.bool false)], args := [d1, d2, d3, d4, d5] }
  | _ => none }
def IterScansWrongFalsely : Prop := iterScansRow.holds Try.pinned (OpenSpec.ofChange iterScansWrong)

/-- 'sentrylaw19.IterParted': WHATEVER THE INPUT: true; the input reads as it did. -/
def iterPartedSpec : ChangeSpec := { name := "iterParted", fn := fun _ => fun
  | [d1, d2, d3] => { results := [.lit (.bool true)], args := [d1, d2, d3] }
  | _ => none }
def iterPartedRow : OpenClaim := { program := "ytekdcjbjjakhcaa", sum := "d96e9ab580d3869cd4eb5660842804976129b93e451febb42ceb7d0645931651", func := "sentry/sentrylaw19.IterParted", spec := "iterParted", inPlace := ["internal/bytealg.IndexByteString", "internal/abi.NoEscape"], unfollowed := true, recurses := true, apart := false }
def IterPartedSaid : Prop := iterPartedRow.holds Try.pinned (OpenSpec.ofChange iterPartedSpec)

/-- ITS FALSE NEIGHBOUR: 'it returns false'. Refute it at one input. -/
def iterPartedWrong : ChangeSpec := { name := "iterParted", fn := fun _ => fun
  | [d1, d2, d3] => { results := [.lit (.bool false)], args := [d1, d2, d3] }
  | _ => none }
def IterPartedWrongFalsely : Prop := iterPartedRow.holds Try.pinned (OpenSpec.ofChange iterPartedWrong)

/-- 'sentrylaw19.IterRows': WHATEVER THE INPUT: true; the input reads as it did. -/
def iterRowsSpec : ChangeSpec := { name := "iterRows", fn := fun _ => fun
  | [d1, d2, d3] => { results := [.lit (.bool true)], args := [d1, d2, d3] }
  | _ => none }
def iterRowsRow : OpenClaim := { program := "ytekdcjbjjakhcaa", sum := "d96e9ab580d3869cd4eb5660842804976129b93e451febb42ceb7d0645931651", func := "sentry/sentrylaw19.IterRows", spec := "iterRows", inPlace := ["internal/bytealg.IndexByteString", "internal/abi.NoEscape"], unfollowed := true, recurses := true, apart := false }
def IterRowsSaid : Prop := iterRowsRow.holds Try.pinned (OpenSpec.ofChange iterRowsSpec)

/-- ITS FALSE NEIGHBOUR: 'it returns false'. Refute it at one input. -/
def iterRowsWrong : ChangeSpec := { name := "iterRows", fn := fun _ => fun
  | [d1, d2, d3] => { results := [.lit (.bool false)], args := [d1, d2, d3] }
  | _ => none }
def IterRowsWrongFalsely : Prop := iterRowsRow.holds Try.pinned (OpenSpec.ofChange iterRowsWrong)

/- THE SECOND FORM. 'bulk': how many values and letters a reading holds, each counted each time it is reached (what is shared counts as often as it is met; a slice's spare places count too). A statement '..UptoSaid' is the law's where the arguments, and the package variables that the reading takes, are together of bulk at most 1048576: NARROWER than '..Said'. Prove '..Said' where nothing that the law and all that it calls make is longer than what came in: it says more and counts as full. Else prove '..UptoSaid'. A law counts once. -/
mutual
def uptoBulk {H : Type} : DataW H → Nat
  | .lit (.string bytes) => bytes.length + 1
  | .lit _ => 1
  | .nil => 1
  | .ptr d => uptoBulk d + 1
  | .slice elems spare => uptoBulkAll elems + uptoBulkAll spare + 1
  | .agg parts => uptoBulkAll parts + 1
  | .iface _ d => uptoBulk d + 1
  | .map entries => uptoBulkEntries entries + 1
  | .held _ => 1
def uptoBulkAll {H : Type} : List (DataW H) → Nat
  | [] => 0
  | d :: r => uptoBulk d + uptoBulkAll r
def uptoBulkEntries {H : Type} : List (Lit × DataW H) → Nat
  | [] => 0
  | x :: r => uptoBulkEntry x + uptoBulkEntries r
def uptoBulkEntry {H : Type} : Lit × DataW H → Nat
  | (.string bytes, d) => bytes.length + uptoBulk d + 1
  | (_, d) => uptoBulk d + 1
 end
def uptoSmall : (H : Type) → List (DataW H) → Bool := fun _ ds => decide (uptoBulkAll ds ≤ 1048576)
def OpenSpec.upto (s : _root_.Go.ChangeSpec) : _root_.Go.OpenSpec := { _root_.Go.OpenSpec.ofChange s with cond := some uptoSmall }

/-- 'sentrylaw18.DropKeeps', WHERE WHAT IT READS IS OF BULK AT MOST 1048576: true; the input reads as it did. -/
def dropKeepsUptoRow : OpenClaim := { program := "ytekdcjbjjakhcaa", sum := "d96e9ab580d3869cd4eb5660842804976129b93e451febb42ceb7d0645931651", func := "sentry/sentrylaw18.DropKeeps", spec := "dropKeeps", inPlace := ["internal/bytealg.IndexByteString", "internal/abi.NoEscape"], unfollowed := true, recurses := true, apart := false, narrowed := true }
def DropKeepsUptoSaid : Prop := dropKeepsUptoRow.holds Try.pinned (OpenSpec.upto dropKeepsSpec)

/-- 'sentrylaw18.DropRefuses', WHERE WHAT IT READS IS OF BULK AT MOST 1048576: true; the input reads as it did. -/
def dropRefusesUptoRow : OpenClaim := { program := "ytekdcjbjjakhcaa", sum := "d96e9ab580d3869cd4eb5660842804976129b93e451febb42ceb7d0645931651", func := "sentry/sentrylaw18.DropRefuses", spec := "dropRefuses", inPlace := ["internal/bytealg.IndexByteString", "internal/abi.NoEscape"], unfollowed := true, recurses := true, apart := false, narrowed := true }
def DropRefusesUptoSaid : Prop := dropRefusesUptoRow.holds Try.pinned (OpenSpec.upto dropRefusesSpec)

/-- 'sentrylaw18.DropSame', WHERE WHAT IT READS IS OF BULK AT MOST 1048576: true; the input reads as it did. -/
def dropSameUptoRow : OpenClaim := { program := "ytekdcjbjjakhcaa", sum := "d96e9ab580d3869cd4eb5660842804976129b93e451febb42ceb7d0645931651", func := "sentry/sentrylaw18.DropSame", spec := "dropSame", inPlace := ["internal/bytealg.IndexByteString", "internal/abi.NoEscape"], unfollowed := true, recurses := true, apart := false, narrowed := true }
def DropSameUptoSaid : Prop := dropSameUptoRow.holds Try.pinned (OpenSpec.upto dropSameSpec)

/-- 'sentrylaw18.DropTwice', WHERE WHAT IT READS IS OF BULK AT MOST 1048576: true; the input reads as it did. -/
def dropTwiceUptoRow : OpenClaim := { program := "ytekdcjbjjakhcaa", sum := "d96e9ab580d3869cd4eb5660842804976129b93e451febb42ceb7d0645931651", func := "sentry/sentrylaw18.DropTwice", spec := "dropTwice", inPlace := ["internal/bytealg.IndexByteString", "internal/abi.NoEscape"], unfollowed := true, recurses := true, apart := false, narrowed := true }
def DropTwiceUptoSaid : Prop := dropTwiceUptoRow.holds Try.pinned (OpenSpec.upto dropTwiceSpec)

/-- 'sentrylaw19.IterGets', WHERE WHAT IT READS IS OF BULK AT MOST 1048576: true; the input reads as it did. -/
def iterGetsUptoRow : OpenClaim := { program := "ytekdcjbjjakhcaa", sum := "d96e9ab580d3869cd4eb5660842804976129b93e451febb42ceb7d0645931651", func := "sentry/sentrylaw19.IterGets", spec := "iterGets", inPlace := ["internal/bytealg.IndexByteString", "internal/abi.NoEscape"], unfollowed := true, recurses := true, apart := false, narrowed := true }
def IterGetsUptoSaid : Prop := iterGetsUptoRow.holds Try.pinned (OpenSpec.upto iterGetsSpec)

/-- 'sentrylaw19.IterScans', WHERE WHAT IT READS IS OF BULK AT MOST 1048576: true; the input reads as it did. -/
def iterScansUptoRow : OpenClaim := { program := "ytekdcjbjjakhcaa", sum := "d96e9ab580d3869cd4eb5660842804976129b93e451febb42ceb7d0645931651", func := "sentry/sentrylaw19.IterScans", spec := "iterScans", inPlace := ["internal/bytealg.IndexByteString", "internal/abi.NoEscape"], unfollowed := true, recurses := true, apart := false, narrowed := true }
def IterScansUptoSaid : Prop := iterScansUptoRow.holds Try.pinned (OpenSpec.upto iterScansSpec)

/-- 'sentrylaw19.IterParted', WHERE WHAT IT READS IS OF BULK AT MOST 1048576: true; the input reads as it did. -/
def iterPartedUptoRow : OpenClaim := { program := "ytekdcjbjjakhcaa", sum := "d96e9ab580d3869cd4eb5660842804976129b93e451febb42ceb7d0645931651", func := "sentry/sentrylaw19.IterParted", spec := "iterParted", inPlace := ["internal/bytealg.IndexByteString", "internal/abi.NoEscape"], unfollowed := true, recurses := true, apart := false, narrowed := true }
def IterPartedUptoSaid : Prop := iterPartedUptoRow.holds Try.pinned (OpenSpec.upto iterPartedSpec)

/-- 'sentrylaw19.IterRows', WHERE WHAT IT READS IS OF BULK AT MOST 1048576: true; the input reads as it did. -/
def iterRowsUptoRow : OpenClaim := { program := "ytekdcjbjjakhcaa", sum := "d96e9ab580d3869cd4eb5660842804976129b93e451febb42ceb7d0645931651", func := "sentry/sentrylaw19.IterRows", spec := "iterRows", inPlace := ["internal/bytealg.IndexByteString", "internal/abi.NoEscape"], unfollowed := true, recurses := true, apart := false, narrowed := true }
def IterRowsUptoSaid : Prop := iterRowsUptoRow.holds Try.pinned (OpenSpec.upto iterRowsSpec)

end Rows
end Go.Proofs.Ytekdcjbjjakhcaa
