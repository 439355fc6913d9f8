/-
  No cell of these rows narrows 'for every input' (looked for: loops, veiled, ifaces, maps, wideKeys, modest, calm, conditions, laid).
  DERIVED. THE GIVEN ROWS OF THIS SEAT. 11 by the template 'for every input the law returns true; each argument reads behind the call as it read before'; 0 by the template 'total and deterministic' (their statements: YtepcmnlgffhihaaTotals.lean).
  GIVEN WITH THE SEED: the statements are not yours to turn. If you find one false, say at which input.
  Laid BY PROGRAM, IN A SANDBOX (cutbox-rows.mjs): the forced cells as the released guide's own fill.sh prints them over the translation 34a966edda779a27… (all of the seat's roots in one cut). By AI agents, Wed Nov 11 2026. No macro, syntax, notation, axiom, sorry.
-/
import Derived.Test.YtepcmnlgffhihaaChecked
import GoSem.Claim
import GoSem.ClaimJoined
import GoSem.ClaimMapViews
import Derived.JoinedTies
import Derived.KernelRfl
namespace Go.Proofs.Ytepcmnlgffhihaa
/- THE CELL 'sum', in the pinned program and in every row, IS THE sha256 OF THE DUMP (.gsa) THAT YtepcmnlgffhihaaProg.lean LOADS. Nothing in Lean hashes anything: it is a label: what it is worth is what the hold of that sum in a sandbox is worth. -/
noncomputable def Try.pinned : Pinned := { name := "ytepcmnlgffhihaa", sum := "34a966edda779a27d129a6cddbeb0f4e68e1777343e2d9e9d0406571c644d722", checked := Try.checked }
namespace Rows
def none {H : Type} : Left H := { results := [], args := [] }

/-- 'sentrylaw01.DiskNil': WHATEVER THE INPUT: true; the input reads as it did. -/
def diskNilSpec : ChangeSpec := { name := "diskNil", fn := fun _ => fun
  | [d1, d2] => { results := [.lit (.bool true)], args := [d1, d2] }
  | _ => none }
def diskNilRow : OpenClaim := { program := "ytepcmnlgffhihaa", sum := "34a966edda779a27d129a6cddbeb0f4e68e1777343e2d9e9d0406571c644d722", func := "sentry/sentrylaw01.DiskNil", spec := "diskNil", inPlace := ["maps.clone"], unfollowed := true, recurses := true, plainKeys := false, apart := false }
def DiskNilSaid : Prop := diskNilRow.holds Try.pinned (OpenSpec.ofChange diskNilSpec)

/-- ITS FALSE NEIGHBOUR: 'it returns false'. Refute it at one input. -/
def diskNilWrong : ChangeSpec := { name := "diskNil", fn := fun _ => fun
  | [d1, d2] => { results := [.lit (.bool false)], args := [d1, d2] }
  | _ => none }
def DiskNilWrongFalsely : Prop := diskNilRow.holds Try.pinned (OpenSpec.ofChange diskNilWrong)

/-- 'sentrylaw11.SkipNil': WHATEVER THE INPUT: true; the input reads as it did. -/
def skipNilSpec : ChangeSpec := { name := "skipNil", fn := fun _ => fun
  | [d] => { results := [.lit (.bool true)], args := [d] }
  | _ => none }
def skipNilRow : OpenClaim := { program := "ytepcmnlgffhihaa", sum := "34a966edda779a27d129a6cddbeb0f4e68e1777343e2d9e9d0406571c644d722", func := "sentry/sentrylaw11.SkipNil", spec := "skipNil", unfollowed := true, recurses := true, plainKeys := false, apart := false }
def SkipNilSaid : Prop := skipNilRow.holds Try.pinned (OpenSpec.ofChange skipNilSpec)

/-- ITS FALSE NEIGHBOUR: 'it returns false'. Refute it at one input. -/
def skipNilWrong : ChangeSpec := { name := "skipNil", fn := fun _ => fun
  | [d] => { results := [.lit (.bool false)], args := [d] }
  | _ => none }
def SkipNilWrongFalsely : Prop := skipNilRow.holds Try.pinned (OpenSpec.ofChange skipNilWrong)

/-- 'sentrylaw15.CacheNil': WHATEVER THE INPUT: true; the input reads as it did. -/
def cacheNilSpec : ChangeSpec := { name := "cacheNil", fn := fun _ => fun
  | [d1, d2] => { results := [.lit (.bool true)], args := [d1, d2] }
  | _ => none }
def cacheNilRow : OpenClaim := { program := "ytepcmnlgffhihaa", sum := "34a966edda779a27d129a6cddbeb0f4e68e1777343e2d9e9d0406571c644d722", func := "sentry/sentrylaw15.CacheNil", spec := "cacheNil", plainKeys := false, apart := false }
def CacheNilSaid : Prop := cacheNilRow.holds Try.pinned (OpenSpec.ofChange cacheNilSpec)

/-- ITS FALSE NEIGHBOUR: 'it returns false'. Refute it at one input. -/
def cacheNilWrong : ChangeSpec := { name := "cacheNil", fn := fun _ => fun
  | [d1, d2] => { results := [.lit (.bool false)], args := [d1, d2] }
  | _ => none }
def CacheNilWrongFalsely : Prop := cacheNilRow.holds Try.pinned (OpenSpec.ofChange cacheNilWrong)

/-- 'sentrylaw38.QuotaNil': WHATEVER THE INPUT: true; the input reads as it did. -/
def quotaNilSpec : ChangeSpec := { name := "quotaNil", fn := fun _ => fun
  | [d1, d2] => { results := [.lit (.bool true)], args := [d1, d2] }
  | _ => none }
def quotaNilRow : OpenClaim := { program := "ytepcmnlgffhihaa", sum := "34a966edda779a27d129a6cddbeb0f4e68e1777343e2d9e9d0406571c644d722", func := "sentry/sentrylaw38.QuotaNil", spec := "quotaNil", unfollowed := true, recurses := true, plainKeys := false, apart := false }
def QuotaNilSaid : Prop := quotaNilRow.holds Try.pinned (OpenSpec.ofChange quotaNilSpec)

/-- ITS FALSE NEIGHBOUR: 'it returns false'. Refute it at one input. -/
def quotaNilWrong : ChangeSpec := { name := "quotaNil", fn := fun _ => fun
  | [d1, d2] => { results := [.lit (.bool false)], args := [d1, d2] }
  | _ => none }
def QuotaNilWrongFalsely : Prop := quotaNilRow.holds Try.pinned (OpenSpec.ofChange quotaNilWrong)

/-- 'sentrylaw17.MergeNil': WHATEVER THE INPUT: true; the input reads as it did. -/
def mergeNilSpec : ChangeSpec := { name := "mergeNil", fn := fun _ => fun
  | [d] => { results := [.lit (.bool true)], args := [d] }
  | _ => none }
def mergeNilRow : OpenClaim := { program := "ytepcmnlgffhihaa", sum := "34a966edda779a27d129a6cddbeb0f4e68e1777343e2d9e9d0406571c644d722", func := "sentry/sentrylaw17.MergeNil", spec := "mergeNil", unfollowed := true, recurses := true, plainKeys := false, apart := false }
def MergeNilSaid : Prop := mergeNilRow.holds Try.pinned (OpenSpec.ofChange mergeNilSpec)

/-- ITS FALSE NEIGHBOUR: 'it returns false'. Refute it at one input. -/
def mergeNilWrong : ChangeSpec := { name := "mergeNil", fn := fun _ => fun
  | [d] => { results := [.lit (.bool false)], args := [d] }
  | _ => none }
def MergeNilWrongFalsely : Prop := mergeNilRow.holds Try.pinned (OpenSpec.ofChange mergeNilWrong)

/-- 'sentrylaw31.FlatNil': WHATEVER THE INPUT: true; the input reads as it did. -/
def flatNilSpec : ChangeSpec := { name := "flatNil", fn := fun _ => fun
  | [d] => { results := [.lit (.bool true)], args := [d] }
  | _ => none }
def flatNilRow : OpenClaim := { program := "ytepcmnlgffhihaa", sum := "34a966edda779a27d129a6cddbeb0f4e68e1777343e2d9e9d0406571c644d722", func := "sentry/sentrylaw31.FlatNil", spec := "flatNil", inPlace := ["internal/bytealg.abigen_runtime_cmpstring"], unfollowed := true, recurses := true, plainKeys := false, apart := false }
def FlatNilSaid : Prop := flatNilRow.holds Try.pinned (OpenSpec.ofChange flatNilSpec)

/-- ITS FALSE NEIGHBOUR: 'it returns false'. Refute it at one input. -/
def flatNilWrong : ChangeSpec := { name := "flatNil", fn := fun _ => fun
  | [d] => { results := [.lit (.bool false)], args := [d] }
  | _ => none }
def FlatNilWrongFalsely : Prop := flatNilRow.holds Try.pinned (OpenSpec.ofChange flatNilWrong)

/-- 'sentrylaw02.CodecNumbers': WHATEVER THE INPUT: true; the input reads as it did. -/
def codecNumbersSpec : ChangeSpec := { name := "codecNumbers", fn := fun _ => fun
  | [d1, d2] => { results := [.lit (.bool true)], args := [d1, d2] }
  | _ => none }
def codecNumbersRow : OpenClaim := { program := "ytepcmnlgffhihaa", sum := "34a966edda779a27d129a6cddbeb0f4e68e1777343e2d9e9d0406571c644d722", func := "sentry/sentrylaw02.CodecNumbers", spec := "codecNumbers", plainKeys := false, apart := false }
def CodecNumbersSaid : Prop := codecNumbersRow.holds Try.pinned (OpenSpec.ofChange codecNumbersSpec)

/-- ITS FALSE NEIGHBOUR: 'it returns false'. Refute it at one input. -/
def codecNumbersWrong : ChangeSpec := { name := "codecNumbers", fn := fun _ => fun
  | [d1, d2] => { results := [.lit (.bool false)], args := [d1, d2] }
  | _ => none }
def CodecNumbersWrongFalsely : Prop := codecNumbersRow.holds Try.pinned (OpenSpec.ofChange codecNumbersWrong)

/-- 'sentrylaw02.CodecTexts': WHATEVER THE INPUT: true; the input reads as it did. -/
def codecTextsSpec : ChangeSpec := { name := "codecTexts", fn := fun _ => fun
  | [d1, d2, d3] => { results := [.lit (.bool true)], args := [d1, d2, d3] }
  | _ => none }
def codecTextsRow : OpenClaim := { program := "ytepcmnlgffhihaa", sum := "34a966edda779a27d129a6cddbeb0f4e68e1777343e2d9e9d0406571c644d722", func := "sentry/sentrylaw02.CodecTexts", spec := "codecTexts", plainKeys := false, apart := false }
def CodecTextsSaid : Prop := codecTextsRow.holds Try.pinned (OpenSpec.ofChange codecTextsSpec)

/-- ITS FALSE NEIGHBOUR: 'it returns false'. Refute it at one input. -/
def codecTextsWrong : ChangeSpec := { name := "codecTexts", fn := fun _ => fun
  | [d1, d2, d3] => { results := [.lit (.bool false)], args := [d1, d2, d3] }
  | _ => none }
def CodecTextsWrongFalsely : Prop := codecTextsRow.holds Try.pinned (OpenSpec.ofChange codecTextsWrong)

/-- 'sentrylaw02.CodecInner': WHATEVER THE INPUT: true; the input reads as it did. -/
def codecInnerSpec : ChangeSpec := { name := "codecInner", fn := fun _ => fun
  | [d] => { results := [.lit (.bool true)], args := [d] }
  | _ => none }
def codecInnerRow : OpenClaim := { program := "ytepcmnlgffhihaa", sum := "34a966edda779a27d129a6cddbeb0f4e68e1777343e2d9e9d0406571c644d722", func := "sentry/sentrylaw02.CodecInner", spec := "codecInner", inPlace := ["internal/bytealg.IndexByteString", "internal/abi.NoEscape"], plainKeys := false, apart := false }
def CodecInnerSaid : Prop := codecInnerRow.holds Try.pinned (OpenSpec.ofChange codecInnerSpec)

/-- ITS FALSE NEIGHBOUR: 'it returns false'. Refute it at one input. -/
def codecInnerWrong : ChangeSpec := { name := "codecInner", fn := fun _ => fun
  | [d] => { results := [.lit (.bool false)], args := [d] }
  | _ => none }
def CodecInnerWrongFalsely : Prop := codecInnerRow.holds Try.pinned (OpenSpec.ofChange codecInnerWrong)

/-- 'sentrylaw02.CodecOuter': WHATEVER THE INPUT: true; the input reads as it did. -/
def codecOuterSpec : ChangeSpec := { name := "codecOuter", fn := fun _ => fun
  | [d] => { results := [.lit (.bool true)], args := [d] }
  | _ => none }
def codecOuterRow : OpenClaim := { program := "ytepcmnlgffhihaa", sum := "34a966edda779a27d129a6cddbeb0f4e68e1777343e2d9e9d0406571c644d722", func := "sentry/sentrylaw02.CodecOuter", spec := "codecOuter", inPlace := ["internal/bytealg.IndexByteString", "internal/abi.NoEscape"], plainKeys := false, apart := false }
def CodecOuterSaid : Prop := codecOuterRow.holds Try.pinned (OpenSpec.ofChange codecOuterSpec)

/-- ITS FALSE NEIGHBOUR: 'it returns false'. Refute it at one input. -/
def codecOuterWrong : ChangeSpec := { name := "codecOuter", fn := fun _ => fun
  | [d] => { results := [.lit (.bool false)], args := [d] }
  | _ => none }
def CodecOuterWrongFalsely : Prop := codecOuterRow.holds Try.pinned (OpenSpec.ofChange codecOuterWrong)

/-- 'sentrylaw02.CodecOrder': WHATEVER THE INPUT: true; the input reads as it did. -/
def codecOrderSpec : ChangeSpec := { name := "codecOrder", fn := fun _ => fun
  | [d1, d2] => { results := [.lit (.bool true)], args := [d1, d2] }
  | _ => none }
def codecOrderRow : OpenClaim := { program := "ytepcmnlgffhihaa", sum := "34a966edda779a27d129a6cddbeb0f4e68e1777343e2d9e9d0406571c644d722", func := "sentry/sentrylaw02.CodecOrder", spec := "codecOrder", plainKeys := false, apart := false }
def CodecOrderSaid : Prop := codecOrderRow.holds Try.pinned (OpenSpec.ofChange codecOrderSpec)

/-- ITS FALSE NEIGHBOUR: 'it returns false'. Refute it at one input. -/
def codecOrderWrong : ChangeSpec := { name := "codecOrder", fn := fun _ => fun
  | [d1, d2] => { results := [.lit (.bool false)], args := [d1, d2] }
  | _ => none }
def CodecOrderWrongFalsely : Prop := codecOrderRow.holds Try.pinned (OpenSpec.ofChange codecOrderWrong)

/- THE SECOND FORM. 'bulk': how many values and letters a reading holds, each counted each time it is reached (what is shared counts as often as it is met; a slice's spare places count too). A statement '..UptoSaid' is the law's where the arguments, and the package variables that the reading takes, are together of bulk at most 1048576: NARROWER than '..Said'. Prove '..Said' where nothing that the law and all that it calls make is longer than what came in: it says more and counts as full. Else prove '..UptoSaid'. A law counts once. -/
mutual
def uptoBulk {H : Type} : DataW H → Nat
  | .lit (.string bytes) => bytes.length + 1
  | .lit _ => 1
  | .nil => 1
  | .ptr d => uptoBulk d + 1
  | .slice elems spare => uptoBulkAll elems + uptoBulkAll spare + 1
  | .agg parts => uptoBulkAll parts + 1
  | .iface _ d => uptoBulk d + 1
  | .map entries => uptoBulkEntries entries + 1
  | .held _ => 1
def uptoBulkAll {H : Type} : List (DataW H) → Nat
  | [] => 0
  | d :: r => uptoBulk d + uptoBulkAll r
def uptoBulkEntries {H : Type} : List (Lit × DataW H) → Nat
  | [] => 0
  | x :: r => uptoBulkEntry x + uptoBulkEntries r
def uptoBulkEntry {H : Type} : Lit × DataW H → Nat
  | (.string bytes, d) => bytes.length + uptoBulk d + 1
  | (_, d) => uptoBulk d + 1
 end
def uptoSmall : (H : Type) → List (DataW H) → Bool := fun _ ds => decide (uptoBulkAll ds ≤ 1048576)
def OpenSpec.upto (s : _root_.Go.ChangeSpec) : _root_.Go.OpenSpec := { _root_.Go.OpenSpec.ofChange s with cond := some uptoSmall }

/-- 'sentrylaw01.DiskNil', WHERE WHAT IT READS IS OF BULK AT MOST 1048576: true; the input reads as it did. -/
def diskNilUptoRow : OpenClaim := { program := "ytepcmnlgffhihaa", sum := "34a966edda779a27d129a6cddbeb0f4e68e1777343e2d9e9d0406571c644d722", func := "sentry/sentrylaw01.DiskNil", spec := "diskNil", inPlace := ["maps.clone"], unfollowed := true, recurses := true, plainKeys := false, apart := false, narrowed := true }
def DiskNilUptoSaid : Prop := diskNilUptoRow.holds Try.pinned (OpenSpec.upto diskNilSpec)

/-- 'sentrylaw11.SkipNil', WHERE WHAT IT READS IS OF BULK AT MOST 1048576: true; the input reads as it did. -/
def skipNilUptoRow : OpenClaim := { program := "ytepcmnlgffhihaa", sum := "34a966edda779a27d129a6cddbeb0f4e68e1777343e2d9e9d0406571c644d722", func := "sentry/sentrylaw11.SkipNil", spec := "skipNil", unfollowed := true, recurses := true, plainKeys := false, apart := false, narrowed := true }
def SkipNilUptoSaid : Prop := skipNilUptoRow.holds Try.pinned (OpenSpec.upto skipNilSpec)

/-- 'sentrylaw15.CacheNil', WHERE WHAT IT READS IS OF BULK AT MOST 1048576: true; the input reads as it did. -/
def cacheNilUptoRow : OpenClaim := { program := "ytepcmnlgffhihaa", sum := "34a966edda779a27d129a6cddbeb0f4e68e1777343e2d9e9d0406571c644d722", func := "sentry/sentrylaw15.CacheNil", spec := "cacheNil", plainKeys := false, apart := false, narrowed := true }
def CacheNilUptoSaid : Prop := cacheNilUptoRow.holds Try.pinned (OpenSpec.upto cacheNilSpec)

/-- 'sentrylaw38.QuotaNil', WHERE WHAT IT READS IS OF BULK AT MOST 1048576: true; the input reads as it did. -/
def quotaNilUptoRow : OpenClaim := { program := "ytepcmnlgffhihaa", sum := "34a966edda779a27d129a6cddbeb0f4e68e1777343e2d9e9d0406571c644d722", func := "sentry/sentrylaw38.QuotaNil", spec := "quotaNil", unfollowed := true, recurses := true, plainKeys := false, apart := false, narrowed := true }
def QuotaNilUptoSaid : Prop := quotaNilUptoRow.holds Try.pinned (OpenSpec.upto quotaNilSpec)

/-- 'sentrylaw17.MergeNil', WHERE WHAT IT READS IS OF BULK AT MOST 1048576: true; the input reads as it did. -/
def mergeNilUptoRow : OpenClaim := { program := "ytepcmnlgffhihaa", sum := "34a966edda779a27d129a6cddbeb0f4e68e1777343e2d9e9d0406571c644d722", func := "sentry/sentrylaw17.MergeNil", spec := "mergeNil", unfollowed := true, recurses := true, plainKeys := false, apart := false, narrowed := true }
def MergeNilUptoSaid : Prop := mergeNilUptoRow.holds Try.pinned (OpenSpec.upto mergeNilSpec)

/-- 'sentrylaw31.FlatNil', WHERE WHAT IT READS IS OF BULK AT MOST 1048576: true; the input reads as it did. -/
def flatNilUptoRow : OpenClaim := { program := "ytepcmnlgffhihaa", sum := "34a966edda779a27d129a6cddbeb0f4e68e1777343e2d9e9d0406571c644d722", func := "sentry/sentrylaw31.FlatNil", spec := "flatNil", inPlace := ["internal/bytealg.abigen_runtime_cmpstring"], unfollowed := true, recurses := true, plainKeys := false, apart := false, narrowed := true }
def FlatNilUptoSaid : Prop := flatNilUptoRow.holds Try.pinned (OpenSpec.upto flatNilSpec)

/-- 'sentrylaw02.CodecNumbers', WHERE WHAT IT READS IS OF BULK AT MOST 1048576: true; the input reads as it did. -/
def codecNumbersUptoRow : OpenClaim := { program := "ytepcmnlgffhihaa", sum := "34a966edda779a27d129a6cddbeb0f4e68e1777343e2d9e9d0406571c644d722", func := "sentry/sentrylaw02.CodecNumbers", spec := "codecNumbers", plainKeys := false, apart := false, narrowed := true }
def CodecNumbersUptoSaid : Prop := codecNumbersUptoRow.holds Try.pinned (OpenSpec.upto codecNumbersSpec)

/-- 'sentrylaw02.CodecTexts', WHERE WHAT IT READS IS OF BULK AT MOST 1048576: true; the input reads as it did. -/
def codecTextsUptoRow : OpenClaim := { program := "ytepcmnlgffhihaa", sum := "34a966edda779a27d129a6cddbeb0f4e68e1777343e2d9e9d0406571c644d722", func := "sentry/sentrylaw02.CodecTexts", spec := "codecTexts", plainKeys := false, apart := false, narrowed := true }
def CodecTextsUptoSaid : Prop := codecTextsUptoRow.holds Try.pinned (OpenSpec.upto codecTextsSpec)

/-- 'sentrylaw02.CodecInner', WHERE WHAT IT READS IS OF BULK AT MOST 1048576: true; the input reads as it did. -/
def codecInnerUptoRow : OpenClaim := { program := "ytepcmnlgffhihaa", sum := "34a966edda779a27d129a6cddbeb0f4e68e1777343e2d9e9d0406571c644d722", func := "sentry/sentrylaw02.CodecInner", spec := "codecInner", inPlace := ["internal/bytealg.IndexByteString", "internal/abi.NoEscape"], plainKeys := false, apart := false, narrowed := true }
def CodecInnerUptoSaid : Prop := codecInnerUptoRow.holds Try.pinned (OpenSpec.upto codecInnerSpec)

/-- 'sentrylaw02.CodecOuter', WHERE WHAT IT READS IS OF BULK AT MOST 1048576: true; the input reads as it did. -/
def codecOuterUptoRow : OpenClaim := { program := "ytepcmnlgffhihaa", sum := "34a966edda779a27d129a6cddbeb0f4e68e1777343e2d9e9d0406571c644d722", func := "sentry/sentrylaw02.CodecOuter", spec := "codecOuter", inPlace := ["internal/bytealg.IndexByteString", "internal/abi.NoEscape"], plainKeys := false, apart := false, narrowed := true }
def CodecOuterUptoSaid : Prop := codecOuterUptoRow.holds Try.pinned (OpenSpec.upto codecOuterSpec)

/-- 'sentrylaw02.CodecOrder', WHERE WHAT IT READS IS OF BULK AT MOST 1048576: true; the input reads as it did. -/
def codecOrderUptoRow : OpenClaim := { program := "ytepcmnlgffhihaa", sum := "34a966edda779a27d129a6cddbeb0f4e68e1777343e2d9e9d0406571c644d722", func := "sentry/sentrylaw02.CodecOrder", spec := "codecOrder", plainKeys := false, apart := false, narrowed := true }
def CodecOrderUptoSaid : Prop := codecOrderUptoRow.holds Try.pinned (OpenSpec.upto codecOrderSpec)

end Rows
end Go.Proofs.Ytepcmnlgffhihaa
