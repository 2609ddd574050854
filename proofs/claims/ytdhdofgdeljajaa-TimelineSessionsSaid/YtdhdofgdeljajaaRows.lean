/-
  No cell of these rows narrows 'for every input' (looked for: loops, veiled, ifaces, maps, wideKeys, modest, calm, conditions, laid).
  DERIVED. THE GIVEN ROWS OF THIS SEAT. 8 by the template 'for every input the law returns true; each argument reads behind the call as it read before'; 0 by the template 'total and deterministic' (their statements: YtdhdofgdeljajaaTotals.lean).
  GIVEN WITH THE SEED: the statements are not yours to turn. If you find one false, say at which input.
  Laid BY PROGRAM, IN A SANDBOX (cutbox-rows.mjs): the forced cells as the released guide's own fill.sh prints them over the translation 1da5c25409d0373b… (all of the seat's roots in one cut). By AI agents, Wed Nov 11 2026. No macro, syntax, notation, axiom, sorry.
-/
import Derived.Test.YtdhdofgdeljajaaChecked
import GoSem.Claim
import GoSem.ClaimJoined
import GoSem.ClaimMapViews
import Derived.JoinedTies
import Derived.KernelRfl
namespace Go.Proofs.Ytdhdofgdeljajaa
/- THE CELL 'sum', in the pinned program and in every row, IS THE sha256 OF THE DUMP (.gsa) THAT YtdhdofgdeljajaaProg.lean LOADS. Nothing in Lean hashes anything: it is a label: what it is worth is what the hold of that sum in a sandbox is worth. -/
noncomputable def Try.pinned : Pinned := { name := "ytdhdofgdeljajaa", sum := "1da5c25409d0373bb7d02259af97081dce09e264a6aa1d61a125bcf92705a1f6", checked := Try.checked }
namespace Rows
def none {H : Type} : Left H := { results := [], args := [] }

/-- 'asoflaw06.TimelineIntervals': WHATEVER THE INPUT: true; the input reads as it did. -/
def timelineIntervalsSpec : ChangeSpec := { name := "timelineIntervals", fn := fun _ => fun
  | [d1, d2, d3] => { results := [.lit (.bool true)], args := [d1, d2, d3] }
  | _ => none }
def timelineIntervalsRow : OpenClaim := { program := "ytdhdofgdeljajaa", sum := "1da5c25409d0373bb7d02259af97081dce09e264a6aa1d61a125bcf92705a1f6", func := "asof/asoflaw06.TimelineIntervals", spec := "timelineIntervals", unfollowed := true, recurses := true, apart := false }
def TimelineIntervalsSaid : Prop := timelineIntervalsRow.holds Try.pinned (OpenSpec.ofChange timelineIntervalsSpec)

/-- ITS FALSE NEIGHBOUR: 'it returns false'. Refute it at one input. -/
def timelineIntervalsWrong : ChangeSpec := { name := "timelineIntervals", fn := fun _ => fun
  | [d1, d2, d3] => { results := [.lit (.bool false)], args := [d1, d2, d3] }
  | _ => none }
def TimelineIntervalsWrongFalsely : Prop := timelineIntervalsRow.holds Try.pinned (OpenSpec.ofChange timelineIntervalsWrong)

/-- 'asoflaw06.TimelineWindows': WHATEVER THE INPUT: true; the input reads as it did. -/
def timelineWindowsSpec : ChangeSpec := { name := "timelineWindows", fn := fun _ => fun
  | [d1, d2] => { results := [.lit (.bool true)], args := [d1, d2] }
  | _ => none }
def timelineWindowsRow : OpenClaim := { program := "ytdhdofgdeljajaa", sum := "1da5c25409d0373bb7d02259af97081dce09e264a6aa1d61a125bcf92705a1f6", func := "asof/asoflaw06.TimelineWindows", spec := "timelineWindows", unfollowed := true, recurses := true, apart := false }
def TimelineWindowsSaid : Prop := timelineWindowsRow.holds Try.pinned (OpenSpec.ofChange timelineWindowsSpec)

/-- ITS FALSE NEIGHBOUR: 'it returns false'. Refute it at one input. -/
def timelineWindowsWrong : ChangeSpec := { name := "timelineWindows", fn := fun _ => fun
  | [d1, d2] => { results := [.lit (.bool false)], args := [d1, d2] }
  | _ => none }
def TimelineWindowsWrongFalsely : Prop := timelineWindowsRow.holds Try.pinned (OpenSpec.ofChange timelineWindowsWrong)

/-- 'asoflaw06.TimelineSessions': WHATEVER THE INPUT: true; the input reads as it did. -/
def timelineSessionsSpec : ChangeSpec := { name := "timelineSessions", fn := fun _ => fun
  | [d1, d2, d3] => { results := [.lit (.bool true)], args := [d1, d2, d3] }
  | _ => none }
def timelineSessionsRow : OpenClaim := { program := "ytdhdofgdeljajaa", sum := "1da5c25409d0373bb7d02259af97081dce09e264a6aa1d61a125bcf92705a1f6", func := "asof/asoflaw06.TimelineSessions", spec := "timelineSessions", unfollowed := true, recurses := true, apart := false }
def TimelineSessionsSaid : Prop := timelineSessionsRow.holds Try.pinned (OpenSpec.ofChange timelineSessionsSpec)

/-- ITS FALSE NEIGHBOUR: 'it returns false'. Refute it at one input. -/
def timelineSessionsWrong : ChangeSpec := { name := "timelineSessions", fn := fun _ => fun
  | [d1, d2, d3] => { results := [.lit (.bool false)], args := [d1, d2, d3] }
  | _ => none }
def TimelineSessionsWrongFalsely : Prop := timelineSessionsRow.holds Try.pinned (OpenSpec.ofChange timelineSessionsWrong)

/-- 'asoflaw06.TimelineParts': WHATEVER THE INPUT: true; the input reads as it did. -/
def timelinePartsSpec : ChangeSpec := { name := "timelineParts", fn := fun _ => fun
  | [d1, d2] => { results := [.lit (.bool true)], args := [d1, d2] }
  | _ => none }
def timelinePartsRow : OpenClaim := { program := "ytdhdofgdeljajaa", sum := "1da5c25409d0373bb7d02259af97081dce09e264a6aa1d61a125bcf92705a1f6", func := "asof/asoflaw06.TimelineParts", spec := "timelineParts", unfollowed := true, recurses := true, apart := false }
def TimelinePartsSaid : Prop := timelinePartsRow.holds Try.pinned (OpenSpec.ofChange timelinePartsSpec)

/-- ITS FALSE NEIGHBOUR: 'it returns false'. Refute it at one input. -/
def timelinePartsWrong : ChangeSpec := { name := "timelineParts", fn := fun _ => fun
  | [d1, d2] => { results := [.lit (.bool false)], args := [d1, d2] }
  | _ => none }
def TimelinePartsWrongFalsely : Prop := timelinePartsRow.holds Try.pinned (OpenSpec.ofChange timelinePartsWrong)

/-- 'asoflaw06.TimelineTicks': WHATEVER THE INPUT: true; the input reads as it did. -/
def timelineTicksSpec : ChangeSpec := { name := "timelineTicks", fn := fun _ => fun
  | [d1, d2, d3] => { results := [.lit (.bool true)], args := [d1, d2, d3] }
  | _ => none }
def timelineTicksRow : OpenClaim := { program := "ytdhdofgdeljajaa", sum := "1da5c25409d0373bb7d02259af97081dce09e264a6aa1d61a125bcf92705a1f6", func := "asof/asoflaw06.TimelineTicks", spec := "timelineTicks", unfollowed := true, recurses := true, apart := false }
def TimelineTicksSaid : Prop := timelineTicksRow.holds Try.pinned (OpenSpec.ofChange timelineTicksSpec)

/-- ITS FALSE NEIGHBOUR: 'it returns false'. Refute it at one input. -/
def timelineTicksWrong : ChangeSpec := { name := "timelineTicks", fn := fun _ => fun
  | [d1, d2, d3] => { results := [.lit (.bool false)], args := [d1, d2, d3] }
  | _ => none }
def TimelineTicksWrongFalsely : Prop := timelineTicksRow.holds Try.pinned (OpenSpec.ofChange timelineTicksWrong)

/-- 'asoflaw06.TimelineApart': WHATEVER THE INPUT: true; the input reads as it did. -/
def timelineApartSpec : ChangeSpec := { name := "timelineApart", fn := fun _ => fun
  | [d1, d2, d3] => { results := [.lit (.bool true)], args := [d1, d2, d3] }
  | _ => none }
def timelineApartRow : OpenClaim := { program := "ytdhdofgdeljajaa", sum := "1da5c25409d0373bb7d02259af97081dce09e264a6aa1d61a125bcf92705a1f6", func := "asof/asoflaw06.TimelineApart", spec := "timelineApart", unfollowed := true, recurses := true, apart := false }
def TimelineApartSaid : Prop := timelineApartRow.holds Try.pinned (OpenSpec.ofChange timelineApartSpec)

/-- ITS FALSE NEIGHBOUR: 'it returns false'. Refute it at one input. -/
def timelineApartWrong : ChangeSpec := { name := "timelineApart", fn := fun _ => fun
  | [d1, d2, d3] => { results := [.lit (.bool false)], args := [d1, d2, d3] }
  | _ => none }
def TimelineApartWrongFalsely : Prop := timelineApartRow.holds Try.pinned (OpenSpec.ofChange timelineApartWrong)

/-- 'asoflaw06.TimelineNow': WHATEVER THE INPUT: true; the input reads as it did. -/
def timelineNowSpec : ChangeSpec := { name := "timelineNow", fn := fun _ => fun
  | [d1, d2, d3] => { results := [.lit (.bool true)], args := [d1, d2, d3] }
  | _ => none }
def timelineNowRow : OpenClaim := { program := "ytdhdofgdeljajaa", sum := "1da5c25409d0373bb7d02259af97081dce09e264a6aa1d61a125bcf92705a1f6", func := "asof/asoflaw06.TimelineNow", spec := "timelineNow", unfollowed := true, recurses := true, apart := false }
def TimelineNowSaid : Prop := timelineNowRow.holds Try.pinned (OpenSpec.ofChange timelineNowSpec)

/-- ITS FALSE NEIGHBOUR: 'it returns false'. Refute it at one input. -/
def timelineNowWrong : ChangeSpec := { name := "timelineNow", fn := fun _ => fun
  | [d1, d2, d3] => { results := [.lit (.bool false)], args := [d1, d2, d3] }
  | _ => none }
def TimelineNowWrongFalsely : Prop := timelineNowRow.holds Try.pinned (OpenSpec.ofChange timelineNowWrong)

/-- 'asoflaw06.TimelineTiles': WHATEVER THE INPUT: true; the input reads as it did. -/
def timelineTilesSpec : ChangeSpec := { name := "timelineTiles", fn := fun _ => fun
  | [d1, d2, d3] => { results := [.lit (.bool true)], args := [d1, d2, d3] }
  | _ => none }
def timelineTilesRow : OpenClaim := { program := "ytdhdofgdeljajaa", sum := "1da5c25409d0373bb7d02259af97081dce09e264a6aa1d61a125bcf92705a1f6", func := "asof/asoflaw06.TimelineTiles", spec := "timelineTiles", unfollowed := true, recurses := true, apart := false }
def TimelineTilesSaid : Prop := timelineTilesRow.holds Try.pinned (OpenSpec.ofChange timelineTilesSpec)

/-- ITS FALSE NEIGHBOUR: 'it returns false'. Refute it at one input. -/
def timelineTilesWrong : ChangeSpec := { name := "timelineTiles", fn := fun _ => fun
  | [d1, d2, d3] => { results := [.lit (.bool false)], args := [d1, d2, d3] }
  | _ => none }
def TimelineTilesWrongFalsely : Prop := timelineTilesRow.holds Try.pinned (OpenSpec.ofChange timelineTilesWrong)

/- THE SECOND FORM. 'bulk': how many values and letters a reading holds, each counted each time it is reached (what is shared counts as often as it is met; a slice's spare places count too). A statement '..UptoSaid' is the law's where the arguments, and the package variables that the reading takes, are together of bulk at most 1048576: NARROWER than '..Said'. Prove '..Said' where nothing that the law and all that it calls make is longer than what came in: it says more and counts as full. Else prove '..UptoSaid'. A law counts once. -/
mutual
def uptoBulk {H : Type} : DataW H → Nat
  | .lit (.string bytes) => bytes.length + 1
  | .lit _ => 1
  | .nil => 1
  | .ptr d => uptoBulk d + 1
  | .slice elems spare => uptoBulkAll elems + uptoBulkAll spare + 1
  | .agg parts => uptoBulkAll parts + 1
  | .iface _ d => uptoBulk d + 1
  | .map entries => uptoBulkEntries entries + 1
  | .held _ => 1
def uptoBulkAll {H : Type} : List (DataW H) → Nat
  | [] => 0
  | d :: r => uptoBulk d + uptoBulkAll r
def uptoBulkEntries {H : Type} : List (Lit × DataW H) → Nat
  | [] => 0
  | x :: r => uptoBulkEntry x + uptoBulkEntries r
def uptoBulkEntry {H : Type} : Lit × DataW H → Nat
  | (.string bytes, d) => bytes.length + uptoBulk d + 1
  | (_, d) => uptoBulk d + 1
 end
def uptoSmall : (H : Type) → List (DataW H) → Bool := fun _ ds => decide (uptoBulkAll ds ≤ 1048576)
def OpenSpec.upto (s : _root_.Go.ChangeSpec) : _root_.Go.OpenSpec := { _root_.Go.OpenSpec.ofChange s with cond := some uptoSmall }

/-- 'asoflaw06.TimelineIntervals', WHERE WHAT IT READS IS OF BULK AT MOST 1048576: true; the input reads as it did. -/
def timelineIntervalsUptoRow : OpenClaim := { program := "ytdhdofgdeljajaa", sum := "1da5c25409d0373bb7d02259af97081dce09e264a6aa1d61a125bcf92705a1f6", func := "asof/asoflaw06.TimelineIntervals", spec := "timelineIntervals", unfollowed := true, recurses := true, apart := false, narrowed := true }
def TimelineIntervalsUptoSaid : Prop := timelineIntervalsUptoRow.holds Try.pinned (OpenSpec.upto timelineIntervalsSpec)

/-- 'asoflaw06.TimelineWindows', WHERE WHAT IT READS IS OF BULK AT MOST 1048576: true; the input reads as it did. -/
def timelineWindowsUptoRow : OpenClaim := { program := "ytdhdofgdeljajaa", sum := "1da5c25409d0373bb7d02259af97081dce09e264a6aa1d61a125bcf92705a1f6", func := "asof/asoflaw06.TimelineWindows", spec := "timelineWindows", unfollowed := true, recurses := true, apart := false, narrowed := true }
def TimelineWindowsUptoSaid : Prop := timelineWindowsUptoRow.holds Try.pinned (OpenSpec.upto timelineWindowsSpec)

/-- 'asoflaw06.TimelineSessions', WHERE WHAT IT READS IS OF BULK AT MOST 1048576: true; the input reads as it did. -/
def timelineSessionsUptoRow : OpenClaim := { program := "ytdhdofgdeljajaa", sum := "1da5c25409d0373bb7d02259af97081dce09e264a6aa1d61a125bcf92705a1f6", func := "asof/asoflaw06.TimelineSessions", spec := "timelineSessions", unfollowed := true, recurses := true, apart := false, narrowed := true }
def TimelineSessionsUptoSaid : Prop := timelineSessionsUptoRow.holds Try.pinned (OpenSpec.upto timelineSessionsSpec)

/-- 'asoflaw06.TimelineParts', WHERE WHAT IT READS IS OF BULK AT MOST 1048576: true; the input reads as it did. -/
def timelinePartsUptoRow : OpenClaim := { program := "ytdhdofgdeljajaa", sum := "1da5c25409d0373bb7d02259af97081dce09e264a6aa1d61a125bcf92705a1f6", func := "asof/asoflaw06.TimelineParts", spec := "timelineParts", unfollowed := true, recurses := true, apart := false, narrowed := true }
def TimelinePartsUptoSaid : Prop := timelinePartsUptoRow.holds Try.pinned (OpenSpec.upto timelinePartsSpec)

/-- 'asoflaw06.TimelineTicks', WHERE WHAT IT READS IS OF BULK AT MOST 1048576: true; the input reads as it did. -/
def timelineTicksUptoRow : OpenClaim := { program := "ytdhdofgdeljajaa", sum := "1da5c25409d0373bb7d02259af97081dce09e264a6aa1d61a125bcf92705a1f6", func := "asof/asoflaw06.TimelineTicks", spec := "timelineTicks", unfollowed := true, recurses := true, apart := false, narrowed := true }
def TimelineTicksUptoSaid : Prop := timelineTicksUptoRow.holds Try.pinned (OpenSpec.upto timelineTicksSpec)

/-- 'asoflaw06.TimelineApart', WHERE WHAT IT READS IS OF BULK AT MOST 1048576: true; the input reads as it did. -/
def timelineApartUptoRow : OpenClaim := { program := "ytdhdofgdeljajaa", sum := "1da5c25409d0373bb7d02259af97081dce09e264a6aa1d61a125bcf92705a1f6", func := "asof/asoflaw06.TimelineApart", spec := "timelineApart", unfollowed := true, recurses := true, apart := false, narrowed := true }
def TimelineApartUptoSaid : Prop := timelineApartUptoRow.holds Try.pinned (OpenSpec.upto timelineApartSpec)

/-- 'asoflaw06.TimelineNow', WHERE WHAT IT READS IS OF BULK AT MOST 1048576: true; the input reads as it did. -/
def timelineNowUptoRow : OpenClaim := { program := "ytdhdofgdeljajaa", sum := "1da5c25409d0373bb7d02259af97081dce09e264a6aa1d61a125bcf92705a1f6", func := "asof/asoflaw06.TimelineNow", spec := "timelineNow", unfollowed := true, recurses := true, apart := false, narrowed := true }
def TimelineNowUptoSaid : Prop := timelineNowUptoRow.holds Try.pinned (OpenSpec.upto timelineNowSpec)

/-- 'asoflaw06.TimelineTiles', WHERE WHAT IT READS IS OF BULK AT MOST 1048576: true; the input reads as it did. -/
def timelineTilesUptoRow : OpenClaim := { program := "ytdhdofgdeljajaa", sum := "1da5c25409d0373bb7d02259af97081dce09e264a6aa1d61a125bcf92705a1f6", func := "asof/asoflaw06.TimelineTiles", spec := "timelineTiles", unfollowed := true, recurses := true, apart := false, narrowed := true }
def TimelineTilesUptoSaid : Prop := timelineTilesUptoRow.holds Try.pinned (OpenSpec.upto timelineTilesSpec)

end Rows
end Go.Proofs.Ytdhdofgdeljajaa
