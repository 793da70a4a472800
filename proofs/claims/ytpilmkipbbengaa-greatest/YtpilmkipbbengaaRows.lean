/-
  No cell of these rows narrows 'for every input' (looked for: loops, veiled, ifaces, maps, wideKeys, modest, calm, conditions, laid).
  DERIVED. THE GIVEN ROWS OF THIS SEAT. 5 by the template 'for every input the law returns true; each argument reads behind the call as it read before'; 0 by the template 'total and deterministic' (their statements: YtpilmkipbbengaaTotals.lean).
  GIVEN WITH THE SEED: the statements are not yours to turn. If you find one false, say at which input.
  Laid BY PROGRAM, IN A SANDBOX (cutbox-rows.mjs): the forced cells as the released guide's own fill.sh prints them over the translation 47a681f6be7844f2… (all of the seat's roots in one cut). By AI agents, Wed Nov 11 2026. No macro, syntax, notation, axiom, sorry.
-/
import Derived.Test.YtpilmkipbbengaaChecked
import GoSem.Claim
import GoSem.ClaimJoined
import GoSem.ClaimMapViews
import Derived.JoinedTies
import Derived.KernelRfl
namespace Go.Proofs.Ytpilmkipbbengaa
/- THE CELL 'sum', in the pinned program and in every row, IS THE sha256 OF THE DUMP (.gsa) THAT YtpilmkipbbengaaProg.lean LOADS. Nothing in Lean hashes anything: it is a label: what it is worth is what the hold of that sum in a sandbox is worth. -/
noncomputable def Try.pinned : Pinned := { name := "ytpilmkipbbengaa", sum := "47a681f6be7844f27b560ebc7ddeb9cbeffd9e3dd36f5abc80b7e12606123e7f", checked := Try.checked }
namespace Rows
def none {H : Type} : Left H := { results := [], args := [] }

/-- 'dripkeep.Safe': WHATEVER THE INPUT: true; the input reads as it did. -/
def safeSpec : ChangeSpec := { name := "safe", fn := fun _ => fun
  | [d1, d2, d3] => { results := [.lit (.bool true)], args := [d1, d2, d3] }
  | _ => none }
def safeRow : OpenClaim := { program := "ytpilmkipbbengaa", sum := "47a681f6be7844f27b560ebc7ddeb9cbeffd9e3dd36f5abc80b7e12606123e7f", func := "drip/dripkeep.Safe", spec := "safe", inPlace := ["slices.overlaps[*drip/drip.order]"], unfollowed := true, recurses := true, apart := false }
def SafeSaid : Prop := safeRow.holds Try.pinned (OpenSpec.ofChange safeSpec)

/-- ITS FALSE NEIGHBOUR: 'it returns false'. Refute it at one input. -/
def safeWrong : ChangeSpec := { name := "safe", fn := fun _ => fun
  | [d1, d2, d3] => { results := [.lit (.bool false)], args := [d1, d2, d3] }
  | _ => none }
def SafeWrongFalsely : Prop := safeRow.holds Try.pinned (OpenSpec.ofChange safeWrong)

/-- 'dripkeep.Roomy': WHATEVER THE INPUT: true; the input reads as it did. -/
def roomySpec : ChangeSpec := { name := "roomy", fn := fun _ => fun
  | [d1, d2, d3, d4] => { results := [.lit (.bool true)], args := [d1, d2, d3, d4] }
  | _ => none }
def roomyRow : OpenClaim := { program := "ytpilmkipbbengaa", sum := "47a681f6be7844f27b560ebc7ddeb9cbeffd9e3dd36f5abc80b7e12606123e7f", func := "drip/dripkeep.Roomy", spec := "roomy", inPlace := ["slices.overlaps[*drip/drip.order]"], unfollowed := true, recurses := true, apart := false }
def RoomySaid : Prop := roomyRow.holds Try.pinned (OpenSpec.ofChange roomySpec)

/-- ITS FALSE NEIGHBOUR: 'it returns false'. Refute it at one input. -/
def roomyWrong : ChangeSpec := { name := "roomy", fn := fun _ => fun
  | [d1, d2, d3, d4] => { results := [.lit (.bool false)], args := [d1, d2, d3, d4] }
  | _ => none }
def RoomyWrongFalsely : Prop := roomyRow.holds Try.pinned (OpenSpec.ofChange roomyWrong)

/-- 'dripkeep.Greatest': WHATEVER THE INPUT: true; the input reads as it did. -/
def greatestSpec : ChangeSpec := { name := "greatest", fn := fun _ => fun
  | [d1, d2, d3] => { results := [.lit (.bool true)], args := [d1, d2, d3] }
  | _ => none }
def greatestRow : OpenClaim := { program := "ytpilmkipbbengaa", sum := "47a681f6be7844f27b560ebc7ddeb9cbeffd9e3dd36f5abc80b7e12606123e7f", func := "drip/dripkeep.Greatest", spec := "greatest", inPlace := ["slices.overlaps[*drip/drip.order]"], unfollowed := true, recurses := true, apart := false }
def GreatestSaid : Prop := greatestRow.holds Try.pinned (OpenSpec.ofChange greatestSpec)

/-- ITS FALSE NEIGHBOUR: 'it returns false'. Refute it at one input. -/
def greatestWrong : ChangeSpec := { name := "greatest", fn := fun _ => fun
  | [d1, d2, d3] => { results := [.lit (.bool false)], args := [d1, d2, d3] }
  | _ => none }
def GreatestWrongFalsely : Prop := greatestRow.holds Try.pinned (OpenSpec.ofChange greatestWrong)

/-- 'dripkeep.Ordered': WHATEVER THE INPUT: true; the input reads as it did. -/
def orderedSpec : ChangeSpec := { name := "ordered", fn := fun _ => fun
  | [d1, d2, d3, d4] => { results := [.lit (.bool true)], args := [d1, d2, d3, d4] }
  | _ => none }
def orderedRow : OpenClaim := { program := "ytpilmkipbbengaa", sum := "47a681f6be7844f27b560ebc7ddeb9cbeffd9e3dd36f5abc80b7e12606123e7f", func := "drip/dripkeep.Ordered", spec := "ordered", inPlace := ["slices.overlaps[*drip/drip.order]"], unfollowed := true, recurses := true, apart := false }
def OrderedSaid : Prop := orderedRow.holds Try.pinned (OpenSpec.ofChange orderedSpec)

/-- ITS FALSE NEIGHBOUR: 'it returns false'. Refute it at one input. -/
def orderedWrong : ChangeSpec := { name := "ordered", fn := fun _ => fun
  | [d1, d2, d3, d4] => { results := [.lit (.bool false)], args := [d1, d2, d3, d4] }
  | _ => none }
def OrderedWrongFalsely : Prop := orderedRow.holds Try.pinned (OpenSpec.ofChange orderedWrong)

/-- 'dripkeep.Locked': WHATEVER THE INPUT: true; the input reads as it did. -/
def lockedSpec : ChangeSpec := { name := "locked", fn := fun _ => fun
  | [d1, d2] => { results := [.lit (.bool true)], args := [d1, d2] }
  | _ => none }
def lockedRow : OpenClaim := { program := "ytpilmkipbbengaa", sum := "47a681f6be7844f27b560ebc7ddeb9cbeffd9e3dd36f5abc80b7e12606123e7f", func := "drip/dripkeep.Locked", spec := "locked", inPlace := ["slices.overlaps[*drip/drip.order]"], unfollowed := true, recurses := true, apart := false }
def LockedSaid : Prop := lockedRow.holds Try.pinned (OpenSpec.ofChange lockedSpec)

/-- ITS FALSE NEIGHBOUR: 'it returns false'. Refute it at one input. -/
def lockedWrong : ChangeSpec := { name := "locked", fn := fun _ => fun
  | [d1, d2] => { results := [.lit (.bool false)], args := [d1, d2] }
  | _ => none }
def LockedWrongFalsely : Prop := lockedRow.holds Try.pinned (OpenSpec.ofChange lockedWrong)

/- THE SECOND FORM. 'bulk': how many values and letters a reading holds, each counted each time it is reached (what is shared counts as often as it is met; a slice's spare places count too). A statement '..UptoSaid' is the law's where the arguments, and the package variables that the reading takes, are together of bulk at most 1048576: NARROWER than '..Said'. Prove '..Said' where nothing that the law and all that it calls make is longer than what came in: it says more and counts as full. Else prove '..UptoSaid'. A law counts once. -/
mutual
def uptoBulk {H : Type} : DataW H → Nat
  | .lit (.string bytes) => bytes.length + 1
  | .lit _ => 1
  | .nil => 1
  | .ptr d => uptoBulk d + 1
  | .slice elems spare => uptoBulkAll elems + uptoBulkAll spare + 1
  | .agg parts => uptoBulkAll parts + 1
  | .iface _ d => uptoBulk d + 1
  | .map entries => uptoBulkEntries entries + 1
  | .held _ => 1
def uptoBulkAll {H : Type} : List (DataW H) → Nat
  | [] => 0
  | d :: r => uptoBulk d + uptoBulkAll r
def uptoBulkEntries {H : Type} : List (Lit × DataW H) → Nat
  | [] => 0
  | x :: r => uptoBulkEntry x + uptoBulkEntries r
def uptoBulkEntry {H : Type} : Lit × DataW H → Nat
  | (.string bytes, d) => bytes.length + uptoBulk d + 1
  | (_, d) => uptoBulk d + 1
 end
def uptoSmall : (H : Type) → List (DataW H) → Bool := fun _ ds => decide (uptoBulkAll ds ≤ 1048576)
def OpenSpec.upto (s : _root_.Go.ChangeSpec) : _root_.Go.OpenSpec := { _root_.Go.OpenSpec.ofChange s with cond := some uptoSmall }

/-- 'dripkeep.Safe', WHERE WHAT IT READS IS OF BULK AT MOST 1048576: true; the input reads as it did. -/
def safeUptoRow : OpenClaim := { program := "ytpilmkipbbengaa", sum := "47a681f6be7844f27b560ebc7ddeb9cbeffd9e3dd36f5abc80b7e12606123e7f", func := "drip/dripkeep.Safe", spec := "safe", inPlace := ["slices.overlaps[*drip/drip.order]"], unfollowed := true, recurses := true, apart := false, narrowed := true }
def SafeUptoSaid : Prop := safeUptoRow.holds Try.pinned (OpenSpec.upto safeSpec)

/-- 'dripkeep.Roomy', WHERE WHAT IT READS IS OF BULK AT MOST 1048576: true; the input reads as it did. -/
def roomyUptoRow : OpenClaim := { program := "ytpilmkipbbengaa", sum := "47a681f6be7844f27b560ebc7ddeb9cbeffd9e3dd36f5abc80b7e12606123e7f", func := "drip/dripkeep.Roomy", spec := "roomy", inPlace := ["slices.overlaps[*drip/drip.order]"], unfollowed := true, recurses := true, apart := false, narrowed := true }
def RoomyUptoSaid : Prop := roomyUptoRow.holds Try.pinned (OpenSpec.upto roomySpec)

/-- 'dripkeep.Greatest', WHERE WHAT IT READS IS OF BULK AT MOST 1048576: true; the input reads as it did. -/
def greatestUptoRow : OpenClaim := { program := "ytpilmkipbbengaa", sum := "47a681f6be7844f27b560ebc7ddeb9cbeffd9e3dd36f5abc80b7e12606123e7f", func := "drip/dripkeep.Greatest", spec := "greatest", inPlace := ["slices.overlaps[*drip/drip.order]"], unfollowed := true, recurses := true, apart := false, narrowed := true }
def GreatestUptoSaid : Prop := greatestUptoRow.holds Try.pinned (OpenSpec.upto greatestSpec)

/-- 'dripkeep.Ordered', WHERE WHAT IT READS IS OF BULK AT MOST 1048576: true; the input reads as it did. -/
def orderedUptoRow : OpenClaim := { program := "ytpilmkipbbengaa", sum := "47a681f6be7844f27b560ebc7ddeb9cbeffd9e3dd36f5abc80b7e12606123e7f", func := "drip/dripkeep.Ordered", spec := "ordered", inPlace := ["slices.overlaps[*drip/drip.order]"], unfollowed := true, recurses := true, apart := false, narrowed := true }
def OrderedUptoSaid : Prop := orderedUptoRow.holds Try.pinned (OpenSpec.upto orderedSpec)

/-- 'dripkeep.Locked', WHERE WHAT IT READS IS OF BULK AT MOST 1048576: true; the input reads as it did. -/
def lockedUptoRow : OpenClaim := { program := "ytpilmkipbbengaa", sum := "47a681f6be7844f27b560ebc7ddeb9cbeffd9e3dd36f5abc80b7e12606123e7f", func := "drip/dripkeep.Locked", spec := "locked", inPlace := ["slices.overlaps[*drip/drip.order]"], unfollowed := true, recurses := true, apart := false, narrowed := true }
def LockedUptoSaid : Prop := lockedUptoRow.holds Try.pinned (OpenSpec.upto lockedSpec)

end Rows
end Go.Proofs.Ytpilmkipbbengaa
