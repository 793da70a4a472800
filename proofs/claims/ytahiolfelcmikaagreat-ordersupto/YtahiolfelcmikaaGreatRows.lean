/-
  No cell of these rows narrows 'for every input' (looked for: loops, veiled, ifaces, maps, wideKeys, modest, calm, conditions, laid).
  DERIVED. THE GIVEN ROWS OF THIS SEAT. 2 by the template 'for every input the law returns true; each argument reads behind the call as it read before'; 0 by the template 'total and deterministic' (their statements: YtahiolfelcmikaaGreatTotals.lean).
  GIVEN WITH THE SEED: the statements are not yours to turn. If you find one false, say at which input.
  Laid BY PROGRAM, IN A SANDBOX (cutbox-rows.mjs): the forced cells as the released guide's own fill.sh prints them over the translation 328b5f522c7c94b0… (all of the seat's roots in one cut). By AI agents, Wed Nov 11 2026. No macro, syntax, notation, axiom, sorry.
-/
import Derived.Test.YtahiolfelcmikaaGreatChecked
import GoSem.Claim
import GoSem.ClaimJoined
import GoSem.ClaimMapViews
import Derived.JoinedTies
import Derived.KernelRfl
namespace Go.Proofs.YtahiolfelcmikaaGreat
/- THE CELL 'sum', in the pinned program and in every row, IS THE sha256 OF THE DUMP (.gsa) THAT YtahiolfelcmikaaGreatProg.lean LOADS. Nothing in Lean hashes anything: it is a label: what it is worth is what the hold of that sum in a sandbox is worth. -/
noncomputable def Tryz.pinned : Pinned := { name := "ytahiolfelcmikaagreat", sum := "328b5f522c7c94b0a09c8a4aea299cd1166194c830fea4f39f8f5869e85ac184", checked := Tryz.checked }
namespace Rows
def none {H : Type} : Left H := { results := [], args := [] }

/-- 'driplaw.Rates': WHATEVER THE INPUT: true; the input reads as it did. -/
def ratesSpec : ChangeSpec := { name := "rates", fn := fun _ => fun
  | [d] => { results := [.lit (.bool true)], args := [d] }
  | _ => none }
def ratesRow : OpenClaim := { program := "ytahiolfelcmikaagreat", sum := "328b5f522c7c94b0a09c8a4aea299cd1166194c830fea4f39f8f5869e85ac184", func := "drip/driplaw.Rates", spec := "rates", inPlace := ["slices.overlaps[*drip/drip.order]"], unfollowed := true, recurses := true, apart := false }
def RatesSaid : Prop := ratesRow.holds Tryz.pinned (OpenSpec.ofChange ratesSpec)

/-- ITS FALSE NEIGHBOUR: 'it returns false'. Refute it at one input. -/
def ratesWrong : ChangeSpec := { name := "rates", fn := fun _ => fun
  | [d] => { results := [.lit (.bool false)], args := [d] }
  | _ => none }
def RatesWrongFalsely : Prop := ratesRow.holds Tryz.pinned (OpenSpec.ofChange ratesWrong)

/-- 'driplaw.Orders': WHATEVER THE INPUT: true; the input reads as it did. -/
def ordersSpec : ChangeSpec := { name := "orders", fn := fun _ => fun
  | [d] => { results := [.lit (.bool true)], args := [d] }
  | _ => none }
def ordersRow : OpenClaim := { program := "ytahiolfelcmikaagreat", sum := "328b5f522c7c94b0a09c8a4aea299cd1166194c830fea4f39f8f5869e85ac184", func := "drip/driplaw.Orders", spec := "orders", inPlace := ["slices.overlaps[*drip/drip.order]"], unfollowed := true, recurses := true, apart := false }
def OrdersSaid : Prop := ordersRow.holds Tryz.pinned (OpenSpec.ofChange ordersSpec)

/-- ITS FALSE NEIGHBOUR: 'it returns false'. Refute it at one input. -/
def ordersWrong : ChangeSpec := { name := "orders", fn := fun _ => fun
  | [d] => { results := [.lit (.bool false)], args := [d] }
  | _ => none }
def OrdersWrongFalsely : Prop := ordersRow.holds Tryz.pinned (OpenSpec.ofChange ordersWrong)

/- THE SECOND FORM. 'bulk': how many values and letters a reading holds, each counted each time it is reached (what is shared counts as often as it is met; a slice's spare places count too). A statement '..UptoSaid' is the law's where the arguments, and the package variables that the reading takes, are together of bulk at most 1048576: NARROWER than '..Said'. Prove '..Said' where nothing that the law and all that it calls make is longer than what came in: it says more and counts as full. Else prove '..UptoSaid'. A law counts once. -/
mutual
def uptoBulk {H : Type} : DataW H → Nat
  | .lit (.string bytes) => bytes.length + 1
  | .lit _ => 1
  | .nil => 1
  | .ptr d => uptoBulk d + 1
  | .slice elems spare => uptoBulkAll elems + uptoBulkAll spare + 1
  | .agg parts => uptoBulkAll parts + 1
  | .iface _ d => uptoBulk d + 1
  | .map entries => uptoBulkEntries entries + 1
  | .held _ => 1
def uptoBulkAll {H : Type} : List (DataW H) → Nat
  | [] => 0
  | d :: r => uptoBulk d + uptoBulkAll r
def uptoBulkEntries {H : Type} : List (Lit × DataW H) → Nat
  | [] => 0
  | x :: r => uptoBulkEntry x + uptoBulkEntries r
def uptoBulkEntry {H : Type} : Lit × DataW H → Nat
  | (.string bytes, d) => bytes.length + uptoBulk d + 1
  | (_, d) => uptoBulk d + 1
 end
def uptoSmall : (H : Type) → List (DataW H) → Bool := fun _ ds => decide (uptoBulkAll ds ≤ 1048576)
def OpenSpec.upto (s : _root_.Go.ChangeSpec) : _root_.Go.OpenSpec := { _root_.Go.OpenSpec.ofChange s with cond := some uptoSmall }

/-- 'driplaw.Rates', WHERE WHAT IT READS IS OF BULK AT MOST 1048576: true; the input reads as it did. -/
def ratesUptoRow : OpenClaim := { program := "ytahiolfelcmikaagreat", sum := "328b5f522c7c94b0a09c8a4aea299cd1166194c830fea4f39f8f5869e85ac184", func := "drip/driplaw.Rates", spec := "rates", inPlace := ["slices.overlaps[*drip/drip.order]"], unfollowed := true, recurses := true, apart := false, narrowed := true }
def RatesUptoSaid : Prop := ratesUptoRow.holds Tryz.pinned (OpenSpec.upto ratesSpec)

/-- 'driplaw.Orders', WHERE WHAT IT READS IS OF BULK AT MOST 1048576: true; the input reads as it did. -/
def ordersUptoRow : OpenClaim := { program := "ytahiolfelcmikaagreat", sum := "328b5f522c7c94b0a09c8a4aea299cd1166194c830fea4f39f8f5869e85ac184", func := "drip/driplaw.Orders", spec := "orders", inPlace := ["slices.overlaps[*drip/drip.order]"], unfollowed := true, recurses := true, apart := false, narrowed := true }
def OrdersUptoSaid : Prop := ordersUptoRow.holds Tryz.pinned (OpenSpec.upto ordersSpec)

end Rows
end Go.Proofs.YtahiolfelcmikaaGreat
