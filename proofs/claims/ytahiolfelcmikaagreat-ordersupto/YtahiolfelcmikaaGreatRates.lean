/- driplaw: Rates. -/
import Derived.Test.YtahiolfelcmikaaGreatPlay
namespace Go.Proofs.YtahiolfelcmikaaGreat
open Go.RowKit

set_option maxRecDepth 100000 in
theorem rates_any (pa : Rep) (P : Pumpy 17 34 23 27 29 pa) (al : Option Addr) (rs : List OpR) (cap : Nat) (w : World)
    (h : ScriptAt w al rs) (hn : rs.length ≤ 1000000) :
    Calls Tryz.prog 3 #[.slice al rs.length cap] w fun r w' => r = .returned (.bool true) ∧ Frm (fun x => w.heap.size ≤ x) w w' := by
  have C := hide (played_any pa P al rs cap w h hn)
  clear h hn
  go_enter Tryz.func3, Tryz.ntmps3
  go_wp2_with fail
  refine (C.out).mono ?_
  rintro e w2 ⟨rfl, f⟩
  have F := hide f
  clear f
  go_wp2_with fail
  go_ret
  exact ⟨rfl, F.out⟩

end Go.Proofs.YtahiolfelcmikaaGreat
