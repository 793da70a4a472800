/- A world in which the tables are laid. -/
import Derived.Test.YtpilmkipbbengaaGreatDoorKRow
import Derived.Test.YtpilmkipbbengaaGreatDoorKdM
import Derived.Test.YtpilmkipbbengaaGreatDoorJop
import Derived.Test.YtpilmkipbbengaaGreatDoorJtab
import Derived.Test.YtpilmkipbbengaaGreatDoorOtake3
import Derived.Test.YtpilmkipbbengaaGreatDoorCards
import Derived.Test.YtpilmkipbbengaaGreatDoorTie
import Derived.JoinedCond
import Derived.Deep.DeepHandedRow
namespace Go.Proofs.YtpilmkipbbengaaGreatDoor
open Go.ChangeShapes Go.WideShapes Go.ChangeAt Go.RowKit

theorem take_spec : TakeSpec := fun b D vc vw ods R k a d t w h rel ok full hk a0 a1 d0 d1 t0 t1 => take_call b D vc vw ods R k a d t w h rel ok full hk a0 a1 d0 d1 t0 t1
theorem config_spec : ConfigSpec := fun a caps cp lockout w hs hin hlo => kconfig_any a caps cp lockout w hs hin hlo

/-- what a listed table holds -/
def tabCells : DataW Unit → Array Value
  | .agg l => (l.map fun
    | .lit (.int k n) => .int k n
    | _ => .int .i64 0).toArray
  | _ => #[]

/-- a world for the witness: the settled one, each listed table as its initialiser lays it -/
noncomputable def laidWorld (os : Os) : World :=
  let h := (World.holding Tryz.prog os ⟨#[], #[], []⟩).heap
  let put (d : DataW Unit) : Obj → Obj := fun
    | .cells _ t frozen => .cells (tabCells d) t frozen
    | o => o
  { World.holding Tryz.prog os ⟨#[], #[], []⟩ with heap := ((h.modify 2 (put Rows.laid_math_bits_deBruijn32tab)).modify 3 (put Rows.laid_math_bits_deBruijn64tab)).modify 1 (put Rows.laid_internal_strconv_uint64pow10) }

end Go.Proofs.YtpilmkipbbengaaGreatDoor
