/- take's contract, closed. -/
import Derived.Test.YtpilmkipbbengaaEndM
import Derived.Test.YtpilmkipbbengaaOtake3
namespace Go.Proofs.Ytpilmkipbbengaa

theorem take_spec : TakeSpec := fun b D vc vw ods R k a d t w h rel ok full hk a0 a1 d0 d1 t0 t1 => take_call b D vc vw ods R k a d t w h rel ok full hk a0 a1 d0 d1 t0 t1

end Go.Proofs.Ytpilmkipbbengaa
