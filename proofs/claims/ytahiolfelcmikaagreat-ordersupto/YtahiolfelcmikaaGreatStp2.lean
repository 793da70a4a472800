/- driplaw: step for every kind up to KWait, in one. -/
import Derived.Test.YtahiolfelcmikaaGreatStp
namespace Go.Proofs.YtahiolfelcmikaaGreat
open Go.RowKit

theorem step_any (pa : Rep) (P : Pumpy 17 34 23 27 29 pa) (B : Nat) (wb : Nat) (vp vd vl vm : Value) (ds : List Value) (ms : List Int) (ls : List Value) (ps : List PR) (kind pp a b c d ch : Int) (al : Option Addr) (lims : List Lim) (cl : Nat) (lock : Int) (s : ByteArray) (w : World)
    (h : WSt pa B w wb vp vd vl vm ds ms ls ps) (heq : ∀ (j : Nat) (q : PR), ps[j]? = some q → q.rx = q.ry) (hs : SeeL w al lims) (hnone : al = none → lims.length = 0 ∧ cl = 0) (hcap : lims.length ≤ cl) (hn : lims.length ≤ 10000000) (hd : ds.length ≤ 50000000) (hl : ls.length ≤ 50000000) (hpl : ps.length ≤ 50000000) (hk5 : kind ≤ 5) (hp1 : -9223372036854775808 ≤ pp) (hp2 : pp ≤ 9223372036854775807) :
    Calls Tryz.prog 6 #[.pointer (some ⟨wb, 0, none⟩), opV kind pp a b c d ch (.slice al lims.length cl) lock (.string s)] w fun r w' => r = .returned (.bool true) ∧ StepEnd pa B w wb ds.length ls.length ps.length ps w' := by
  by_cases hk : kind = 1
  · subst hk
    exact step_new pa P B wb vp vd vl vm ds ms ls ps pp a b c d ch al lims cl lock s w h heq hs hnone hcap hn hd hl hpl
  · have hk1 : (kind == 1) = false := beq_eq_false_iff_ne.2 hk
    cases ps with
    | nil => exact step_empty pa P B wb vp vd vl vm ds ms ls kind pp a b c d ch al lims.length cl lock s w h hk1 (beq_eq_false_iff_ne.2 (by omega))
    | cons q qs => exact step_pump pa P B wb vp vd vl vm ds ms ls (q :: qs) kind pp a b c d ch al lims.length cl lock s w h heq hd hl hpl (by simp) hk1 hk5 hp1 hp2

end Go.Proofs.YtahiolfelcmikaaGreat
