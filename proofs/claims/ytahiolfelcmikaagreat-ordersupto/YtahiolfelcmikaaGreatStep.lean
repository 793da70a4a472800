/- driplaw: step, up to KWait. -/
import Derived.Test.YtahiolfelcmikaaGreatAsks
import Derived.Deep.CutRange
namespace Go.Proofs.YtahiolfelcmikaaGreat
open Go.RowKit

theorem StepEnd.same {pa : Rep} {fN fB fR fO fW : FuncId} {B : Nat} {w w' : World} {wb : Nat} {vp vd vl vm : Value} {ds : List Value} {ms : List Int} {ls : List Value} {ps : List PR} (P : Pumpy fN fB fR fO fW pa) (h : WSt pa B w wb vp vd vl vm ds ms ls ps) (heq : ∀ (j : Nat) (q : PR), ps[j]? = some q → q.rx = q.ry) (k : Keep w w') : StepEnd pa B w wb ds.length ls.length ps.length ps w' :=
  ⟨vp, vd, vl, vm, ds, ms, ls, ps, WSt.keep P h k, by omega, by omega, by omega, heq, k.mono (fun _ _ e => e.elim)⟩

theorem StepEnd.after {pa : Rep} {B : Nat} {w w1 w' : World} {wb nd nl np : Nat} {ps : List PR} (h : StepEnd pa B w1 wb nd nl np ps w') (k : Keep w w1) : StepEnd pa B w wb nd nl np ps w' := by
  obtain ⟨vp, vd, vl, vm, ds, ms, ls, ps', hw, h1, h2, h3, h4, hf⟩ := h
  exact ⟨vp, vd, vl, vm, ds, ms, ls, ps', hw, h1, h2, h3, h4, (k.mono (fun _ _ e => e.elim)).trans hf⟩

set_option maxRecDepth 100000 in
set_option maxHeartbeats 1600000 in
theorem step_new (pa : Rep) (P : Pumpy 17 34 23 27 29 pa) (B : Nat) (wb : Nat) (vp vd vl vm : Value) (ds : List Value) (ms : List Int) (ls : List Value) (ps : List PR) (pp a b c d ch : Int) (al : Option Addr) (lims : List Lim) (cl : Nat) (lock : Int) (s : ByteArray) (w : World)
    (h : WSt pa B w wb vp vd vl vm ds ms ls ps) (heq : ∀ (j : Nat) (q : PR), ps[j]? = some q → q.rx = q.ry) (hs : SeeL w al lims) (hnone : al = none → lims.length = 0 ∧ cl = 0) (hcap : lims.length ≤ cl) (hn : lims.length ≤ 10000000) (hd : ds.length ≤ 50000000) (hl : ls.length ≤ 50000000) (hpl : ps.length ≤ 50000000) :
    Calls Tryz.prog 6 #[.pointer (some ⟨wb, 0, none⟩), opV 1 pp a b c d ch (.slice al lims.length cl) lock (.string s)] w fun r w' => r = .returned (.bool true) ∧ StepEnd pa B w wb ds.length ls.length ps.length ps w' := by
  have cm := fun (W : World) (k : Keep w W) => makes_any pa P B wb vp vd vl vm ds ms ls ps ch al lims cl lock W (WSt.keep P h k) heq (hs.frm k (fun _ _ _ e => e)) hnone hcap hn hd hl hpl
  have CM := hide cm
  clear cm h heq hs hnone hcap hn hd hl hpl
  go_enter Tryz.func6, Tryz.ntmps6
  go_wp2_with fail
  refine (CM.out _ (by exact (Frm.refl _ _).alloc _)).mono ?_
  rintro e w2 ⟨rfl, hs⟩
  go_wp2_with fail
  go_ret
  exact ⟨rfl, hs.after ((Frm.refl _ _).alloc _)⟩

set_option maxRecDepth 100000 in
set_option maxHeartbeats 1600000 in
theorem step_empty (pa : Rep) (P : Pumpy 17 34 23 27 29 pa) (B : Nat) (wb : Nat) (vp vd vl vm : Value) (ds : List Value) (ms : List Int) (ls : List Value) (kind pp a b c d ch : Int) (al : Option Addr) (nl cl : Nat) (lock : Int) (s : ByteArray) (w : World)
    (h : WSt pa B w wb vp vd vl vm ds ms ls []) (hk1 : (kind == 1) = false) (hk12 : (kind == 12) = false) :
    Calls Tryz.prog 6 #[.pointer (some ⟨wb, 0, none⟩), opV kind pp a b c d ch (.slice al nl cl) lock (.string s)] w fun r w' => r = .returned (.bool true) ∧ StepEnd pa B w wb ds.length ls.length 0 [] w' := by
  obtain ⟨ap, cp, hvp⟩ := row_slice h.pr
  have c0 : w.cell? ⟨wb, 0, none⟩ = some vp := by rw [h.L.head.cell]; rfl
  rw [hvp] at c0
  have lw := h.L.head.lt
  have H := hide h
  clear h hvp
  go_enter Tryz.func6, Tryz.ntmps6
  go_wp2_with fail
  go_ret
  exact ⟨rfl, StepEnd.same P H.out (fun j q hq => by simp at hq) ((Frm.refl _ _).alloc _)⟩

end Go.Proofs.YtahiolfelcmikaaGreat
