/- driplaw: step, up to KWait. -/
import Derived.Test.YtpilmkipbbengaaGreatDoorWrM
import Derived.Deep.CutRange
import Derived.Deep.RegionHeld3
namespace Go.Proofs.YtpilmkipbbengaaGreatDoor
open Go.RowKit

theorem StepEnd.same {pa : Rep} {fN fB fR fO fW : FuncId} {B : Nat} {w w' : World} {wb : Nat} {vp vd vl vm : Value} {ds : List Value} {ms : List Int} {ls : List Value} {ps : List PR} (P : Pumpy fN fB fR fO fW pa) (h : WSt pa B w wb vp vd vl vm ds ms ls ps) (heq : ∀ (j : Nat) (q : PR), ps[j]? = some q → q.rx = q.ry) (k : Keep w w') : StepEnd pa B w wb ds.length ls.length ps.length ps w' :=
  ⟨vp, vd, vl, vm, ds, ms, ls, ps, WSt.keep P h k, by omega, by omega, by omega, heq, k.mono (fun _ _ e => e.elim)⟩

theorem StepEnd.after {pa : Rep} {B : Nat} {w w1 w' : World} {wb nd nl np : Nat} {ps : List PR} (h : StepEnd pa B w1 wb nd nl np ps w') (k : Keep w w1) : StepEnd pa B w wb nd nl np ps w' := by
  obtain ⟨vp, vd, vl, vm, ds, ms, ls, ps', hw, h1, h2, h3, h4, hf⟩ := h
  exact ⟨vp, vd, vl, vm, ds, ms, ls, ps', hw, h1, h2, h3, h4, (k.mono (fun _ _ e => e.elim)).trans hf⟩

set_option maxRecDepth 100000 in
set_option maxHeartbeats 1600000 in
theorem step_new (pa : Rep) (P : Pumpy 25 32 46 14 78 pa) (B : Nat) (wb : Nat) (vp vd vl vm : Value) (ds : List Value) (ms : List Int) (ls : List Value) (ps : List PR) (pp a b c d ch : Int) (al : Option Addr) (lims : List Lim) (cl : Nat) (lock : Int) (s : ByteArray) (w : World)
    (h : WSt pa B w wb vp vd vl vm ds ms ls ps) (heq : ∀ (j : Nat) (q : PR), ps[j]? = some q → q.rx = q.ry) (hs : SeeL w al lims) (hnone : al = none → lims.length = 0 ∧ cl = 0) (hcap : lims.length ≤ cl) (hn : lims.length ≤ 5864062014634) (hd : ds.length ≤ 5800000000000) (hl : ls.length ≤ 5800000000000) (hpl : ps.length ≤ 5800000000000) :
    Calls Tryz.prog 18 #[.pointer (some ⟨wb, 0, none⟩), opV 1 pp a b c d ch (.slice al lims.length cl) lock (.string s)] w fun r w' => r = .returned (.bool true) ∧ StepEnd pa B w wb ds.length ls.length ps.length ps w' := by
  have cm := fun (W : World) (k : Keep w W) => makes_any pa P B wb vp vd vl vm ds ms ls ps ch al lims cl lock W (WSt.keep P h k) heq (hs.frm k (fun _ _ _ e => e)) hnone hcap hn hd hl hpl
  have CM := hide cm
  clear cm h heq hs hnone hcap hn hd hl hpl
  go_enter Tryz.func18, Tryz.ntmps18
  go_wp2_with fail
  refine (CM.out _ (by exact (Frm.refl _ _).alloc _)).mono ?_
  rintro e w2 ⟨rfl, hs⟩
  go_wp2_with fail
  go_ret
  exact ⟨rfl, hs.after ((Frm.refl _ _).alloc _)⟩

set_option maxRecDepth 100000 in
set_option maxHeartbeats 1600000 in
theorem step_empty (pa : Rep) (P : Pumpy 25 32 46 14 78 pa) (B : Nat) (wb : Nat) (vp vd vl vm : Value) (ds : List Value) (ms : List Int) (ls : List Value) (kind pp a b c d ch : Int) (al : Option Addr) (nl cl : Nat) (lock : Int) (s : ByteArray) (w : World)
    (h : WSt pa B w wb vp vd vl vm ds ms ls []) (hk1 : (kind == 1) = false) (hk12 : (kind == 12) = false) :
    Calls Tryz.prog 18 #[.pointer (some ⟨wb, 0, none⟩), opV kind pp a b c d ch (.slice al nl cl) lock (.string s)] w fun r w' => r = .returned (.bool true) ∧ StepEnd pa B w wb ds.length ls.length 0 [] w' := by
  obtain ⟨ap, cp, hvp⟩ := row_slice h.pr
  have c0 : w.cell? ⟨wb, 0, none⟩ = some vp := by rw [h.L.head.cell]; rfl
  rw [hvp] at c0
  have lw := h.L.head.lt
  have H := hide h
  clear h hvp
  go_enter Tryz.func18, Tryz.ntmps18
  go_wp2_with fail
  go_ret
  exact ⟨rfl, StepEnd.same P H.out (fun j q hq => by simp at hq) ((Frm.refl _ _).alloc _)⟩

end Go.Proofs.YtpilmkipbbengaaGreatDoor

namespace Go.Proofs.YtpilmkipbbengaaGreatDoor
open Go.RowKit

set_option maxRecDepth 100000 in
set_option maxHeartbeats 3200000 in
theorem step_pump (pa : Rep) (P : Pumpy 25 32 46 14 78 pa) (B : Nat) (wb : Nat) (vp vd vl vm : Value) (ds : List Value) (ms : List Int) (ls : List Value) (ps : List PR) (kind pp a b c d ch : Int) (al : Option Addr) (nl cl : Nat) (lock : Int) (s : ByteArray) (w : World)
    (h : WSt pa B w wb vp vd vl vm ds ms ls ps) (heq : ∀ (j : Nat) (q : PR), ps[j]? = some q → q.rx = q.ry) (hd : ds.length ≤ 5800000000000) (hl : ls.length ≤ 5800000000000) (hpl : ps.length ≤ 5800000000000) (hne : 0 < ps.length) (hk1 : (kind == 1) = false) (hk5 : kind ≤ 5) (hp1 : -9223372036854775808 ≤ pp) (hp2 : pp ≤ 9223372036854775807) :
    Calls Tryz.prog 18 #[.pointer (some ⟨wb, 0, none⟩), opV kind pp a b c d ch (.slice al nl cl) lock (.string s)] w fun r w' => r = .returned (.bool true) ∧ StepEnd pa B w wb ds.length ls.length ps.length ps w' := by
  obtain ⟨g, cp, hvp, -, -, lg⟩ := row_cells h.pr hne
  have c0 : w.cell? ⟨wb, 0, none⟩ = some vp := by rw [h.L.head.cell]; rfl
  rw [hvp] at c0
  have lw := h.L.head.lt
  have hk12 : (kind == 12) = false := by simp; omega
  have hnz : ((ps.length : Int) == 0) = false := beq_eq_false_iff_ne.2 (by omega)
  have get : ∀ k : Nat, k < ps.length → ∃ q, ps[k]? = some q ∧ w.cell? ⟨g, k * 2, none⟩ = some (.pointer (some ⟨q.x, 0, none⟩)) ∧ w.cell? ⟨g, k * 2 + 1, none⟩ = some (.pointer (some ⟨q.y, 0, none⟩)) := by
    intro k hk
    obtain ⟨q, hq⟩ : ∃ q, ps[k]? = some q := ⟨_, List.getElem?_eq_getElem hk⟩
    obtain ⟨g', cap', hv, -, hc, -⟩ := row_at h.pr (fun _ => rfl) hq (by decide)
    rw [hvp] at hv
    simp at hv
    obtain ⟨rfl, rfl⟩ := hv
    have d0 := hc 0 (by decide)
    have d1 := hc 1 (by decide)
    simp [pairC] at d0 d1
    exact ⟨q, hq, d0, d1⟩
  obtain ⟨fx, hfx⟩ : ∃ fx : Nat → Nat, ∀ (k : Nat) (q : PR), ps[k]? = some q → fx k = q.x := ⟨fun k => match ps[k]? with | some q => q.x | none => 0, by intro k q h; simp [h]⟩
  obtain ⟨fy, hfy⟩ : ∃ fy : Nat → Nat, ∀ (k : Nat) (q : PR), ps[k]? = some q → fy k = q.y := ⟨fun k => match ps[k]? with | some q => q.y | none => 0, by intro k q h; simp [h]⟩
  have g0 : ∀ k : Nat, k < ps.length → w.cell? ⟨g, k * 2, none⟩ = some (.pointer (some ⟨fx k, 0, none⟩)) := by
    intro k hk
    obtain ⟨q, hq, d0, -⟩ := get k hk
    rw [hfx k q hq]; exact d0
  have g1 : ∀ k : Nat, k < ps.length → w.cell? ⟨g, k * 2 + 1, none⟩ = some (.pointer (some ⟨fy k, 0, none⟩)) := by
    intro k hk
    obtain ⟨q, hq, -, d1⟩ := get k hk
    rw [hfy k q hq]; exact d1
  have HF := hide (And.intro hfx hfy)
  have H := hide (And.intro h (And.intro heq hvp))
  have PK := hide (fun W => pick_any pp ps.length W hne (by omega) hp1 hp2)
  clear h heq hvp hp1 hp2 get hfx hfy
  have n1 : g ≠ w.heap.size := by omega
  have n2 : g ≠ w.heap.size + 1 := by omega
  have n3 : wb ≠ w.heap.size := by omega
  have n4 : wb ≠ w.heap.size + 1 := by omega
  go_enter Tryz.func18, Tryz.ntmps18
  go_upto_region 8 with fail
  go_cut [5] from 28 to 41 (fun s5 wx => Hid (∃ (i : Nat) (p : PR) (bx : Nat), s5 = .pointer (some ⟨bx, 0, none⟩) ∧ ps[i]? = some p ∧ Keep w wx ∧ Blk wx w.heap.size #[I kind, I pp, I a, I b, I c, I d, I ch, .slice al nl cl, I lock, .string s] 62 ∧ Blk wx bx #[.pointer (some ⟨p.x, 0, none⟩), .pointer (some ⟨p.y, 0, none⟩)] 92))
  case first =>
    go_region_held3 (fun w' => w'.cell? ⟨wb, 0, none⟩ = some (.slice (some ⟨g, 0, none⟩) ps.length cp) ∧ w'.cell? ⟨w.heap.size, 1, none⟩ = some (I pp) ∧ (∀ k : Nat, k < ps.length → w'.cell? ⟨g, k * 2, none⟩ = some (.pointer (some ⟨fx k, 0, none⟩))) ∧ (∀ k : Nat, k < ps.length → w'.cell? ⟨g, k * 2 + 1, none⟩ = some (.pointer (some ⟨fy k, 0, none⟩)))) (((try dsimp only); (repeat' apply And.intro) <;> (first | (go_keep; done) | (intro k hk; have e1 := g0 k hk; have e2 := g1 k hk; go_keep)))) (first | (go_at_call 39; refine (PK.out _).mono ?_; rintro e w' ⟨⟨k, hk, rfl⟩, hw'⟩; have hw8 := hw'.symm; subst hw8))
    all_goals (go_wp2_with fail; go_meet)
    all_goals
      obtain ⟨q, hq⟩ : ∃ q, ps[k]? = some q := ⟨_, List.getElem?_eq_getElem hk⟩
      have ex := (HF.out).1 k q hq
      have ey := (HF.out).2 k q hq
      rw [ex, ey]
      exact hide ⟨k, q, w.heap.size + 1, rfl, hq, (((Frm.refl _ _).alloc _).alloc _).drew, ((Blk.new _ _ _).alloc _).drew, by
        have hb := (Blk.new (w.alloc (.cells #[I kind, I pp, I a, I b, I c, I d, I ch, .slice al nl cl, I lock, .string s] 62)) #[.pointer (some ⟨q.x, 0, none⟩), .pointer (some ⟨q.y, 0, none⟩)] 92).drew
        simpa using hb⟩
  case rest =>
    obtain ⟨i, p, bx, rfl, hp, kw, bo, bp⟩ := hcut.out
    have o0 := (bo.cell 0).trans (show _ = some (I kind) from rfl)
    have o1 := (bo.cell 1).trans (show _ = some (I pp) from rfl)
    have o2 := (bo.cell 2).trans (show _ = some (I a) from rfl)
    have o3 := (bo.cell 3).trans (show _ = some (I b) from rfl)
    have o4 := (bo.cell 4).trans (show _ = some (I c) from rfl)
    have o5 := (bo.cell 5).trans (show _ = some (I d) from rfl)
    have o6 := (bo.cell 6).trans (show _ = some (I ch) from rfl)
    have o7 := (bo.cell 7).trans (show _ = some (Value.slice al nl cl) from rfl)
    have o8 := (bo.cell 8).trans (show _ = some (I lock) from rfl)
    have o9 := (bo.cell 9).trans (show _ = some (Value.string s) from rfl)
    have p0 := (bp.cell 0).trans (show _ = some (Value.pointer (some ⟨p.x, 0, none⟩)) from rfl)
    have p1 := (bp.cell 1).trans (show _ = some (Value.pointer (some ⟨p.y, 0, none⟩)) from rfl)
    have hk : kind = 2 ∨ kind = 3 ∨ kind = 4 ∨ kind = 5 ∨ kind ≤ 0 := by
      have : kind ≠ 1 := by simpa using hk1
      omega
    have KW := hide kw
    have HP := hide hp
    have HD := hide (And.intro hd hl)
    clear hk1 hk12 hk5 c0 lw hnz g0 g1 HF PK n1 n2 n3 n4 lg hne kw hp bo bp hcut hd hl hpl
    rcases hk with hk | hk | hk | hk | hk
    · subst hk
      have C := hide (fun W hw => moves_basal pa P B wb vp vd vl vm ds ms ls ps i p pp a b c d ch al nl cl lock s W hw HP.out (H.out).2.1)
      go_wp2_with fail
      refine (C.out _ (WSt.keep P (H.out).1 KW.out)).mono ?_
      rintro e w2 ⟨rfl, hs⟩
      go_wp2_with fail
      go_ret
      exact ⟨rfl, hs.after KW.out⟩
    · subst hk
      have C := hide (fun W hw => runs_any pa P B wb vp vd vl vm ds ms ls ps i p a W hw HP.out (H.out).2.1 (HD.out).1 (HD.out).2)
      go_wp2_with fail
      refine (C.out _ (WSt.keep P (H.out).1 KW.out)).mono ?_
      rintro e w2 ⟨rfl, hs⟩
      go_wp2_with fail
      go_ret
      exact ⟨rfl, hs.after KW.out⟩
    · subst hk
      have C := hide (fun W hw => asks_room pa P B wb vp vd vl vm ds ms ls ps i p pp a b c d ch al nl cl lock s W hw HP.out (H.out).2.1)
      go_wp2_with fail
      refine (C.out _ (WSt.keep P (H.out).1 KW.out)).mono ?_
      rintro e w2 ⟨rfl, hs⟩
      go_wp2_with fail
      go_ret
      exact ⟨rfl, hs.after KW.out⟩
    · subst hk
      have C := hide (fun W hw => asks_wait pa P B wb vp vd vl vm ds ms ls ps i p pp a b c d ch al nl cl lock s W hw HP.out (H.out).2.1)
      go_wp2_with fail
      refine (C.out _ (WSt.keep P (H.out).1 KW.out)).mono ?_
      rintro e w2 ⟨rfl, hs⟩
      go_wp2_with fail
      go_ret
      exact ⟨rfl, hs.after KW.out⟩
    · have k2 : (kind == 2) = false := beq_eq_false_iff_ne.2 (by omega)
      have k3 : (kind == 3) = false := beq_eq_false_iff_ne.2 (by omega)
      have k4 : (kind == 4) = false := beq_eq_false_iff_ne.2 (by omega)
      have k5 : (kind == 5) = false := beq_eq_false_iff_ne.2 (by omega)
      have k6 : (kind == 6) = false := beq_eq_false_iff_ne.2 (by omega)
      have k7 : (kind == 7) = false := beq_eq_false_iff_ne.2 (by omega)
      have k8 : (kind == 8) = false := beq_eq_false_iff_ne.2 (by omega)
      have k9 : (kind == 9) = false := beq_eq_false_iff_ne.2 (by omega)
      have k10 : (kind == 10) = false := beq_eq_false_iff_ne.2 (by omega)
      have k11 : (kind == 11) = false := beq_eq_false_iff_ne.2 (by omega)
      have k12 : (kind == 12) = false := beq_eq_false_iff_ne.2 (by omega)
      have k13 : (kind == 13) = false := beq_eq_false_iff_ne.2 (by omega)
      go_wp2_with fail
      go_ret
      exact ⟨rfl, StepEnd.same P (H.out).1 (H.out).2.1 KW.out⟩

end Go.Proofs.YtpilmkipbbengaaGreatDoor

/- driplaw: step for every kind up to KWait, in one. -/
namespace Go.Proofs.YtpilmkipbbengaaGreatDoor
open Go.RowKit

theorem step_any (pa : Rep) (P : Pumpy 25 32 46 14 78 pa) (B : Nat) (wb : Nat) (vp vd vl vm : Value) (ds : List Value) (ms : List Int) (ls : List Value) (ps : List PR) (kind pp a b c d ch : Int) (al : Option Addr) (lims : List Lim) (cl : Nat) (lock : Int) (s : ByteArray) (w : World)
    (h : WSt pa B w wb vp vd vl vm ds ms ls ps) (heq : ∀ (j : Nat) (q : PR), ps[j]? = some q → q.rx = q.ry) (hs : SeeL w al lims) (hnone : al = none → lims.length = 0 ∧ cl = 0) (hcap : lims.length ≤ cl) (hn : lims.length ≤ 5864062014634) (hd : ds.length ≤ 5800000000000) (hl : ls.length ≤ 5800000000000) (hpl : ps.length ≤ 5800000000000) (hk5 : kind ≤ 5) (hp1 : -9223372036854775808 ≤ pp) (hp2 : pp ≤ 9223372036854775807) :
    Calls Tryz.prog 18 #[.pointer (some ⟨wb, 0, none⟩), opV kind pp a b c d ch (.slice al lims.length cl) lock (.string s)] w fun r w' => r = .returned (.bool true) ∧ StepEnd pa B w wb ds.length ls.length ps.length ps w' := by
  by_cases hk : kind = 1
  · subst hk
    exact step_new pa P B wb vp vd vl vm ds ms ls ps pp a b c d ch al lims cl lock s w h heq hs hnone hcap hn hd hl hpl
  · have hk1 : (kind == 1) = false := beq_eq_false_iff_ne.2 hk
    cases ps with
    | nil => exact step_empty pa P B wb vp vd vl vm ds ms ls kind pp a b c d ch al lims.length cl lock s w h hk1 (beq_eq_false_iff_ne.2 (by omega))
    | cons q qs => exact step_pump pa P B wb vp vd vl vm ds ms ls (q :: qs) kind pp a b c d ch al lims.length cl lock s w h heq hd hl hpl (by simp) hk1 hk5 hp1 hp2

end Go.Proofs.YtpilmkipbbengaaGreatDoor

/- driplaw: played. -/
namespace Go.Proofs.YtpilmkipbbengaaGreatDoor
open Go.RowKit

/-- a step of a script, as a program reads it -/
structure OpR where
  k : Int
  p : Int
  a : Int
  b : Int
  c : Int
  d : Int
  ch : Int
  al : Option Addr
  lims : List Lim
  cl : Nat
  lock : Int
  s : ByteArray

def OpR.cells (r : OpR) : List Value := [I r.k, I r.p, I r.a, I r.b, I r.c, I r.d, I r.ch, .slice r.al r.lims.length r.cl, I r.lock, .string r.s]

structure OpR.Ok (w : World) (r : OpR) : Prop where
  see : SeeL w r.al r.lims
  none : r.al = none → r.lims.length = 0 ∧ r.cl = 0
  cap : r.lims.length ≤ r.cl
  n : r.lims.length ≤ 5864062014634
  p1 : -9223372036854775808 ≤ r.p
  p2 : r.p ≤ 9223372036854775807

def ScriptAt (w : World) (al : Option Addr) (rs : List OpR) : Prop :=
  rs = [] ∨ ∃ g o, al = some ⟨g, o, none⟩ ∧ g < w.heap.size ∧ ∀ (i : Nat) (r : OpR), rs[i]? = some r → (∀ j : Nat, j < 10 → w.cell? ⟨g, o + i * 10 + j, none⟩ = r.cells[j]?) ∧ r.Ok w

/-- a world of the law, whatever its lists: behind k steps -/
def WS (pa : Rep) (B : Nat) (wb : Nat) (k : Nat) (w : World) : Prop :=
  ∃ vp vd vl vm ds ms ls ps, WSt pa B w wb vp vd vl vm ds ms ls ps ∧ ds.length ≤ 4 * k ∧ ls.length ≤ k ∧ ps.length ≤ k ∧ ∀ (j : Nat) (q : PR), ps[j]? = some q → q.rx = q.ry

theorem WS.keep {pa : Rep} {fN fB fR fO fW : FuncId} (P : Pumpy fN fB fR fO fW pa) {B wb k : Nat} {w w' : World} (h : WS pa B wb k w) (f : Keep w w') : WS pa B wb k w' := by
  obtain ⟨vp, vd, vl, vm, ds, ms, ls, ps, h1, h2⟩ := h
  exact ⟨vp, vd, vl, vm, ds, ms, ls, ps, WSt.keep P h1 f, h2⟩

theorem WS.new (pa : Rep) (B wb : Nat) (w : World) (hb : Blk w wb #[.slice none 0 0, .slice none 0 0, .slice none 0 0, .slice none 0 0] 57) (hB : B ≤ wb) : WS pa B wb 0 w := by
  refine ⟨_, _, _, _, [], [], [], [], ⟨⟨hb, World.ownsRow_nil .., World.ownsRow_nil .., World.ownsRow_nil .., rfl, by simp, by simp⟩, ?_, World.ownsRow_nil .., by simp, by simp, by simp, by simp, by simp, by simp, ?_, by simp, by have := hb.lt; omega⟩, by simp, by simp, by simp, by simp⟩
  · constructor <;> simp [Value.ownBlock, Dis]
  · intro x hx
    simp [LF, Value.ownBlock] at hx
    omega

theorem step_ws (pa : Rep) (P : Pumpy 25 32 46 14 78 pa) (B wb k : Nat) (r : OpR) (w : World) (h : WS pa B wb k w) (hk : k ≤ 1400000000000) (ok : r.Ok w) (h5 : r.k ≤ 5) :
    Calls Tryz.prog 18 #[.pointer (some ⟨wb, 0, none⟩), opV r.k r.p r.a r.b r.c r.d r.ch (.slice r.al r.lims.length r.cl) r.lock (.string r.s)] w fun e w' => e = .returned (.bool true) ∧ WS pa B wb (k + 1) w' ∧ Frm (fun x => B ≤ x) w w' := by
  obtain ⟨vp, vd, vl, vm, ds, ms, ls, ps, h1, h2, h3, h4, h5'⟩ := h
  refine (step_any pa P B wb vp vd vl vm ds ms ls ps r.k r.p r.a r.b r.c r.d r.ch r.al r.lims r.cl r.lock r.s w h1 h5' ok.see ok.none ok.cap ok.n (by omega) (by omega) (by omega) h5 ok.p1 ok.p2).mono ?_
  rintro e w' ⟨rfl, vp, vd, vl, vm, ds', ms, ls', ps', g1, g2, g3, g4, g5, g6⟩
  exact ⟨rfl, ⟨vp, vd, vl, vm, ds', ms, ls', ps', g1, by omega, by omega, by omega, g5⟩, g6⟩

theorem ok_nil (w : World) (k a b : Int) : OpR.Ok w ⟨k, 0, a, b, 0, 0, 0, none, [], 0, 0, ⟨#[]⟩⟩ :=
  ⟨Or.inl rfl, fun _ => ⟨rfl, rfl⟩, Nat.le_refl _, by simp, by simp, by simp⟩

theorem ok_first (w : World) (T : TypeId) : OpR.Ok (w.alloc (.cells #[I 3, I 5, I 10, I 2, I 2, I 4] T)) ⟨1, 0, 0, 0, 0, 0, 2, some ⟨w.heap.size, 0, none⟩, [⟨3, 5, 10⟩, ⟨2, 2, 4⟩], 2, 3, ⟨#[]⟩⟩ := by
  have hb := Blk.new w #[I 3, I 5, I 10, I 2, I 2, I 4] T
  refine ⟨Or.inr ⟨w.heap.size, 0, rfl, hb.lt, ?_⟩, fun e => by simp at e, Nat.le_refl _, by simp, by simp, by simp⟩
  intro i l hi
  match i, hi with
  | 0, hi => simp at hi; subst hi; exact ⟨hb.cell 0, hb.cell 1, hb.cell 2⟩
  | 1, hi => simp at hi; subst hi; exact ⟨hb.cell 3, hb.cell 4, hb.cell 5⟩
  | i + 2, hi => simp at hi

theorem OpR.Ok.frm {w w' : World} {r : OpR} (h : r.Ok w) (f : Frm (fun x => w.heap.size ≤ x) w w') : r.Ok w' := by
  refine ⟨?_, h.none, h.cap, h.n, h.p1, h.p2⟩
  rcases h.see with e | ⟨g, o, e1, e2, e3⟩
  · exact Or.inl e
  · refine Or.inr ⟨g, o, e1, Nat.lt_of_lt_of_le e2 f.size, fun i l hl => ?_⟩
    obtain ⟨a1, a2, a3⟩ := e3 i l hl
    have hg : ¬ w.heap.size ≤ g := by omega
    exact ⟨f.cell a1 hg, f.cell a2 hg, f.cell a3 hg⟩

theorem script_at {w w' : World} {al : Option Addr} {rs : List OpR} (h : ScriptAt w al rs) (f : Frm (fun x => w.heap.size ≤ x) w w') {i : Nat} {r : OpR} (hi : rs[i]? = some r) :
    ∃ g o, al = some ⟨g, o, none⟩ ∧ (∀ j : Nat, j < 10 → w'.cell? ⟨g, o + i * 10 + j, none⟩ = r.cells[j]?) ∧ r.Ok w' := by
  rcases h with e | ⟨g, o, e1, e2, e3⟩
  · subst e; simp at hi
  · obtain ⟨a1, a2⟩ := e3 i r hi
    refine ⟨g, o, e1, fun j hj => ?_, a2.frm f⟩
    have hl : j < r.cells.length := by simpa [OpR.cells] using hj
    have a3 := a1 j hj
    rw [List.getElem?_eq_getElem hl] at a3 ⊢
    exact f.cell a3 (by show ¬ w.heap.size ≤ g; omega)

theorem looks_ws {pa : Rep} {fN fB fR fO fW : FuncId} (P : Pumpy fN fB fR fO fW pa) (B wb k : Nat) (w : World) (h : WS pa B wb k w) (hk : k ≤ 1400000000000) :
    Calls Tryz.prog 19 #[.pointer (some ⟨wb, 0, none⟩)] w fun r w' => r = .returned (.bool true) ∧ WS pa B wb k w' ∧ Keep w w' := by
  have h' := h
  obtain ⟨vp, vd, vl, vm, ds, ms, ls, ps, h1, h2, h3, h4, h5⟩ := h
  refine (looks_any wb vp vd vl vm ds ms ls w h1.L (by omega) (by omega)).mono ?_
  rintro e w' ⟨rfl, kw⟩
  exact ⟨rfl, WS.keep P h' kw, kw⟩

theorem WS.more {pa : Rep} {B wb k : Nat} {w : World} (h : WS pa B wb k w) {m : Nat} (hm : k ≤ m) : WS pa B wb m w := by
  obtain ⟨vp, vd, vl, vm, ds, ms, ls, ps, h1, h2, h3, h4, h5⟩ := h
  exact ⟨vp, vd, vl, vm, ds, ms, ls, ps, h1, by omega, by omega, by omega, h5⟩

set_option maxRecDepth 100000 in
set_option maxHeartbeats 3200000 in
theorem played_any (pa : Rep) (P : Pumpy 25 32 46 14 78 pa) (al : Option Addr) (rs : List OpR) (cap : Nat) (w : World)
    (h : ScriptAt w al rs) (hn : rs.length ≤ 1353245080300) :
    Calls Tryz.prog 8 #[.slice al rs.length cap, I 5] w fun r w' => r = .returned (.bool true) ∧ Frm (fun x => w.heap.size ≤ x) w w' := by
  have H := hide h
  clear h
  go_enter Tryz.func8, Tryz.ntmps8
  go_wp2_with fail
  refine (step_ws pa P w.heap.size w.heap.size 0 ⟨1, 0, 0, 0, 0, 0, 2, some ⟨w.heap.size + 1, 0, none⟩, [⟨3, 5, 10⟩, ⟨2, 2, 4⟩], 2, 3, ⟨#[]⟩⟩ _ (WS.new pa _ _ _ ((Blk.new _ _ _).alloc _) (Nat.le_refl _)) (by omega) (by simpa using ok_first (w.alloc (.cells #[.slice none 0 0, .slice none 0 0, .slice none 0 0, .slice none 0 0] 57)) _) (by simp)).mono ?_
  rintro e w1 ⟨rfl, s1, f1⟩
  have S1 := hide (And.intro s1 f1)
  clear s1 f1
  go_wp2_with fail
  refine (step_ws pa P w.heap.size w.heap.size 1 ⟨2, 0, 0, 3, 0, 0, 0, none, [], 0, 0, ⟨#[]⟩⟩ _ (S1.out).1 (by omega) (ok_nil _ _ _ _) (by simp)).mono ?_
  rintro e w2 ⟨rfl, s2, f2⟩
  have S2 := hide (And.intro s2 f2)
  clear s2 f2
  go_wp2_with fail
  refine (step_ws pa P w.heap.size w.heap.size 2 ⟨2, 0, 1, 3, 0, 0, 0, none, [], 0, 0, ⟨#[]⟩⟩ _ (S2.out).1 (by omega) (ok_nil _ _ _ _) (by simp)).mono ?_
  rintro e w3 ⟨rfl, s3, f3⟩
  have S3 := hide (And.intro s3 f3)
  clear s3 f3
  go_wp2_with fail
  refine (step_ws pa P w.heap.size w.heap.size 3 ⟨3, 0, 3, 0, 0, 0, 0, none, [], 0, 0, ⟨#[]⟩⟩ _ (S3.out).1 (by omega) (ok_nil _ _ _ _) (by simp)).mono ?_
  rintro e w4 ⟨rfl, s4, f4⟩
  have S4 := hide (And.intro s4 ((((S1.out).2.trans (S2.out).2).trans (S3.out).2).trans f4))
  clear s4 f4 S1 S2 S3
  go_wp2_with fail
  go_loopg [6, 7] rs.length (fun q ok i wr => ∃ j : Nat, q + j = rs.length ∧ i = I j ∧ ok = .bool true ∧ Hid (WS pa w.heap.size w.heap.size (4 + j) wr ∧ Frm (fun x => w.heap.size ≤ x) w wr))
  case atStart => exact ⟨0, by omega, rfl, rfl, hide ⟨(S4.out).1, (((Frm.refl _ _).alloc _).alloc _).trans (S4.out).2⟩⟩
  case round =>
    obtain ⟨j, hq, rfl, rfl, hk⟩ := hrel
    by_cases hj : j < rs.length
    · obtain ⟨r, hr⟩ : ∃ r, rs[j]? = some r := ⟨_, List.getElem?_eq_getElem hj⟩
      obtain ⟨g, o, rfl, hc, ok⟩ := script_at H.out (hk.out).2 hr
      have c0 := (hc 0 (by decide)).trans (show _ = some (I r.k) from rfl)
      have c1 := (hc 1 (by decide)).trans (show _ = some (I r.p) from rfl)
      have c2 := (hc 2 (by decide)).trans (show _ = some (I r.a) from rfl)
      have c3 := (hc 3 (by decide)).trans (show _ = some (I r.b) from rfl)
      have c4 := (hc 4 (by decide)).trans (show _ = some (I r.c) from rfl)
      have c5 := (hc 5 (by decide)).trans (show _ = some (I r.d) from rfl)
      have c6 := (hc 6 (by decide)).trans (show _ = some (I r.ch) from rfl)
      have c7 := (hc 7 (by decide)).trans (show _ = some (Value.slice r.al r.lims.length r.cl) from rfl)
      have c8 := (hc 8 (by decide)).trans (show _ = some (I r.lock) from rfl)
      have c9 := (hc 9 (by decide)).trans (show _ = some (Value.string r.s) from rfl)
      simp only [Nat.add_zero] at c0
      have HK := hide (And.intro hk.out (And.intro hq (And.intro ok hn)))
      clear hk hq hc ok hr hn
      by_cases h5 : r.k ≤ 5
      · have hb : 4 + j + 1 ≤ 1400000000000 := by have := (HK.out).2.2.2; omega
        have HB := hide hb
        have H5 := hide h5
        go_wp2_with fail
        refine (step_ws pa P w.heap.size w.heap.size (4 + j) r _ (HK.out).1.1 (by have := HB.out; omega) (HK.out).2.2.1 H5.out).mono ?_
        rintro e w5 ⟨rfl, s5, f5⟩
        have S5 := hide (And.intro s5 f5)
        clear s5 f5
        go_wp2_with fail
        refine (looks_ws P w.heap.size w.heap.size (4 + j + 1) _ (S5.out).1 HB.out).mono ?_
        rintro e w6 ⟨rfl, s6, k6⟩
        have S6 := hide (And.intro s6 k6)
        clear s6 k6
        go_wp2_with fail
        go_roundg (gk - 1)
        case measure => have := (HK.out).2.1; omega
        case rel => exact ⟨j + 1, by have := (HK.out).2.1; omega, by simp, rfl, hide ⟨(S6.out).1, ((HK.out).1.2.trans (S5.out).2).trans ((S6.out).2.mono (fun _ _ e => e.elim))⟩⟩
      · have hb : 4 + j ≤ 1400000000000 := by have := (HK.out).2.2.2; omega
        have HB := hide hb
        go_wp2_with fail
        refine (looks_ws P w.heap.size w.heap.size (4 + j) _ (HK.out).1.1 HB.out).mono ?_
        rintro e w6 ⟨rfl, s6, k6⟩
        have S6 := hide (And.intro s6 k6)
        clear s6 k6
        go_wp2_with fail
        go_roundg (gk - 1)
        case measure => have := (HK.out).2.1; omega
        case rel => exact ⟨j + 1, by have := (HK.out).2.1; omega, by simp, rfl, hide ⟨(S6.out).1.more (by omega), (HK.out).1.2.trans ((S6.out).2.mono (fun _ _ e => e.elim))⟩⟩
    · have HK := hide (And.intro hk.out hq)
      clear hk hq
      go_wp2_with fail
      go_ret
      exact ⟨rfl, (HK.out).1.2⟩

end Go.Proofs.YtpilmkipbbengaaGreatDoor

/- driplaw: Rates. -/
namespace Go.Proofs.YtpilmkipbbengaaGreatDoor
open Go.RowKit

set_option maxRecDepth 100000 in
theorem rates_any (pa : Rep) (P : Pumpy 25 32 46 14 78 pa) (al : Option Addr) (rs : List OpR) (cap : Nat) (w : World)
    (h : ScriptAt w al rs) (hn : rs.length ≤ 1353245080300) :
    Calls Tryz.prog 3 #[.slice al rs.length cap] w fun r w' => r = .returned (.bool true) ∧ Frm (fun x => w.heap.size ≤ x) w w' := by
  have C := hide (played_any pa P al rs cap w h hn)
  clear h hn
  go_enter Tryz.func3, Tryz.ntmps3
  go_wp2_with fail
  refine (C.out).mono ?_
  rintro e w2 ⟨rfl, f⟩
  have F := hide f
  clear f
  go_wp2_with fail
  go_ret
  exact ⟨rfl, F.out⟩

end Go.Proofs.YtpilmkipbbengaaGreatDoor
