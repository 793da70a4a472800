import Derived.Test.YtahiolfelcmikaaGreatStep
import Derived.Deep.RegionHeld3
namespace Go.Proofs.YtahiolfelcmikaaGreat
open Go.RowKit

set_option maxRecDepth 100000 in
set_option maxHeartbeats 3200000 in
theorem step_pump (pa : Rep) (P : Pumpy 17 34 23 27 29 pa) (B : Nat) (wb : Nat) (vp vd vl vm : Value) (ds : List Value) (ms : List Int) (ls : List Value) (ps : List PR) (kind pp a b c d ch : Int) (al : Option Addr) (nl cl : Nat) (lock : Int) (s : ByteArray) (w : World)
    (h : WSt pa B w wb vp vd vl vm ds ms ls ps) (heq : ∀ (j : Nat) (q : PR), ps[j]? = some q → q.rx = q.ry) (hd : ds.length ≤ 50000000) (hl : ls.length ≤ 50000000) (hpl : ps.length ≤ 50000000) (hne : 0 < ps.length) (hk1 : (kind == 1) = false) (hk5 : kind ≤ 5) (hp1 : -9223372036854775808 ≤ pp) (hp2 : pp ≤ 9223372036854775807) :
    Calls Tryz.prog 6 #[.pointer (some ⟨wb, 0, none⟩), opV kind pp a b c d ch (.slice al nl cl) lock (.string s)] w fun r w' => r = .returned (.bool true) ∧ StepEnd pa B w wb ds.length ls.length ps.length ps w' := by
  obtain ⟨g, cp, hvp, -, -, lg⟩ := row_cells h.pr hne
  have c0 : w.cell? ⟨wb, 0, none⟩ = some vp := by rw [h.L.head.cell]; rfl
  rw [hvp] at c0
  have lw := h.L.head.lt
  have hk12 : (kind == 12) = false := by simp; omega
  have hnz : ((ps.length : Int) == 0) = false := beq_eq_false_iff_ne.2 (by omega)
  have get : ∀ k : Nat, k < ps.length → ∃ q, ps[k]? = some q ∧ w.cell? ⟨g, k * 2, none⟩ = some (.pointer (some ⟨q.x, 0, none⟩)) ∧ w.cell? ⟨g, k * 2 + 1, none⟩ = some (.pointer (some ⟨q.y, 0, none⟩)) := by
    intro k hk
    obtain ⟨q, hq⟩ : ∃ q, ps[k]? = some q := ⟨_, List.getElem?_eq_getElem hk⟩
    obtain ⟨g', cap', hv, -, hc, -⟩ := row_at h.pr (fun _ => rfl) hq (by decide)
    rw [hvp] at hv
    simp at hv
    obtain ⟨rfl, rfl⟩ := hv
    have d0 := hc 0 (by decide)
    have d1 := hc 1 (by decide)
    simp [pairC] at d0 d1
    exact ⟨q, hq, d0, d1⟩
  obtain ⟨fx, hfx⟩ : ∃ fx : Nat → Nat, ∀ (k : Nat) (q : PR), ps[k]? = some q → fx k = q.x := ⟨fun k => match ps[k]? with | some q => q.x | none => 0, by intro k q h; simp [h]⟩
  obtain ⟨fy, hfy⟩ : ∃ fy : Nat → Nat, ∀ (k : Nat) (q : PR), ps[k]? = some q → fy k = q.y := ⟨fun k => match ps[k]? with | some q => q.y | none => 0, by intro k q h; simp [h]⟩
  have g0 : ∀ k : Nat, k < ps.length → w.cell? ⟨g, k * 2, none⟩ = some (.pointer (some ⟨fx k, 0, none⟩)) := by
    intro k hk
    obtain ⟨q, hq, d0, -⟩ := get k hk
    rw [hfx k q hq]; exact d0
  have g1 : ∀ k : Nat, k < ps.length → w.cell? ⟨g, k * 2 + 1, none⟩ = some (.pointer (some ⟨fy k, 0, none⟩)) := by
    intro k hk
    obtain ⟨q, hq, -, d1⟩ := get k hk
    rw [hfy k q hq]; exact d1
  have HF := hide (And.intro hfx hfy)
  have H := hide (And.intro h (And.intro heq hvp))
  have PK := hide (fun W => pick_any pp ps.length W hne (by omega) hp1 hp2)
  clear h heq hvp hp1 hp2 get hfx hfy
  have n1 : g ≠ w.heap.size := by omega
  have n2 : g ≠ w.heap.size + 1 := by omega
  have n3 : wb ≠ w.heap.size := by omega
  have n4 : wb ≠ w.heap.size + 1 := by omega
  go_enter Tryz.func6, Tryz.ntmps6
  go_upto_region 8 with fail
  go_cut [5] from 28 to 41 (fun s5 wx => Hid (∃ (i : Nat) (p : PR) (bx : Nat), s5 = .pointer (some ⟨bx, 0, none⟩) ∧ ps[i]? = some p ∧ Keep w wx ∧ Blk wx w.heap.size #[I kind, I pp, I a, I b, I c, I d, I ch, .slice al nl cl, I lock, .string s] 39 ∧ Blk wx bx #[.pointer (some ⟨p.x, 0, none⟩), .pointer (some ⟨p.y, 0, none⟩)] 46))
  case first =>
    go_region_held3 (fun w' => w'.cell? ⟨wb, 0, none⟩ = some (.slice (some ⟨g, 0, none⟩) ps.length cp) ∧ w'.cell? ⟨w.heap.size, 1, none⟩ = some (I pp) ∧ (∀ k : Nat, k < ps.length → w'.cell? ⟨g, k * 2, none⟩ = some (.pointer (some ⟨fx k, 0, none⟩))) ∧ (∀ k : Nat, k < ps.length → w'.cell? ⟨g, k * 2 + 1, none⟩ = some (.pointer (some ⟨fy k, 0, none⟩)))) (((try dsimp only); (repeat' apply And.intro) <;> (first | (go_keep; done) | (intro k hk; have e1 := g0 k hk; have e2 := g1 k hk; go_keep)))) (first | (go_at_call 10; refine (PK.out _).mono ?_; rintro e w' ⟨⟨k, hk, rfl⟩, hw'⟩; have hw8 := hw'.symm; subst hw8))
    all_goals (go_wp2_with fail; go_meet)
    all_goals
      obtain ⟨q, hq⟩ : ∃ q, ps[k]? = some q := ⟨_, List.getElem?_eq_getElem hk⟩
      have ex := (HF.out).1 k q hq
      have ey := (HF.out).2 k q hq
      rw [ex, ey]
      exact hide ⟨k, q, w.heap.size + 1, rfl, hq, (((Frm.refl _ _).alloc _).alloc _).drew, ((Blk.new _ _ _).alloc _).drew, by
        have hb := (Blk.new (w.alloc (.cells #[I kind, I pp, I a, I b, I c, I d, I ch, .slice al nl cl, I lock, .string s] 39)) #[.pointer (some ⟨q.x, 0, none⟩), .pointer (some ⟨q.y, 0, none⟩)] 46).drew
        simpa using hb⟩
  case rest =>
    obtain ⟨i, p, bx, rfl, hp, kw, bo, bp⟩ := hcut.out
    have o0 := (bo.cell 0).trans (show _ = some (I kind) from rfl)
    have o1 := (bo.cell 1).trans (show _ = some (I pp) from rfl)
    have o2 := (bo.cell 2).trans (show _ = some (I a) from rfl)
    have o3 := (bo.cell 3).trans (show _ = some (I b) from rfl)
    have o4 := (bo.cell 4).trans (show _ = some (I c) from rfl)
    have o5 := (bo.cell 5).trans (show _ = some (I d) from rfl)
    have o6 := (bo.cell 6).trans (show _ = some (I ch) from rfl)
    have o7 := (bo.cell 7).trans (show _ = some (Value.slice al nl cl) from rfl)
    have o8 := (bo.cell 8).trans (show _ = some (I lock) from rfl)
    have o9 := (bo.cell 9).trans (show _ = some (Value.string s) from rfl)
    have p0 := (bp.cell 0).trans (show _ = some (Value.pointer (some ⟨p.x, 0, none⟩)) from rfl)
    have p1 := (bp.cell 1).trans (show _ = some (Value.pointer (some ⟨p.y, 0, none⟩)) from rfl)
    have hk : kind = 2 ∨ kind = 3 ∨ kind = 4 ∨ kind = 5 ∨ kind ≤ 0 := by
      have : kind ≠ 1 := by simpa using hk1
      omega
    have KW := hide kw
    have HP := hide hp
    have HD := hide (And.intro hd hl)
    clear hk1 hk12 hk5 c0 lw hnz g0 g1 HF PK n1 n2 n3 n4 lg hne kw hp bo bp hcut hd hl hpl
    rcases hk with hk | hk | hk | hk | hk
    · subst hk
      have C := hide (fun W hw => moves_basal pa P B wb vp vd vl vm ds ms ls ps i p pp a b c d ch al nl cl lock s W hw HP.out (H.out).2.1)
      go_wp2_with fail
      refine (C.out _ (WSt.keep P (H.out).1 KW.out)).mono ?_
      rintro e w2 ⟨rfl, hs⟩
      go_wp2_with fail
      go_ret
      exact ⟨rfl, hs.after KW.out⟩
    · subst hk
      have C := hide (fun W hw => runs_any pa P B wb vp vd vl vm ds ms ls ps i p a W hw HP.out (H.out).2.1 (HD.out).1 (HD.out).2)
      go_wp2_with fail
      refine (C.out _ (WSt.keep P (H.out).1 KW.out)).mono ?_
      rintro e w2 ⟨rfl, hs⟩
      go_wp2_with fail
      go_ret
      exact ⟨rfl, hs.after KW.out⟩
    · subst hk
      have C := hide (fun W hw => asks_room pa P B wb vp vd vl vm ds ms ls ps i p pp a b c d ch al nl cl lock s W hw HP.out (H.out).2.1)
      go_wp2_with fail
      refine (C.out _ (WSt.keep P (H.out).1 KW.out)).mono ?_
      rintro e w2 ⟨rfl, hs⟩
      go_wp2_with fail
      go_ret
      exact ⟨rfl, hs.after KW.out⟩
    · subst hk
      have C := hide (fun W hw => asks_wait pa P B wb vp vd vl vm ds ms ls ps i p pp a b c d ch al nl cl lock s W hw HP.out (H.out).2.1)
      go_wp2_with fail
      refine (C.out _ (WSt.keep P (H.out).1 KW.out)).mono ?_
      rintro e w2 ⟨rfl, hs⟩
      go_wp2_with fail
      go_ret
      exact ⟨rfl, hs.after KW.out⟩
    · have k2 : (kind == 2) = false := beq_eq_false_iff_ne.2 (by omega)
      have k3 : (kind == 3) = false := beq_eq_false_iff_ne.2 (by omega)
      have k4 : (kind == 4) = false := beq_eq_false_iff_ne.2 (by omega)
      have k5 : (kind == 5) = false := beq_eq_false_iff_ne.2 (by omega)
      have k6 : (kind == 6) = false := beq_eq_false_iff_ne.2 (by omega)
      have k7 : (kind == 7) = false := beq_eq_false_iff_ne.2 (by omega)
      have k8 : (kind == 8) = false := beq_eq_false_iff_ne.2 (by omega)
      have k9 : (kind == 9) = false := beq_eq_false_iff_ne.2 (by omega)
      have k10 : (kind == 10) = false := beq_eq_false_iff_ne.2 (by omega)
      have k11 : (kind == 11) = false := beq_eq_false_iff_ne.2 (by omega)
      have k12 : (kind == 12) = false := beq_eq_false_iff_ne.2 (by omega)
      have k13 : (kind == 13) = false := beq_eq_false_iff_ne.2 (by omega)
      go_wp2_with fail
      go_ret
      exact ⟨rfl, StepEnd.same P (H.out).1 (H.out).2.1 KW.out⟩

end Go.Proofs.YtahiolfelcmikaaGreat
