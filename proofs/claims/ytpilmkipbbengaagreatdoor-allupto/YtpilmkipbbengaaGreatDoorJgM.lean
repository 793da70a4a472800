/- driplaw: opens. -/
import Derived.Test.YtpilmkipbbengaaGreatDoorJropen
import Derived.Test.YtpilmkipbbengaaGreatDoorWrM
import Derived.Test.YtpilmkipbbengaaGreatDoorStpM
namespace Go.Proofs.YtpilmkipbbengaaGreatDoor
open Go.RowKit

set_option maxRecDepth 100000 in
set_option maxHeartbeats 1600000 in
theorem opens_any (pa : Rep) (P : Pumpy 25 32 46 14 78 pa) {tab : World → Prop} (T : Telly 12 13 pa tab) (tk : ∀ {w w' : World}, tab w → Keep w w' → tab w') (RS : RReadSpec) (s : List UInt8) (hsl : s.length ≤ 100000000) (B : Nat) (wb : Nat) (vp vd vl vm : Value) (ds : List Value) (ms : List Int) (ls : List Value) (ps : List PR) (c : Int) (a : Option Addr) (lims : List Lim) (cap : Nat) (lock : Int) (w : World) (tb : tab w)
    (h : WSt pa B w wb vp vd vl vm ds ms ls ps) (heq : ∀ (j : Nat) (q : PR), ps[j]? = some q → q.rx = q.ry) (hs : SeeL w a lims) (hnone : a = none → lims.length = 0 ∧ cap = 0) (hcap : lims.length ≤ cap) (hn : lims.length ≤ 5864062014634) (_hd : ds.length ≤ 5800000000000) (hl : ls.length ≤ 5800000000000) (hpl : ps.length ≤ 5800000000000) :
    Calls Tryz.prog 38 #[.pointer (some ⟨wb, 0, none⟩), cfgV c a lims.length cap lock, .string ⟨s.toArray⟩] w fun r w' => r = .returned (.bool true) ∧ StepEnd pa B w wb ds.length ls.length ps.length ps w' := by
  obtain ⟨iP, hiP, hzP0, hzP1, hzP2⟩ := info_parts infoPair
  have clend := fun (W : World) (k : Keep w W) => lend_any c a lims cap lock W (hs.frm k (fun _ _ _ e => e)) hnone hn hcap
  have CL := hide clend
  have H := hide (And.intro h (And.intro heq (And.intro hs hnone)))
  clear clend h heq hs hnone
  go_enter Tryz.func38, Tryz.ntmps38
  go_wp2_with fail
  refine (CL.out _ (by exact (Frm.refl _ _).alloc _)).mono ?_
  rintro e w1 ⟨g, cg, rfl, hrow, hg, k1⟩
  have k01 : Keep w w1 := ((Frm.refl _ _).alloc _).trans k1
  have bx : Blk w1 w.heap.size #[I c, .slice a lims.length cap, I lock] 30 := k1.blk (Blk.new _ _ _)
  have b0 : w1.cell? ⟨w.heap.size, 0, none⟩ = some (I c) := by rw [bx.cell]; rfl
  have b1 : w1.cell? ⟨w.heap.size, 1, none⟩ = some (.slice a lims.length cap) := by rw [bx.cell]; rfl
  have b2 : w1.cell? ⟨w.heap.size, 2, none⟩ = some (I lock) := by rw [bx.cell]; rfl
  have lbx := bx.lt
  simp at hg
  have cnew := fun (W : World) (k : Keep w1 W) => T.opens c (some ⟨g, 0, none⟩) lims cg lock s W (tk tb (k01.trans k)) (see_lent (row_frm hrow k (fun _ _ e => e))) (by simp) hn (by omega)
  have CN := hide cnew
  have ONE := hide (And.intro k01 (And.intro bx hrow))
  clear cnew k01 bx hrow k1
  go_wp2_with fail
  refine (CN.out _ (by exact (Frm.refl _ _).alloc _)).mono ?_
  rintro e w2 ⟨k2, hx⟩
  have k12 : Keep w1 w2 := ((Frm.refl _ _).alloc _).trans k2
  have bx2 := k12.blk (ONE.out).2.1
  have d0 : w2.cell? ⟨w.heap.size, 0, none⟩ = some (I c) := by rw [bx2.cell]; rfl
  have d1 : w2.cell? ⟨w.heap.size, 1, none⟩ = some (.slice a lims.length cap) := by rw [bx2.cell]; rfl
  have d2 : w2.cell? ⟨w.heap.size, 2, none⟩ = some (I lock) := by rw [bx2.cell]; rfl
  have k02 : Keep w w2 := (ONE.out).1.trans k12
  have cref := rOpen_any RS c a lims cap lock s w2 ((H.out).2.2.1.frm k02 (fun _ _ _ e => e)) (H.out).2.2.2 hn hsl
  have CRF := hide cref
  have TWO := hide (And.intro k02 (And.intro k12 bx2))
  clear cref k02 k12 bx2 k2
  have cwh : ∀ (W : World) (k : Keep w W) (k1W : Keep w1 W), Calls Tryz.prog 71 #[.pointer (some ⟨wb, 0, none⟩), .slice (some ⟨g, 0, none⟩) (lims.length + 8) cg, .slice a lims.length cap] W fun r w' => r = .returned (.bool true) ∧ WholeEnd W wb vp vd vl vm ds ms ls g (lims.length + 8) cg w' := by
    intro W k k1W
    have hW := WSt.keep P (H.out).1 k
    refine whole_any wb vp vd vl vm ds ms ls g cg a cap lims W hW.L hW.S (row_frm (ONE.out).2.2 k1W (fun _ _ e => e)) (fun e => by have := (H.out).1.ltL g e; omega) ((H.out).2.2.1.frm k (fun _ _ _ e => e)) ?_ hn hl (fun x hx => (hW.pr.lt x hx).2)
    intro hne g' o e
    rcases (H.out).2.2.1 with e' | ⟨g2, o2, e2, hlt, -⟩
    · exact absurd e' hne
    · rw [e2] at e; injection e with e; injection e with e _ _; omega
  have CWH := hide cwh
  clear cwh
  cases ho : opened c lims lock s with
  | error p =>
    obtain ⟨n, x⟩ := p
    rw [ho] at hx
    have hx : _ = Ending.returned (.tuple #[.pointer none, I n, I x]) := hx
    subst hx
    have HO := hide ho
    clear ho
    go_wp2_with fail
    refine (CRF.out).mono ?_
    rintro e w3 ⟨k3, hy⟩
    rw [HO.out] at hy
    have hy : e = Ending.returned (.tuple #[.pointer none, I n, I x]) := hy
    subst hy
    · have f1 : w3.cell? ⟨w.heap.size, 1, none⟩ = some (.slice a lims.length cap) := k3.cell d1 (fun e => e)
      go_wp2_with fail
      refine (CWH.out w3 ((TWO.out).1.trans k3) ((TWO.out).2.1.trans k3)).mono ?_
      rintro e w4 ⟨rfl, hwh⟩
      go_wp2_with (go_at_call 72; refine (num_any _ _).mono ?_; rintro e w7 ⟨rfl, hw7⟩; subst hw7)
      go_ret
      have h3 := WSt.keep P (H.out).1 ((TWO.out).1.trans k3)
      obtain ⟨vl', ls', hw, hll, hfr, hLFn⟩ := WSt.wholed P h3 hwh (by have := (H.out).1.bB; omega) (fun i p hp e => by have := WSt.ltF P (H.out).1 hp g e; omega) (fun e => by have := ((H.out).1.pr.lt g e).2; omega)
      refine ⟨rfl, vp, vd, vl', vm, ds, ms, ls', ps, hw, by omega, by omega, by omega, (H.out).2.1, ?_⟩
      refine (((TWO.out).1.trans k3).mono (T := fun x => B ≤ x) (fun _ _ e => e.elim)).trans (hfr.mono ?_)
      rintro x - (e | e | e)
      · exact (H.out).1.bl x (Or.inl e)
      · exact (H.out).1.bl x (Or.inr (Or.inr (Or.inr (Or.inl e))))
      · have := (H.out).1.bB; omega
  | ok R =>
    rw [ho] at hx
    obtain ⟨bx, Fx, rfl, hpx, hFx⟩ := hx
    have HO := hide ho
    clear ho
    go_wp2_with fail
    refine (CRF.out).mono ?_
    rintro e w3 ⟨k3, hy⟩
    rw [HO.out] at hy
    obtain ⟨bY, Fy, rfl, hpy, hFy⟩ := hy
    · have f1 : w3.cell? ⟨w.heap.size, 1, none⟩ = some (.slice a lims.length cap) := k3.cell d1 (fun e => e)
      go_upto_region 5 with (go_at_call 71; refine (CWH.out w3 ((TWO.out).1.trans k3) ((TWO.out).2.1.trans k3)).mono ?_; rintro e w4 ⟨rfl, hwh⟩)
      have h3 := WSt.keep P (H.out).1 ((TWO.out).1.trans k3)
      obtain ⟨vl', ls', hw, hll, hfr, hLFn⟩ := WSt.wholed P h3 hwh (by have := (H.out).1.bB; omega) (fun i p hp e => by have := WSt.ltF P (H.out).1 hp g e; omega) (fun e => by have := ((H.out).1.pr.lt g e).2; omega)
      have hrowlt := ((ONE.out).2.2.lt g rfl).2
      have s12 := (TWO.out).2.1.size
      simp at hFx
      have nF : ∀ x, w1.heap.size ≤ x → ¬ (x = wb ∨ vl.ownBlock = some x ∨ x = g) := by
        rintro x hx (e | e | e)
        · have := (H.out).1.ltL x (Or.inl e); omega
        · have := (H.out).1.ltL x (Or.inr (Or.inr (Or.inr (Or.inl e)))); omega
        · omega
      have qx : pa w4 Fx bx R := P.frm (P.frm hpx k3 (fun _ _ e => e)) hfr (fun x hx => nF x (by have := hFx x hx; omega))
      have qy : ra w4 Fy bY R := ref_pumpy.frm hpy hfr (fun x hx => nF x (by have := hFy x hx; have := hrowlt; omega))
      have hoffq : ∀ x, (Fx x ∨ Fy x) → ¬ LF wb vp vd vl' vm ds ls' x := by
        intro x hx hL
        have s3 := k3.size
        have h1 : w1.heap.size ≤ x ∧ x < w3.heap.size := by
          rcases hx with e | e
          · have := hFx x e; have := P.lt hpx x e; omega
          · have := hFy x e; have := ref_pumpy.lt hpy x e; omega
        rcases hLFn x hL with e | e | e
        · have := (H.out).1.ltL x e; omega
        · omega
        · omega
      have qsep : ∀ x, Fx x → ¬ Fy x := fun x hx hy => by
        have h1 := P.lt hpx x hx; have h2 := hFy x hy; omega
      have h4 : (w4.cell? ⟨wb, 0, none⟩ = some vp) := by rw [hw.L.head.cell]; rfl
      obtain ⟨ap, cp, hvp⟩ := row_slice hw.pr
      rw [hvp] at h4
      have fz := hw.L.head.frozen 0
      have lw4 := hw.L.head.lt
      have hF4 : Frm (fun x => B ≤ x) w w4 := by
        refine (((TWO.out).1.trans k3).mono (T := fun x => B ≤ x) (fun _ _ e => e.elim)).trans (hfr.mono ?_)
        rintro x - (e | e | e)
        · exact (H.out).1.bl x (Or.inl e)
        · exact (H.out).1.bl x (Or.inr (Or.inr (Or.inr (Or.inl e))))
        · have := (H.out).1.bB; omega
      have hqn : ∀ x, (Fx x ∨ Fy x) → w1.heap.size ≤ x := fun x hx => by
        rcases hx with e | e
        · have := hFx x e; omega
        · have := hFy x e; omega
      have FIN := hide (And.intro hw (And.intro qx (And.intro qy (And.intro qsep (And.intro hF4 (And.intro hqn (And.intro hll hoffq)))))))
      have HVP := hide hvp
      have hg1 : w.heap.size < w1.heap.size := lbx
      clear qx qy qsep hF4 hqn hoffq hLFn hw hfr h3 hwh hpx hpy hFx hFy nF hvp hll hrowlt s12 k3 b0 b1 b2 d0 d1 d2
      go_wp2_with (first | (go_at_call 72; refine (num_any _ _).mono ?_; rintro e w7 ⟨rfl, hw7⟩; have hw8 := hw7.symm; subst hw8) | (at_builtin; refine wpList_append_row _ rfl (.tmp 67) (.tmp 71) 52 rfl 92 iP (.agg #[.pointer none, .pointer none]) 2 16 Tryz.underlying52 hiP hzP0 hzP1 hzP2 rfl (by decide) (.slice ap ps.length cp) ps.length (ps.flatMap pairC) rfl (by rw [← HVP.out]; exact row_frm (FIN.out).1.pr (show Keep _ _ from (Frm.refl _ _).alloc _) (fun _ _ e => e)) ⟨w4.heap.size, 0, none⟩ 1 1 [.pointer (some ⟨bx, 0, none⟩), .pointer (some ⟨bY, 0, none⟩)] rfl rfl (cell_news _ [.pointer (some ⟨bx, 0, none⟩), .pointer (some ⟨bY, 0, none⟩)] _ _ (by simp)) (by intro u hu; simp at hu; rcases hu with rfl | rfl <;> rfl) (by unfold maxLen; omega) (by omega) ?_; intro v5 w5 hr5 hg5 hn5; rw [← HVP.out] at hg5 hn5; obtain ⟨a5, p5, hv5⟩ := row_slice hr5; subst hv5; have bb5 := ((show Keep _ _ from (Frm.refl _ _).alloc _).blk (FIN.out).1.L.head).frm (grown_frm hg5) (FIN.out).1.S.bp; have c50 : w5.cell? ⟨wb, 0, none⟩ = some (.slice ap ps.length cp) := (by { rw [bb5.cell, ← HVP.out]; rfl }); have f50 := bb5.frozen 0; have FIVE := hide (And.intro hr5 (And.intro hg5 hn5)); clear hr5 hg5 hn5 bb5))
      go_ret
      obtain ⟨hw, qx, qy, qsep, hF4, hqn, hll, hoffq⟩ := FIN.out
      obtain ⟨hr5, hg5, hn5⟩ := FIVE.out
      have hbB := (H.out).1.bB
      have rok := opened_ok HO.out
      obtain ⟨hw5, hF5⟩ := WSt.added P hw (show Keep _ _ from (Frm.refl _ _).alloc _) hg5 hn5 ⟨bx, bY, Fx, Fy, R, R⟩ hr5 qx qy ⟨rok.1, rok.2.1, rok.1, rok.2.1⟩
        hoffq qsep (fun i p hp x hx hq => by have := WSt.ltF P (H.out).1 hp x hx; have := hqn x hq; omega) (fun x hx => by have := hqn x hx; omega)
      refine ⟨rfl, _, _, _, _, _, _, _, _, hw5, by omega, by omega, by simp, ?_, hF4.trans hF5⟩
      intro j q hq
      by_cases hj : j < ps.length
      · rw [List.getElem?_append_left hj] at hq; exact (H.out).2.1 j q hq
      · rw [List.getElem?_append_right (by omega)] at hq
        have := List.mem_of_getElem? hq
        simp at this; subst this; rfl

end Go.Proofs.YtpilmkipbbengaaGreatDoor

/- driplaw: KTell. -/
namespace Go.Proofs.YtpilmkipbbengaaGreatDoor
open Go.RowKit

theorem ref_tell {w : World} {F : Nat → Prop} {b : Nat} {R : RSt} (h : ra w F b R) (ok : R.Ok) : Calls Tryz.prog 43 #[.pointer (some ⟨b, 0, none⟩)] w fun e w' => e = .returned (.string ⟨(jtext R.doses R.now).toArray⟩) ∧ Keep w w' := by
  obtain ⟨vl, vd, vc, vo, h, -⟩ := h
  exact rJournal_any b R vl vd vc vo w h ok

set_option maxRecDepth 100000 in
set_option maxHeartbeats 1600000 in
theorem asks_tell (pa : Rep) (P : Pumpy 25 32 46 14 78 pa) {tab : World → Prop} (T : Telly 12 13 pa tab) (tk : ∀ {w w' : World}, tab w → Keep w w' → tab w') (B : Nat) (wb : Nat) (vp vd vl vm : Value) (ds : List Value) (ms : List Int) (ls : List Value) (ps : List PR) (i : Nat) (p : PR) (pp a b c d ch : Int) (al : Option Addr) (nl cl : Nat) (lock : Int) (s : ByteArray) (w : World) (tb : tab w)
    (h : WSt pa B w wb vp vd vl vm ds ms ls ps) (hp : ps[i]? = some p) (heq : ∀ (j : Nat) (q : PR), ps[j]? = some q → q.rx = q.ry) :
    Calls Tryz.prog 41 #[prV p, opV 11 pp a b c d ch (.slice al nl cl) lock (.string s)] w fun r w' => r = .returned (.bool true) ∧ StepEnd pa B w wb ds.length ls.length ps.length ps w' := by
  obtain ⟨ok1, ok2, ok3, ok4⟩ := h.ok i p hp
  have hR := heq i p hp
  have CX : Hid (∀ W, Keep w W → Calls Tryz.prog 12 #[.pointer (some ⟨p.x, 0, none⟩)] W fun e w' => e = .returned (.string ⟨(jtext p.rx.doses p.rx.now).toArray⟩) ∧ Hid (Keep W w')) := fun W k => T.tell W p.fx p.x p.rx (tk tb k) ((WSt.keep P h k).rx i p hp) ok1 ok2
  have CY : Hid (∀ W, Keep w W → Calls Tryz.prog 43 #[.pointer (some ⟨p.y, 0, none⟩)] W fun e w' => e = .returned (.string ⟨(jtext p.rx.doses p.rx.now).toArray⟩) ∧ Hid (Keep W w')) := fun W k => by
    rw [hR]
    exact ref_tell ((WSt.keep P h k).ry i p hp) ok3
  have H := hide (And.intro h heq)
  clear h ok1 ok2 ok3 ok4 hR hp heq tb
  generalize jtext p.rx.doses p.rx.now = t at *
  go_enter Tryz.func41, Tryz.ntmps41
  go_wp2_with fail
  refine (CX.out _ (by exact ((Frm.refl _ _).alloc _).alloc _)).mono ?_
  rintro e w2 ⟨rfl, m1⟩
  have k2 : Keep w w2 := (((Frm.refl _ _).alloc _).alloc _).trans m1.out
  have bp : Blk w2 w.heap.size #[.pointer (some ⟨p.x, 0, none⟩), .pointer (some ⟨p.y, 0, none⟩)] 92 := Keep.blk m1.out ((Blk.new _ _ _).alloc _)
  have p1 : w2.cell? ⟨w.heap.size, 1, none⟩ = some (.pointer (some ⟨p.y, 0, none⟩)) := by rw [bp.cell]; rfl
  have K2 := hide k2
  clear m1 bp k2
  go_wp2_with fail
  refine (CY.out _ K2.out).mono ?_
  rintro e w3 ⟨rfl, m2⟩
  go_wp2_with fail
  go_ret
  exact ⟨rfl, StepEnd.same P (H.out).1 (H.out).2 ((K2.out).trans m2.out)⟩

set_option maxRecDepth 100000 in
set_option maxHeartbeats 800000 in
theorem step_open (pa : Rep) (P : Pumpy 25 32 46 14 78 pa) {tab : World → Prop} (T : Telly 12 13 pa tab) (tk : ∀ {w w' : World}, tab w → Keep w w' → tab w') (RS : RReadSpec) (B : Nat) (wb : Nat) (vp vd vl vm : Value) (ds : List Value) (ms : List Int) (ls : List Value) (ps : List PR) (pp a b c d ch : Int) (al : Option Addr) (lims : List Lim) (cl : Nat) (lock : Int) (s : List UInt8) (w : World) (tb : tab w)
    (h : WSt pa B w wb vp vd vl vm ds ms ls ps) (heq : ∀ (j : Nat) (q : PR), ps[j]? = some q → q.rx = q.ry) (hs : SeeL w al lims) (hnone : al = none → lims.length = 0 ∧ cl = 0) (hcap : lims.length ≤ cl) (hn : lims.length ≤ 5864062014634) (hd : ds.length ≤ 5800000000000) (hl : ls.length ≤ 5800000000000) (hpl : ps.length ≤ 5800000000000) (hsl : s.length ≤ 100000000) :
    Calls Tryz.prog 18 #[.pointer (some ⟨wb, 0, none⟩), opV 12 pp a b c d ch (.slice al lims.length cl) lock (.string ⟨s.toArray⟩)] w fun r w' => r = .returned (.bool true) ∧ StepEnd pa B w wb ds.length ls.length ps.length ps w' := by
  have C := hide (fun (W : World) (k : Keep w W) => opens_any pa P T tk RS s hsl B wb vp vd vl vm ds ms ls ps ch al lims cl lock W (tk tb k) (WSt.keep P h k) heq (hs.frm k (fun _ _ _ e => e)) hnone hcap hn hd hl hpl)
  clear h heq hs hnone tb
  go_enter Tryz.func18, Tryz.ntmps18
  go_wp2_with fail
  refine (C.out _ (by exact (Frm.refl _ _).alloc _)).mono ?_
  rintro e w2 ⟨rfl, hs⟩
  go_wp2_with fail
  go_ret
  exact ⟨rfl, hs.after ((Frm.refl _ _).alloc _)⟩

end Go.Proofs.YtpilmkipbbengaaGreatDoor
