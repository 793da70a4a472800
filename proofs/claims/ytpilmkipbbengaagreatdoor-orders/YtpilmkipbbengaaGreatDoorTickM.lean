/- give, with orders. -/
import Derived.Test.YtpilmkipbbengaaGreatDoorDueM
import Derived.Test.YtpilmkipbbengaaGreatDoorDM
namespace Go.Proofs.YtpilmkipbbengaaGreatDoor
open Go.RowKit

structure GiveEnd (w w' : World) (b : Nat) (D : GSt) (vc vw : Value) (ods ods' : List OrdD) (ws' : List Wd) (vg : Value) (lims : List Lim) (ds : List Ds) (now : Int) : Prop where
  lie : QAt w' b { D with ws := ws', lock := ⟨D.lock.v, vg⟩ } vc vw ods' ds
  fits : Fits ws' lims ds now
  foot : ∀ x, WsF vw ws' x ↔ WsF vw D.ws x
  new : ∀ x, vg.ownBlock = some x → D.lock.g.ownBlock = some x ∨ w.heap.size ≤ x
  frm : Frm (QF b D vc vw ods) w w'

/-- the dose is in the list -/
structure GiveMid (w wx : World) (b : Nat) (D : GSt) (vc vw : Value) (ods : List OrdD) (ds : List Ds) (vg : Value) : Prop where
  lie : QAt wx b { D with lock := ⟨D.lock.v, vg⟩ } vc vw ods ds
  frm : Frm (QF b D vc vw ods) w wx
  new : ∀ x, vg.ownBlock = some x → D.lock.g.ownBlock = some x ∨ w.heap.size ≤ x

set_option maxRecDepth 100000 in
set_option maxHeartbeats 3200000 in
theorem ogive_all (b : Nat) (D : GSt) (vc vw : Value) (ods : List OrdD) (lims : List Lim) (ds : List Ds) (a : Int) (k : Nat) (w : World) (h : QAt w b D vc vw ods ds) (f : OFine D.now ods) (hk : k < D.chs.length) (k3 : D.chs.length ≤ 4)
    (hf : Fits D.ws lims ds D.now) (hl : ∀ l ∈ lims, 1 ≤ l.win) (a0 : 0 ≤ a) (a1 : a ≤ 1000) (ha : a ≤ rroom ds lims k D.now) (nl : D.ws.length ≤ 6) (hnd : ds.length ≤ 100000) :
    Calls Tryz.prog 59 #[ptr b 0, I k, I a] w fun e w' => e = .returned (.tuple #[]) ∧ ∃ ws' vg, GiveEnd w w' b D vc vw ods (shareL D.now k ods a).1 ws' vg lims (ds ++ [⟨D.now, k, a⟩]) D.now := by
  obtain ⟨i, hi, hz0, hz1, hz2⟩ := info_parts infoD
  obtain ⟨c, hc⟩ : ∃ c, D.chs[k]? = some c := ⟨_, List.getElem?_eq_getElem hk⟩
  obtain ⟨g, cap, hv, -, -, c2, -, -, -, -⟩ := h.p.g.chan hc
  obtain ⟨av, cp, rfl⟩ := row_slice h.p.g.ws.row
  obtain ⟨ad, cpd, hvd⟩ := row_slice h.row
  obtain ⟨sl, ag⟩ := h.p.g.ag
  have hn : w.cell? ⟨b, 0, none⟩ = some (I D.now) := by rw [ag.head.cell]; rfl
  have h8 : w.cell? ⟨b, 8, none⟩ = some (.slice ad ds.length cpd) := by rw [ag.head.cell, ← hvd]; rfl
  have lb := ag.head.lt
  have HR := hide (And.intro h (And.intro hvd ag.head))
  have H := hide (And.intro hf (And.intro hl ha))
  have HF := hide (And.intro hv hc)
  have bd : (Value.slice ad ds.length cpd).ownBlock ≠ some b := fun e => by
    have hr := h.row
    rw [hvd] at hr
    have := (row_ty hr e).uniq ⟨_, ag.head⟩
    revert this; decide
  have BD := hide bd
  clear hf hl ha h ag hv hc c2 hvd bd
  go_enter Tryz.func59, Tryz.ntmps59
  go_wp2_with fail
  go_cut [] from 8 to 23 (fun wx => Hid (∃ vg, GiveMid w wx b D vc (.slice av D.ws.length cp) ods (ds ++ [⟨D.now, k, a⟩]) vg))
  case first =>
    go_region_law (refine step_append_row rfl (.tmp 12) (.tmp 20) 35 rfl 100 i (.agg #[I 0, I 0, I 0]) 3 24 Tryz.underlying35 hi hz0 hz1 hz2 rfl (by decide) (.slice ad ds.length cpd) ds.length (ds.flatMap dsC) (by first | simp [Act.eval] | simp [Act.eval, Act.put]) (by rw [← (HR.out).2.1]; exact row_frm (HR.out).1.row (show Keep _ _ from ((Frm.refl _ _).alloc _).drew) (fun _ _ e => e)) ⟨w.heap.size, 0, none⟩ 1 1 [I D.now, I k, I a] (by first | simp [Act.eval] | simp [Act.eval, Act.put]) rfl (by exact cell_news _ [I D.now, I k, I a] _ _ rfl) (by intro u hu; simp at hu; rcases hu with rfl | rfl | rfl <;> rfl) (by unfold maxLen; omega) (by omega) ?_; intro v5 w5 hown5 hgr5 hnew5; obtain ⟨a5, cp5, hv5⟩ := row_slice hown5; subst hv5; have bb5 := ((show Keep _ _ from ((Frm.refl _ _).alloc _).drew).blk (HR.out).2.2).frm (grown_frm hgr5) (fun e => BD.out e); have c58 : w5.cell? ⟨b, 8, none⟩ = some (.slice ad ds.length cpd) := (by { rw [bb5.cell, ← (HR.out).2.1]; rfl }); have f58 := bb5.frozen 8; have l58 := bb5.lt; have FIVE := hide (And.intro hown5 (And.intro hgr5 hnew5)); clear hown5 hgr5 hnew5 bb5)
    all_goals (go_wp2_with fail; go_meet)
    all_goals
      have G5 := (FIVE.out).2
      rw [← (HR.out).2.1] at G5
      obtain ⟨m1, m2, m3⟩ := (HR.out).1.more (show Keep _ _ from ((Frm.refl _ _).alloc _).drew) (d := ⟨D.now, k, a⟩) (FIVE.out).1 G5.1 G5.2
      exact ⟨_, m1, m2, m3⟩
  case rest =>
    obtain ⟨vg, hm⟩ := hcut.out
    obtain ⟨hv, hc⟩ := HF.out
    obtain ⟨g2, cap2, hv', -, -, c2, -, -, -, -⟩ := hm.lie.p.g.chan hc
    rw [hv] at hv'; injection hv' with hv1 hv2 hv3; injection hv1 with hv1; injection hv1 with hv1
    subst hv1
    obtain ⟨slx, agx⟩ := hm.lie.p.g.ag
    have y0 : wc.cell? ⟨b, 0, none⟩ = some (I D.now) := by rw [agx.head.cell]; rfl
    have hch : wc.cell? ⟨b, 2, none⟩ = some (.slice (some ⟨g, 0, none⟩) D.chs.length cap) := by rw [agx.head.cell, ← hv]; rfl
    have lbx := agx.head.lt
    have SH : Hid (∀ m : Nat, Calls Tryz.prog 96 #[ptr g (k * 5), I D.now, I a] (wc.drewN m) fun e w1 => e = .returned (.tuple #[]) ∧ w1.cell? ⟨b, 3, none⟩ = some (.slice av D.ws.length cp) ∧ Hid (QAt w1 b { D with lock := ⟨D.lock.v, vg⟩ } vc (.slice av D.ws.length cp) (shareL D.now k ods a).1 (ds ++ [⟨D.now, k, a⟩]) ∧ Frm (fun x => ∃ o ∈ ods, x = o.blk) wc w1)) := by
      intro m
      have kp : Keep wc (wc.drewN m) := (Frm.refl _ _).drewN _
      have h' := hm.lie.keep kp
      refine (share_any b vc (sosOf D.chs) D.vo D.xt D.nv ods g k D.now a c.so (wc.drewN m) h'.p.o f (sosOf_get hc) (kp.cell c2 id) a0 a1).mono ?_
      rintro e w1 ⟨rfl, q1, q2⟩
      have g1 := h'.p.g.frmB h'.p.o q2
      obtain ⟨sl1, ag1⟩ := g1.ag
      refine ⟨rfl, by rw [ag1.head.cell]; rfl, ⟨⟨g1, q1⟩, ?_⟩, (kp.mono fun _ _ e => e.elim).trans q2⟩
      refine h'.rowP (q2.mono fun x _ ⟨o, ho, e⟩ => ?_)
      obtain ⟨j, hj⟩ := List.getElem?_of_mem ho
      exact Or.inr (Or.inl ⟨j, o, hj, Or.inl e⟩)
    have HM := hide hm
    clear hcut hm hv hc c2 agx hv2 hv3 HF HR BD h8 lb
    go_wp2_with fail
    go_region_with (go_at_call 96; refine (SH.out _).mono ?_; rintro e w1 ⟨rfl, c3, hz⟩)
    all_goals
      have HZ := hide (And.intro (hz.out).1 (hz.out).2)
      clear hz
      go_wp2_with fail
      go_loopg [7, 41] D.ws.length (fun q _ i wr => ∃ j : Nat, q + j = D.ws.length ∧ i = I j ∧ Hid (∃ ws', Turn w1 wr (.slice av D.ws.length cp) D.ws ws' lims j fun W l => Fit W l (ds ++ [⟨D.now, k, a⟩]) D.now))
      case atStart => exact ⟨0, by omega, rfl, D.ws, Turn.start _ _ (HZ.out).1.p.g.ws (Frm.refl _ _)⟩
      case round =>
        obtain ⟨j, hkj, rfl, hst⟩ := hrel
        obtain ⟨ws', ht⟩ := hst.out
        have hlen := ht.len
        by_cases hj : j < D.ws.length
        · obtain ⟨x, hx⟩ : ∃ x, ws'[j]? = some x := ⟨_, List.getElem?_eq_getElem (by omega)⟩
          have hx0 : D.ws[j]? = some x := by rw [← ht.rest j (Nat.le_refl _)]; exact hx
          obtain ⟨l, hl, hfit⟩ := (H.out).1.fit hx0
          obtain ⟨g', cap', hv, -, hcell⟩ := ht.lie.cell hx
          injection hv with hv1 hv2 hv3
          subst hv1
          have hwin := ht.lie.each j x hx
          have CC := hide (counts_any x.1 x.2.1 x.2.2 k wr hwin hfit.ok (by omega) (by omega))
          have GG := hide (give_any x.1 x.2.1 x.2.2 a wr hwin hfit.ok a0 a1)
          have hml := List.mem_of_getElem? hl
          have hwl := (H.out).2.1 l hml
          have SK : Hid (cnt x.2.2.ch (k : Int).toNat = false → ∃ k' : Nat, k' < gk ∧ ∃ j' : Nat, k' + j' = D.ws.length ∧ I ((j : Int) + 1) = I j' ∧ Hid (∃ ws', Turn w1 wr (.slice (some ⟨g', 0, none⟩) D.ws.length cp) D.ws ws' lims j' fun W l => Fit W l (ds ++ [⟨D.now, k, a⟩]) D.now)) := by
            intro h1
            rw [hfit.ch, Int.toNat_natCast] at h1
            exact ⟨gk - 1, by omega, j + 1, by omega, by simp, ws', ht.skip hx hl (hfit.not _ (by simpa using h1))⟩
          have NX : Hid (cnt x.2.2.ch (k : Int).toNat = true → ∀ w2, Frm (fun b => b = x.1 ∨ b = x.2.1) wr w2 → WinAt w2 x.1 x.2.1 (x.2.2.give a) → ∃ k' : Nat, k' < gk ∧ ∃ j' : Nat, k' + j' = D.ws.length ∧ I ((j : Int) + 1) = I j' ∧ Hid (∃ ws', Turn w1 w2 (.slice (some ⟨g', 0, none⟩) D.ws.length cp) D.ws ws' lims j' fun W l => Fit W l (ds ++ [⟨D.now, k, a⟩]) D.now)) := by
            intro h1 w2 hf2 hw2
            rw [hfit.ch, Int.toNat_natCast] at h1
            refine ⟨gk - 1, by omega, j + 1, by omega, by simp, _, ht.next hx hl hf2 hw2 (hfit.give k a hwl h1 a0 ?_)⟩
            rw [hfit.left0]
            exact Int.le_trans (H.out).2.2 (room_le hml h1)
          clear hwin hfit hx hx0 hl hml hwl hst ht hv2 hv3 hlen
          go_wp2_with fail
          refine (CC.out).mono ?_
          rintro e w1 ⟨rfl, rfl⟩
          cases hct : cnt x.2.2.ch (k : Int).toNat with
          | false =>
            go_wp2_with fail
            obtain ⟨k', m1, m2⟩ := SK.out hct
            go_roundg k'
            case measure => exact m1
            case rel => exact m2
          | true =>
            go_wp2_with fail
            refine (GG.out).mono ?_
            rintro e w2 ⟨rfl, f2, hw2⟩
            obtain ⟨k', m1, m2⟩ := NX.out hct w2 f2 hw2
            have M1 := hide m1
            have M2 := hide m2
            clear m1 m2 f2 hw2
            go_wp2_with fail
            go_roundg k'
            case measure => exact M1.out
            case rel => exact M2.out
        · have hje : j = D.ws.length := by omega
          have HK := hide (And.intro hje ht)
          clear hkj hst hje ht hlen
          go_wp2_with fail
          go_end0
          obtain ⟨e1, e2⟩ := HK.out
          rw [e1] at e2
          have hz := HZ.out
          have hm := HM.out
          have fw : Frm (PF b { D with lock := ⟨D.lock.v, vg⟩ } vc (.slice av D.ws.length cp) (shareL D.now k ods a).1) w1 wr := e2.frm.mono fun x _ e => Or.inl (Or.inr (Or.inr (Or.inl e)))
          refine ⟨rfl, ws', vg, ⟨⟨hz.1.p.g.turned e2.lie e2.foot e2.frm, hz.1.p.o.frmG hz.1.p.g (e2.frm.mono fun y _ e => Or.inr (Or.inr e))⟩, hz.1.rowP fw⟩, e2.fits (H.out).1.1, e2.foot, hm.new, ?_⟩
          refine (hm.frm.trans2 hz.2 fun x _ ⟨o, ho, e⟩ => ?_).trans2 e2.frm fun x _ e => Or.inl (Or.inl (Or.inr (Or.inr (Or.inl e))))
          obtain ⟨j, hj⟩ := List.getElem?_of_mem ho
          exact Or.inl (Or.inr (Or.inl ⟨j, o, hj, Or.inl e⟩))

end Go.Proofs.YtpilmkipbbengaaGreatDoor

/- giveTick, with orders. -/
namespace Go.Proofs.YtpilmkipbbengaaGreatDoor
open Go.RowKit

theorem OF_share {sos : List Value} {vo : Value} {ods : List OrdD} {now : Int} {k : Nat} {n : Int} {x : Nat} (h : OF sos vo (shareL now k ods n).1 x) : OF sos vo ods x := by
  rcases h with ⟨i, p, hp, hh⟩ | e | e
  · obtain ⟨o, h1, h2, -, -, -, h6, h7⟩ := shareL_get now k ods n i p hp
    refine Or.inl ⟨i, o, h1, ?_⟩
    rw [h2, h6, h7] at hh
    exact hh
  · exact Or.inr (Or.inl e)
  · exact Or.inr (Or.inr e)

theorem pf_sub {b : Nat} {D : GSt} {vc vw : Value} {ods ods' : List OrdD} {ws' : List Wd} {lk : Lk} (wf : ∀ x, WsF vw ws' x ↔ WsF vw D.ws x) (of : ∀ x, OF (sosOf D.chs) D.vo ods' x → OF (sosOf D.chs) D.vo ods x) {x : Nat} (h : PF b { D with ws := ws', lock := lk } vc vw ods' x) : PF b D vc vw ods x := by
  rcases h with (e | e | e | e) | e
  · exact Or.inl (Or.inl e)
  · exact Or.inl (Or.inr (Or.inl e))
  · exact Or.inl (Or.inr (Or.inr (Or.inl ((wf x).1 e))))
  · exact Or.inl (Or.inr (Or.inr (Or.inr e)))
  · exact Or.inr (of x e)

structure OTick (w wr : World) (b : Nat) (D : GSt) (vc vw : Value) (ods : List OrdD) (ws' : List Wd) (vg : Value) (ods' : List OrdD) (R R' : RSt) : Prop where
  lie : QAt wr b { D with ws := ws', lock := ⟨D.lock.v, vg⟩ } vc vw ods' R'.doses
  wf : ∀ x, WsF vw ws' x ↔ WsF vw D.ws x
  of : ∀ x, OF (sosOf D.chs) D.vo ods' x → OF (sosOf D.chs) D.vo ods x
  os : R'.os = ods'.map toR
  trn : ∀ o ∈ ods', Turned R.now o
  fits : Fits ws' R.lims R'.doses R.now
  new : ∀ x, vg.ownBlock = some x → D.lock.g.ownBlock = some x ∨ w.heap.size ≤ x
  frm : Frm (QF b D vc vw ods) w wr

theorem OTick.keep {w wr w2 : World} {b : Nat} {D : GSt} {vc vw : Value} {ods ods' : List OrdD} {ws' : List Wd} {vg : Value} {R R' : RSt} (h : OTick w wr b D vc vw ods ws' vg ods' R R') (k : Keep wr w2) : OTick w w2 b D vc vw ods ws' vg ods' R R' :=
  ⟨h.lie.keep k, h.wf, h.of, h.os, h.trn, h.fits, h.new, h.frm.trans2 k fun _ _ e => e.elim⟩

theorem OTick.sub {w wr : World} {b : Nat} {D : GSt} {vc vw : Value} {ods ods' : List OrdD} {ws' : List Wd} {vg : Value} {R R' : RSt} (h : OTick w wr b D vc vw ods ws' vg ods' R R') {x : Nat} (hx : QF b { D with ws := ws', lock := ⟨D.lock.v, vg⟩ } vc vw ods' x) : QF b D vc vw ods x ∨ w.heap.size ≤ x := by
  rcases hx with e | e
  · exact Or.inl (Or.inl (pf_sub h.wf h.of e))
  · rcases h.new x e with q | q
    · exact Or.inl (Or.inr q)
    · exact Or.inr q

theorem OTick.more {w wr w2 : World} {b : Nat} {D : GSt} {vc vw : Value} {ods ods' ods2 : List OrdD} {ws' ws2 : List Wd} {vg vg2 : Value} {R R' R2 : RSt} {d : Ds} (h : OTick w wr b D vc vw ods ws' vg ods' R R')
    (ge : GiveEnd wr w2 b { D with ws := ws', lock := ⟨D.lock.v, vg⟩ } vc vw ods' ods2 ws2 vg2 R.lims (R'.doses ++ [d]) R.now) (of2 : ∀ x, OF (sosOf D.chs) D.vo ods2 x → OF (sosOf D.chs) D.vo ods' x) (trn2 : ∀ o ∈ ods2, Turned R.now o) (os2 : R2.os = ods2.map toR)
    (h2 : R2.doses = R'.doses ++ [d]) : OTick w w2 b D vc vw ods ws2 vg2 ods2 R R2 := by
  have hs1 := h.frm.size
  refine ⟨by rw [h2]; exact ge.lie, fun x => (ge.foot x).trans (h.wf x), fun x hx => h.of x (of2 x hx), os2, trn2, by rw [h2]; exact ge.fits, ?_, ?_⟩
  · intro x hx
    rcases ge.new x hx with q | q
    · exact h.new x q
    · exact Or.inr (by omega)
  · refine h.frm.trans2 ge.frm fun x hx e => ?_
    rcases h.sub e with q | q
    · exact q
    · omega

theorem ogive_at (now : Int) (b : Nat) (D : GSt) (vc vw : Value) (ods : List OrdD) (lims : List Lim) (ds : List Ds) (a : Int) (k : Nat) (w : World) (hnow : D.now = now) (h : QAt w b D vc vw ods ds) (f : OFine now ods) (hk : k < D.chs.length) (k3 : D.chs.length ≤ 4)
    (hf : Fits D.ws lims ds now) (hl : ∀ l ∈ lims, 1 ≤ l.win) (a0 : 0 ≤ a) (a1 : a ≤ 1000) (ha : a ≤ rroom ds lims k now) (nl : D.ws.length ≤ 6) (hnd : ds.length ≤ 100000) :
    Calls Tryz.prog 59 #[ptr b 0, I k, I a] w fun e w' => e = .returned (.tuple #[]) ∧ ∃ ws' vg, GiveEnd w w' b D vc vw ods (shareL now k ods a).1 ws' vg lims (ds ++ [⟨now, k, a⟩]) now := by
  subst hnow
  exact ogive_all b D vc vw ods lims ds a k w h f hk k3 hf hl a0 a1 ha nl hnd

set_option maxRecDepth 100000 in
set_option maxHeartbeats 3200000 in
theorem ogiveTick_all (b : Nat) (D : GSt) (vc vw : Value) (ods : List OrdD) (R : RSt) (w : World) (h : QAt w b D vc vw ods R.doses) (rel : ORel D ods R) (ok : R.Ok) (hn : R.now < 400) (hd : R.doses.length ≤ 1996) (hol : ods.length ≤ 3300) :
    Calls Tryz.prog 88 #[ptr b 0] w fun e w' => ∃ ws' vg ods', e = .returned (.tuple #[]) ∧ OTick w w' b D vc vw ods ws' vg ods' R (tks R.chs.length R) := by
  obtain ⟨sl, ag⟩ := h.p.g.ag
  obtain ⟨ac, cp, hvc⟩ := row_slice h.p.g.chs
  have c2 : w.cell? ⟨b, 2, none⟩ = some (.slice ac D.chs.length cp) := by rw [ag.head.cell, ← hvc]; rfl
  have nc : D.chs.length ≤ 4 := by rw [rel.nch]; exact ok.nc1
  have n0 := ok.now0
  have hst0 : OTick w w b D vc vw ods D.ws D.lock.g ods R (tks 0 R) := ⟨h, fun _ => Iff.rfl, fun _ hx => hx, rel.os, rel.trn, rel.fits, fun _ hx => Or.inl hx, Frm.refl _ _⟩
  have H := hide (And.intro h (And.intro rel (And.intro ok (And.intro hst0 (And.intro hvc hd)))))
  clear h rel ok hst0 hvc ag hd
  go_enter Tryz.func88, Tryz.ntmps88
  go_wp2_with fail
  go_loopg [2, 3, 9] D.chs.length (fun q _ _ i wr => ∃ j : Nat, q + j = D.chs.length ∧ i = I j ∧ Hid (∃ ws' vg ods', OTick w wr b D vc vw ods ws' vg ods' R (tks j R)))
  case atStart => exact ⟨0, by omega, rfl, D.ws, D.lock.g, ods, (H.out).2.2.2.1⟩
  case round =>
    obtain ⟨j, hkj, rfl, hst⟩ := hrel
    obtain ⟨ws', vg, ods', ht⟩ := hst.out
    by_cases hj : j < D.chs.length
    · obtain ⟨d, hdd⟩ : ∃ d, D.chs[j]? = some d := ⟨_, List.getElem?_eq_getElem hj⟩
      obtain ⟨c, hcc⟩ : ∃ c, R.chs[j]? = some c := ⟨_, List.getElem?_eq_getElem (by rw [← (H.out).2.1.nch]; exact hj)⟩
      obtain ⟨hrest, hrate, -, -, -⟩ := (H.out).2.1.ch j d c hdd hcc
      obtain ⟨g, cap, hv, d0, -, d2, d3, -, -, -⟩ := ht.lie.p.g.chan (k := j) (c := d) hdd
      have hvv := (H.out).2.2.2.2.1
      rw [hv] at hvv
      injection hvv with hv1 hv2 hv3
      subst hv1
      obtain ⟨sl2, ag2⟩ := ht.lie.p.g.ag
      have e0 : wr.cell? ⟨b, 0, none⟩ = some (I R.now) := by rw [ag2.head.cell, ← (H.out).2.1.now]; rfl
      have e2 : wr.cell? ⟨b, 2, none⟩ = some (.slice (some ⟨g, 0, none⟩) D.chs.length cap) := by rw [ag2.head.cell, ← hv]; rfl
      have e3 : wr.cell? ⟨b, 3, none⟩ = some vw := by rw [ag2.head.cell]; rfl
      have okj := tks_ok (H.out).2.2.1 hn (H.out).2.2.2.2.2 j (by omega)
      have hsame := tks_same j R
      have hol' : ods'.length ≤ 3300 := by
        have q1 := congrArg List.length ht.os
        have q2 := congrArg List.length (H.out).2.1.os
        have q3 := hsame.2.2.2.2
        simp only [List.length_map] at q1 q2
        omega
      have fine : OFine R.now ods' := ofine ht.os ht.trn okj n0 hol'
      have nl : ws'.length ≤ 6 := by rw [ht.fits.1]; exact (H.out).2.2.1.nl
      have hrb := (H.out).2.2.1.chs c (List.mem_of_getElem? hcc)
      have hr0 : 0 ≤ d.rate := by rw [hrate]; unfold wbase; split <;> omega
      have hr1 : d.rate ≤ 1000 := by rw [hrate]; unfold wbase; split <;> omega
      have wn := fun x => wants_any b vc (sosOf D.chs) D.vo D.xt D.nv ods' g j d.rate R.now 0 d.rests d.so (wr.drewN x) (ht.lie.p.o.keep ((Frm.refl _ _).drewN x)) fine (sosOf_get hdd) d0 d2 d3 hr0 hr1
      have hpb := psum_bd (now := R.now) (going ods' j) fun o ho => fine.pd ho
      have hgl := going_le ods' j
      have hwnt : (if d.rests = true then 0 else d.rate + psum R.now (going ods' j)) = wnt R.now j c (tks j R).os := by
        unfold wnt
        rw [hrest, hrate, ht.os, wsum_of ods' ht.trn j]
      rw [hwnt] at wn
      have WN := hide wn
      have rm := fun x => room_any b vw ws' R.lims (tks j R).doses R.now j (wr.drewN x) e3 (ht.lie.p.g.ws.drewN x) ht.fits (by omega) (by omega) nl
      simp only [Int.toNat_natCast] at rm
      have RM := hide rm
      have hm0 : 0 ≤ rroom (tks j R).doses R.lims j R.now := room_nonneg ht.fits.nonneg
      have hm1 : rroom (tks j R).doses R.lims j R.now ≤ 1000 := (fold_bd (k := j) (t := R.now) okj.doses okj.nd R.lims (H.out).2.2.1.lims 1000 (by omega) (by omega)).2
      have hw0 : 0 ≤ wnt R.now j c (tks j R).os := by rw [← hwnt]; split <;> omega
      have hw1 : wnt R.now j c (tks j R).os ≤ 4000000 := by rw [← hwnt]; split <;> omega
      have hA : amt (tks j R) j c = if rroom (tks j R).doses R.lims j R.now < wnt R.now j c (tks j R).os then rroom (tks j R).doses R.lims j R.now else wnt R.now j c (tks j R).os := by
        unfold amt
        rw [hsame.2.1, hsame.2.2.1]
      have hstep : tks (j + 1) R = if amt (tks j R) j c ≤ 0 then tks j R else { tks j R with doses := (tks j R).doses ++ [⟨R.now, j, amt (tks j R) j c⟩], os := dist R.now j (tks j R).os (amt (tks j R) j c) } := by
        show tk1 j (tks j R) = _
        have e : (tks j R).chs[j]? = some c := by rw [hsame.1]; exact hcc
        unfold tk1
        simp only [e, hsame.2.2.1]
      have eD : ({ D with ws := ws', lock := ⟨D.lock.v, vg⟩ } : GSt).now = R.now := (H.out).2.1.now
      have hnd := okj.nd
      have hle : R.doses.length ≤ (tks j R).doses.length := (tks_pre j R).length_le
      have hln : (tks j R).doses.length ≤ 100000 := by
        have := tks_nd j R
        have := (H.out).2.2.2.2.2
        omega
      have GV : Hid (∀ (n : Nat) (A : Int), 0 < A → A ≤ 1000 → A ≤ rroom (tks j R).doses R.lims j R.now → amt (tks j R) j c = A → Calls Tryz.prog 59 #[ptr b 0, I j, I A] (wr.drewN n) fun e w' => e = .returned (.tuple #[]) ∧ ∃ k' : Nat, k' < gk ∧ ∃ j' : Nat, k' + j' = D.chs.length ∧ I ((j : Int) + 1) = I j' ∧ Hid (∃ ws' vg ods', OTick w w' b D vc vw ods ws' vg ods' R (tks j' R))) := by
        intro n A a0 a1 a2 hAA
        refine (ogive_at R.now b { D with ws := ws', lock := ⟨D.lock.v, vg⟩ } vc vw ods' R.lims (tks j R).doses A j (wr.drewN n) eD (ht.lie.keep ((Frm.refl _ _).drewN n)) fine hj nc ht.fits (fun l hl => ((H.out).2.2.1.lims l hl).w0) (by omega) a1 a2 nl hln).mono ?_
        rintro e w' ⟨rfl, ws2, vg2, ge⟩
        refine ⟨rfl, gk - 1, by omega, j + 1, by omega, by simp, ws2, vg2, (shareL R.now j ods' A).1, ?_⟩
        rw [hstep, if_neg (by omega), hAA]
        refine (ht.keep ((Frm.refl _ _).drewN n)).more ge (fun x hx => OF_share hx) (shareL_turned ht.trn j A) ?_ (d := ⟨R.now, j, A⟩) rfl
        show dist R.now j (tks j R).os A = _
        rw [ht.os]
        exact dist_of j ods' A (by omega) ht.trn fun o ho hon => (fine.pd (List.mem_filter.2 ⟨ho, hon⟩)).1
      have SKIP : Hid (∀ n : Nat, amt (tks j R) j c ≤ 0 → ∃ k' : Nat, k' < gk ∧ ∃ j' : Nat, k' + j' = D.chs.length ∧ I ((j : Int) + 1) = I j' ∧ Hid (∃ ws' vg ods', OTick w (wr.drewN n) b D vc vw ods ws' vg ods' R (tks j' R))) := by
        intro n hz
        refine ⟨gk - 1, by omega, j + 1, by omega, by simp, ws', vg, ods', ?_⟩
        rw [hstep, if_pos hz]
        exact ht.keep ((Frm.refl _ _).drewN n)
      have AA := hide hA
      clear hst ht hA hstep rm hv hv2 hv3 ag2 hsame okj hrest hrate hrb hdd hcc hnd hle d0 d2 d3 wn hwnt hpb hgl fine hol' hr0 hr1 eD hln
      generalize rroom (tks j R).doses R.lims j R.now = m at *
      generalize wnt R.now j c (tks j R).os = r at *
      by_cases q : m < r
      · go_wp2_with fail
        go_quiet ((first | (go_at_call 114; exact Calls.quiet_of (WN.out _)) | (go_at_call 30; exact Calls.quiet_of (RM.out _))))
        have hAA : amt (tks j R) j c = m := by rw [AA.out, if_pos q]
        have HAA := hide hAA
        clear hAA
        by_cases z : m = 0
        · go_wp2_with fail
          obtain ⟨k', m1, m2⟩ := SKIP.out nq (by rw [HAA.out]; omega)
          go_roundg k'
          case measure => exact m1
          case rel => exact m2
        · have z' : 0 < m := by omega
          go_wp2_with fail
          refine (GV.out nq m z' hm1 (Int.le_refl _) HAA.out).mono ?_
          rintro e w2 ⟨rfl, k', m1, m2⟩
          have M1 := hide m1
          have M2 := hide m2
          clear m1 m2
          go_wp2_with fail
          go_roundg k'
          case measure => exact M1.out
          case rel => exact M2.out
      · go_wp2_with fail
        go_quiet ((first | (go_at_call 114; exact Calls.quiet_of (WN.out _)) | (go_at_call 30; exact Calls.quiet_of (RM.out _))))
        have hAA : amt (tks j R) j c = r := by rw [AA.out, if_neg (by omega)]
        have HAA := hide hAA
        clear hAA
        by_cases z : r = 0
        · go_wp2_with fail
          obtain ⟨k', m1, m2⟩ := SKIP.out nq (by rw [HAA.out]; omega)
          go_roundg k'
          case measure => exact m1
          case rel => exact m2
        · have z' : 0 < r := by omega
          go_wp2_with fail
          refine (GV.out nq r z' (by omega) (by omega) HAA.out).mono ?_
          rintro e w2 ⟨rfl, k', m1, m2⟩
          have M1 := hide m1
          have M2 := hide m2
          clear m1 m2
          go_wp2_with fail
          go_roundg k'
          case measure => exact M1.out
          case rel => exact M2.out
    · have hje : j = D.chs.length := by omega
      have HK := hide (And.intro hje (And.intro (H.out).2.1.nch ht))
      clear hkj hst hje ht
      go_wp2_with fail
      go_end0
      have e := HK.out
      rw [e.1] at e
      exact ⟨ws', vg, ods', rfl, by rw [← e.2.1]; exact e.2.2⟩

end Go.Proofs.YtpilmkipbbengaaGreatDoor

/- Run, with orders. -/
namespace Go.Proofs.YtpilmkipbbengaaGreatDoor
open Go.RowKit

theorem beg_in {w : World} {b : Nat} {D : GSt} {vc vw : Value} {ods : List OrdD} (h : PAt w b D vc vw ods) {o : OrdD} (ho : o ∈ ods) {y : Ent × Nat × Nat} (hy : o.beg = some y) : y.1 ∈ D.es ∧ y.1.tick = o.start := by
  obtain ⟨j, hj⟩ := List.getElem?_of_mem ho
  obtain ⟨e, cc, oc⟩ := y
  have hm : e ∈ begsOf ods := List.mem_filterMap.2 ⟨o, ho, by rw [hy]; rfl⟩
  exact ⟨h.g.perm.mem_iff.2 (List.mem_append_right _ (h.o.xtp.mem_iff.2 (List.mem_append_left _ hm))), (h.o.begs j o e cc oc hj hy).1⟩
theorem fin_in {w : World} {b : Nat} {D : GSt} {vc vw : Value} {ods : List OrdD} (h : PAt w b D vc vw ods) {o : OrdD} (ho : o ∈ ods) {y : Ent × Nat × Nat × Nat} (hy : o.fin = some y) : y.1 ∈ D.es ∧ y.1.tick = o.stop := by
  obtain ⟨j, hj⟩ := List.getElem?_of_mem ho
  obtain ⟨e, cc, oc, pc⟩ := y
  have hm : e ∈ finsOf ods := List.mem_filterMap.2 ⟨o, ho, by rw [hy]; rfl⟩
  exact ⟨h.g.perm.mem_iff.2 (List.mem_append_right _ (h.o.xtp.mem_iff.2 (List.mem_append_right _ hm))), (h.o.fins j o e cc oc pc hj hy).1⟩
theorem end_in {w : World} {b : Nat} {D : GSt} {vc vw : Value} {ods : List OrdD} (h : PAt w b D vc vw ods) {k : Nat} {d : GCh} {e : Ent} {cb : Nat} (hk : D.chs[k]? = some d) (he : d.ent = some (e, cb)) : e ∈ D.es :=
  h.g.perm.mem_iff.2 (List.mem_append_left _ (gents_in_mem hk he))

theorem ORel.tick {w w' : World} {b : Nat} {D D' : GSt} {vc vw : Value} {ods ods1 ods2 : List OrdD} {R : RSt} {ws' : List Wd} {vg : Value} (rel : ORel D ods R) (n0 : 0 ≤ R.now) (os1 : (tks R.chs.length R).os = ods1.map toR) (trn1 : ∀ o ∈ ods1, Turned R.now o) (pe : PEnd w w' b { D with ws := ws', lock := ⟨D.lock.v, vg⟩ } D' vc vw ods1 ods2 R.lims (tks R.chs.length R).doses) : ORel D' ods2 (rtick R) := by
  obtain ⟨s1, s2, s3, s4, s5⟩ := rtick_same R
  have e1 : ({ D with ws := ws', lock := ⟨D.lock.v, vg⟩ } : GSt).now = R.now := rel.now
  obtain ⟨lie, hp, lock, num, fits, chs, osm, late, foot, frm⟩ := pe
  rw [e1] at hp
  have late : ∀ x ∈ D'.es, R.now + 1 < x.tick := fun x hx => by have := late x hx; rw [e1] at this; exact this
  have fits : Fits D'.ws R.lims (tks R.chs.length R).doses (R.now + 1) := by rw [e1] at fits; exact fits
  have osm : OSame (R.now + 1) ods1 ods2 := by rw [e1] at osm; exact osm
  have chs : CSame (R.now + 1) D.chs D'.chs := by rw [e1] at chs; exact chs
  refine ⟨by rw [hp, s3], by rw [lock, s4]; exact rel.lock, by rw [s4]; exact rel.l0, by rw [s4]; exact rel.l1, ?_, ?_, by rw [s2, s3]; exact fits, ?_, by rw [chs.1, s1]; exact rel.nch, ?_⟩
  · show (tks R.chs.length R).os = _
    rw [os1, osm.toR]
  · rw [s3]
    refine osm.turned trn1 ?_ ?_
    · intro o ho y hy
      obtain ⟨q1, q2⟩ := beg_in lie ho hy
      have := late _ q1; omega
    · intro o ho y hy
      obtain ⟨q1, q2⟩ := fin_in lie ho hy
      have := late _ q1; omega
  · intro d hd
    have := tks_past rel.past R.chs.length d hd
    rw [s3]; omega
  · intro k d c hk hc
    rw [s1] at hc
    rw [s3, s4]
    obtain ⟨d0, hd0, c1, c2, hcase⟩ := chs.2 k d hk
    obtain ⟨r1, r2, r3, r4, r5⟩ := rel.ch k d0 c hd0 hc
    rcases hcase with ⟨q1, q2⟩ | ⟨q1, q2, e, cb, he, ht⟩
    · refine ⟨by rw [c1, r1], ?_, ?_, ?_, by rw [c2, r5]⟩
      · rw [q1, r2]
        cases hent : d.ent with
        | none =>
          have := r3 (by rw [← q2]; exact hent)
          unfold wbase
          by_cases q : c.til < 0
          · simp [q]
          · have q1 : ¬ R.now < c.til := by omega
            have q2 : ¬ R.now + 1 < c.til := by omega
            simp [q, q1, q2]
        | some x =>
          have h1 := late _ (end_in lie hk hent)
          have h2 := r4 x.1 x.2 (by rw [← q2]; exact hent)
          have q1 : R.now < c.til := by omega
          have q2 : R.now + 1 < c.til := by omega
          unfold wbase
          simp [q1, q2]
      · intro hent
        have := r3 (by rw [← q2]; exact hent); omega
      · intro e cb hent
        have h1 := late _ (end_in lie hk hent)
        have h2 := r4 e cb (by rw [← q2]; exact hent)
        exact ⟨h2.1, by omega⟩
    · have h2 := r4 e cb he
      have hp0 : 0 ≤ c.til := by omega
      refine ⟨by rw [c1, r1], ?_, ?_, ?_, by rw [c2, r5]⟩
      · unfold wbase
        have q : ¬ c.til < 0 := by omega
        have q2 : ¬ R.now + 1 < c.til := by omega
        simp [q, q1, q2]
      · intro _; omega
      · intro e' cb' h'; rw [q2] at h'; cases h'

/-- on the way through Run -/
structure RunO (w wr : World) (b : Nat) (D D' : GSt) (vc vw : Value) (ods ods' : List OrdD) (R R' : RSt) : Prop where
  lie : QAt wr b D' vc vw ods' R'.doses
  rel : ORel D' ods' R'
  foot : ∀ x, QF b D' vc vw ods' x → QF b D vc vw ods x ∨ w.heap.size ≤ x
  frm : Frm (QF b D vc vw ods) w wr

theorem RunO.next {w wr w1 w2 : World} {b : Nat} {D D' D2 : GSt} {vc vw : Value} {ods ods' ods1 ods2 : List OrdD} {R R' : RSt} {ws' : List Wd} {vg : Value} (h : RunO w wr b D D' vc vw ods ods' R R') (n0 : 0 ≤ R'.now)
    (ht : OTick wr w1 b D' vc vw ods' ws' vg ods1 R' (tks R'.chs.length R')) (pe : PEnd w1 w2 b { D' with ws := ws', lock := ⟨D'.lock.v, vg⟩ } D2 vc vw ods1 ods2 R'.lims (tks R'.chs.length R').doses) :
    RunO w w2 b D D2 vc vw ods ods2 R (rtick R') := by
  have s1 := h.frm.size
  have s2 := ht.frm.size
  have f1 : ∀ x, QF b { D' with ws := ws', lock := ⟨D'.lock.v, vg⟩ } vc vw ods1 x → QF b D vc vw ods x ∨ w.heap.size ≤ x := fun x hx => by
    rcases ht.sub hx with q | q
    · exact h.foot x q
    · exact Or.inr (by omega)
  have hlk := pe.lock
  refine ⟨⟨pe.lie, ?_⟩, h.rel.tick n0 ht.os ht.trn pe, ?_, ?_⟩
  · rw [hlk]; exact ht.lie.rowP pe.frm
  · rintro x (hx | hx)
    · rcases pe.foot x hx with q | q
      · exact f1 x (Or.inl q)
      · exact Or.inr (by omega)
    · rw [hlk] at hx; exact f1 x (Or.inr hx)
  · refine (h.frm.trans2 ht.frm fun x hx e => ?_).trans2 pe.frm fun x hx e => ?_
    · rcases h.foot x e with q | q
      · exact q
      · omega
    · rcases f1 x (Or.inl e) with q | q
      · exact q
      · omega

/-- what Run leaves, its answer too -/
structure RunZ (w wr : World) (b : Nat) (D D' : GSt) (vc vw : Value) (ods ods' : List OrdD) (R R' : RSt) (vout : Value) : Prop where
  go : RunO w wr b D D' vc vw ods ods' R R'
  out : wr.ownsRow 0 100 3 vout (R'.doses.drop R.doses.length).length ((R'.doses.drop R.doses.length).flatMap dsC)
  new : ∀ x, vout.ownBlock = some x → w.heap.size ≤ x ∧ ¬ QF b D' vc vw ods' x

theorem RunO.out {w wr w2 : World} {b : Nat} {D D' : GSt} {vc vw : Value} {ods ods' : List OrdD} {R R' : RSt} (h : RunO w wr b D D' vc vw ods ods' R R') {v' : Value} {n : Nat} (hn : n = (R'.doses.drop R.doses.length).length) (hown : w2.ownsRow 0 100 3 v' n ((R'.doses.drop R.doses.length).flatMap dsC)) (hg : wr.grownBy w2 none)
    (hnew : v'.ownBlock = none ∨ (v'.ownBlock = some wr.heap.size ∧ wr.grownBy w2 none)) : RunZ w w2 b D D' vc vw ods ods' R R' v' := by
  have k : Keep wr w2 := (grown_frm hg).mono fun x _ e => by cases e
  refine ⟨⟨h.lie.keep k, h.rel, h.foot, h.frm.trans2 k fun _ _ e => e.elim⟩, by rw [← hn]; exact hown, ?_⟩
  intro x hx
  rcases hnew with e | ⟨e, -⟩
  · rw [e] at hx; cases hx
  · rw [e] at hx; injection hx with hx
    have := h.frm.size
    exact ⟨by omega, fun e => by have := h.lie.lt x e; omega⟩

theorem flat_drop {α : Type} (f : α → List Value) (s : Nat) (hs : ∀ x, (f x).length = s) : ∀ (l : List α) (m : Nat), (l.drop m).flatMap f = (l.flatMap f).drop (m * s) := by
  intro l
  induction l with
  | nil => intro m; simp
  | cons x l ih =>
    intro m
    cases m with
    | zero => simp
    | succ m =>
      rw [List.drop_succ_cons, ih, List.flatMap_cons, List.drop_append, hs]
      have e1 : (m + 1) * s - s = m * s := by rw [Nat.succ_mul]; omega
      have e2 : (f x).drop ((m + 1) * s) = [] := List.drop_eq_nil_of_le (by rw [hs, Nat.succ_mul]; omega)
      rw [e1, e2, List.nil_append]

/-- what stands in a list from m on -/
theorem row_src {w : World} {g n c : Nat} {ds : List Ds} (h : w.ownsRow 0 100 3 (.slice (some ⟨g, 0, none⟩) n c) n (ds.flatMap dsC)) (m : Nat) : ∀ j u, ((ds.drop m).flatMap dsC)[j]? = some u → w.cell? ((⟨g, m * 3, none⟩ : Addr).add j) = some u := by
  intro j u hu
  rw [flat_drop dsC 3 (fun _ => rfl), List.getElem?_drop] at hu
  have := h.cells (g := g) rfl (m * 3 + j) u hu
  rw [Addr.add_lit] at this ⊢
  simpa using this

set_option maxRecDepth 100000 in
set_option maxHeartbeats 1600000 in
theorem orun_all (b : Nat) (D : GSt) (vc vw : Value) (ods : List OrdD) (R : RSt) (t : Nat) (w : World) (h : QAt w b D vc vw ods R.doses) (rel : ORel D ods R) (ok : R.Ok) (full : R.Full) (h1 : 1 ≤ t) (h2 : t ≤ 100) (h3 : R.now + t ≤ 400) :
    Calls Tryz.prog 46 #[ptr b 0, I t] w fun e w' => ∃ vout D' ods', e = .returned (.tuple #[vout, I 0]) ∧ RunZ w w' b D D' vc vw ods ods' R (rticks t R) vout := by
  obtain ⟨i, hi, hz0, hz1, hz2⟩ := info_parts infoD
  have WI := hide (within_any t 1 100 w)
  rw [within_yes (by omega) (by omega)] at WI
  obtain ⟨sl, ag⟩ := h.p.g.ag
  obtain ⟨ad, cpd, hvd⟩ := row_slice h.row
  have c0 : w.cell? ⟨b, 0, none⟩ = some (I R.now) := by rw [ag.head.cell, ← rel.now]; rfl
  have c8 : w.cell? ⟨b, 8, none⟩ = some (.slice ad R.doses.length cpd) := by rw [ag.head.cell, ← hvd]; rfl
  have n0 := ok.now0
  have hst0 : RunO w w b D D vc vw ods ods R (rticks 0 R) := ⟨h, rel, fun _ hx => Or.inl hx, Frm.refl _ _⟩
  have hl0 : R.doses.length ≤ 2000 := by
    have : (R.doses.length : Int) ≤ 4 * R.now := full.1
    omega
  have H := hide (And.intro ok (And.intro full hst0))
  clear h rel ok full hst0 ag hvd
  go_enter Tryz.func46, Tryz.ntmps46
  go_wp2_with fail
  refine (WI.out).mono ?_
  rintro e w' ⟨rfl, rfl⟩
  go_wp2_with fail
  go_loopg [24] t (fun q i wr => ∃ j : Nat, q + j = t ∧ i = I j ∧ Hid (∃ D' ods', RunO w' wr b D D' vc vw ods ods' R (rticks j R)))
  case atStart => exact ⟨0, by omega, rfl, D, ods, (H.out).2.2⟩
  case round =>
    obtain ⟨j, hkj, rfl, hst⟩ := hrel
    obtain ⟨D', ods', hr⟩ := hst.out
    have hpre := rticks_pre j R
    have hnj := (rticks_same j R).2.2.1
    by_cases hj : j < t
    · obtain ⟨okj, fullj⟩ := rticks_ok (H.out).1 (H.out).2.1 j (by omega)
      have hdl : (rticks j R).doses.length ≤ 1996 := by
        have : ((rticks j R).doses.length : Int) ≤ 4 * (rticks j R).now := fullj.1
        omega
      have hol : ods'.length ≤ 3300 := by
        have q1 := congrArg List.length hr.rel.os
        simp only [List.length_map] at q1
        have q2 := fullj.2.1
        have q3 := fullj.2.2
        omega
      have gt := ogiveTick_all b D' vc vw ods' (rticks j R) wr hr.lie hr.rel okj (by omega) hdl hol
      have ps : ∀ (ws' : List Wd) (vg : Value) (ods1 : List OrdD) (w1 : World), OTick wr w1 b D' vc vw ods' ws' vg ods1 (rticks j R) (tks (rticks j R).chs.length (rticks j R)) →
          Calls Tryz.prog 89 #[ptr b 0] w1 fun e w2 => e = .returned (.tuple #[]) ∧ ∃ k' : Nat, k' < gk ∧ ∃ j' : Nat, k' + j' = t ∧ I ((j : Int) + 1) = I j' ∧ Hid (∃ D' ods', RunO w' w2 b D D' vc vw ods ods' R (rticks j' R)) := by
        intro ws' vg ods1 w1 ht
        have e1 : ({ D' with ws := ws', lock := ⟨D'.lock.v, vg⟩ } : GSt).now = (rticks j R).now := hr.rel.now
        have hn0 := okj.now0
        have hol1 : ods1.length ≤ 3300 := by
          have q1 := congrArg List.length ht.os
          have q2 := congrArg List.length hr.rel.os
          have q3 := (tks_same (rticks j R).chs.length (rticks j R)).2.2.2.2
          simp only [List.length_map] at q1 q2
          omega
        refine (opass_all b { D' with ws := ws', lock := ⟨D'.lock.v, vg⟩ } vc vw ods1 (rticks j R).lims (tks (rticks j R).chs.length (rticks j R)).doses w1 ht.lie.p (by rw [e1]; exact ht.fits) (fun l hl => (okj.lims l hl).w0) (by rw [e1]; exact tks_past hr.rel.past _) (by show ws'.length ≤ 6; rw [ht.fits.1]; exact okj.nl) (by show D'.chs.length ≤ 4; rw [hr.rel.nch]; exact okj.nc1) hol1 (by rw [e1]; exact hn0) (by rw [e1]; exact okj.now1)).mono ?_
        rintro e w2 ⟨rfl, D2, ods2, pe⟩
        exact ⟨rfl, gk - 1, by omega, j + 1, by omega, by simp, D2, ods2, hr.next hn0 ht pe⟩
      have GT := hide gt
      have PS := hide ps
      clear gt ps hst hr okj fullj hpre hol
      go_wp2_with fail
      refine (GT.out).mono ?_
      rintro e w1 ⟨ws', vg, ods1, rfl, ht⟩
      have C := hide (PS.out ws' vg ods1 w1 ht)
      clear ht
      go_wp2_with fail
      refine (C.out).mono ?_
      rintro e w2 ⟨rfl, k', m1, m2⟩
      have M1 := hide m1
      have M2 := hide m2
      clear m1 m2
      go_wp2_with fail
      go_roundg k'
      case measure => exact M1.out
      case rel => exact M2.out
    · have hje : j = t := by omega
      subst hje
      obtain ⟨slr, agr⟩ := hr.lie.p.g.ag
      obtain ⟨adr, cpr, hvr⟩ := row_slice hr.lie.row
      have z8 : wr.cell? ⟨b, 8, none⟩ = some (.slice adr (rticks j R).doses.length cpr) := by rw [agr.head.cell, ← hvr]; rfl
      have hlen : R.doses.length ≤ (rticks j R).doses.length := hpre.length_le
      have hup : (rticks j R).doses.length ≤ 2000 := by
        obtain ⟨okj, fullj⟩ := rticks_ok (H.out).1 (H.out).2.1 j (by omega)
        have : ((rticks j R).doses.length : Int) ≤ 4 * (rticks j R).now := fullj.1
        omega
      have hsrc := hr.lie.row
      rw [hvr] at hsrc
      have FIN : Hid (∀ (w2 : World) (v' : Value) (n : Nat), n = ((rticks j R).doses.drop R.doses.length).length → w2.ownsRow 0 100 3 v' n (((rticks j R).doses.drop R.doses.length).flatMap dsC) → wr.grownBy w2 none → (v'.ownBlock = none ∨ (v'.ownBlock = some wr.heap.size ∧ wr.grownBy w2 none)) → ∃ vout D' ods', Ending.returned (.tuple #[v', I 0]) = .returned (.tuple #[vout, I 0]) ∧ RunZ w' w2 b D D' vc vw ods ods' R (rticks j R) vout) :=
        fun w2 v' n hn hown hg hnew => ⟨v', D', ods', rfl, hr.out hn hown hg hnew⟩
      have hcap : (rticks j R).doses.length ≤ cpr := by
        rcases hsrc.2 with ⟨e, e2⟩ | ⟨g, cap, cur, e, -, -, r3, -⟩
        · injection e with e0 e1 e3; omega
        · injection e with e0 e1 e3; omega
      have hlt : ((rticks j R).doses.drop R.doses.length).length = (rticks j R).doses.length - R.doses.length := by simp
      have cases : (adr = none ∧ (rticks j R).doses.length = 0 ∧ cpr = 0) ∨ ∃ g, adr = some ⟨g, 0, none⟩ := by
        rcases hsrc.2 with ⟨e, e2⟩ | ⟨g, cap, cur, e, -⟩
        · injection e with e0 e1 e3; exact Or.inl ⟨e0, e1, e3⟩
        · injection e with e0 e1 e3; exact Or.inr ⟨g, e0⟩
      have L := hide (And.intro hlt hsrc)
      have w63 : IntKind.i64.wrap (R.doses.length : Int) = R.doses.length := wrap_id _ (by omega) (by omega)
      clear hkj hst hr hpre agr hvr hsrc hlt
      generalize hds : (rticks j R).doses = ds at *
      generalize hds0 : R.doses = ds0 at *
      have nil : ds.length ≤ ds0.length → ds.drop ds0.length = [] := fun q => List.drop_eq_nil_of_le q
      have NIL := hide nil
      clear nil
      rcases cases with ⟨rfl, hz, rfl⟩ | ⟨g, rfl⟩
      · have hzR : ds0.length = 0 := by omega
        go_wp2_with fail
        go_ret2
        have q := NIL.out (by omega)
        have F := FIN.out wr (.slice none 0 0) 0
        rw [q] at F
        exact F rfl (World.ownsRow_nil ..) ⟨rfl, rfl, rfl, Nat.le_refl _, fun _ _ _ => rfl⟩ (Or.inl rfl)
      · by_cases hcf : cpr = ds0.length
        · have hz : ds.length - ds0.length = 0 := by omega
          go_wp2_with fail
          go_ret2
          have q := NIL.out (by omega)
          have F := FIN.out wr (.slice none 0 0) 0
          rw [q] at F
          exact F rfl (World.ownsRow_nil ..) ⟨rfl, rfl, rfl, Nat.le_refl _, fun _ _ _ => rfl⟩ (Or.inl rfl)
        · go_wp2_with (at_builtin; refine wpList_append_src _ rfl (.tmp 31) (.tmp 37) 35 rfl 100 i (.agg #[I 0, I 0, I 0]) 3 24 Tryz.underlying35 hi hz0 hz1 hz2 rfl (by decide) (.slice none 0 0) 0 [] rfl (World.ownsRow_nil ..) (some ⟨g, ds0.length * 3, none⟩) (ds.length - ds0.length) (cpr - ds0.length) ((ds.drop ds0.length).flatMap dsC) rfl (by rw [flat_len dsC 3 (fun _ => rfl), (L.out).1]) (fun e => by cases e) (fun ad e => by cases e; exact row_src (L.out).2 ds0.length) (dsC_one _) (by unfold maxLen; omega) (by omega) ?_; intro v' w2 hown hg hnew; have FF := hide (FIN.out w2 v' _ (by rw [(L.out).1]) (by simpa using hown) hg hnew); clear hown hg hnew)
          go_ret2
          exact FF.out

end Go.Proofs.YtpilmkipbbengaaGreatDoor
