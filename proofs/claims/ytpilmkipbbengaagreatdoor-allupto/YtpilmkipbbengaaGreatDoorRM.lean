/- The document's pump: is, part, wants. -/
import Derived.Test.YtpilmkipbbengaaGreatDoorRef
import Derived.Deep.CutRange
namespace Go.Proofs.YtpilmkipbbengaaGreatDoor
open Go.RowKit

set_option maxRecDepth 100000 in
set_option maxHeartbeats 800000 in
theorem ris_any (b : Nat) (R : RSt) (vl vd vc vo : Value) (k : Int) (w : World) (h : RefAt w b R vl vd vc vo) :
    Calls Tryz.prog 110 #[.pointer (some ⟨b, 0, none⟩), I k] w fun e w' => e = .returned (.bool (decide (0 ≤ k) && decide (k < R.chs.length))) ∧ w' = w := by
  obtain ⟨a, cp, hv⟩ := row_slice h.chs
  have c5 : w.cell? ⟨b, 5, none⟩ = some vc := by rw [h.head.cell]; rfl
  rw [hv] at c5
  clear h hv
  by_cases h0 : 0 ≤ k
  · have e : (decide (0 ≤ k) && decide (k < (R.chs.length : Int))) = decide (k < (R.chs.length : Int)) := by simp [h0]
    rw [e]; clear e
    go_enter Tryz.func110, Tryz.ntmps110
    go_wp2
    go_ret
    exact ⟨rfl, rfl⟩
  · have e : (decide (0 ≤ k) && decide (k < (R.chs.length : Int))) = false := by simp [h0]
    rw [e]; clear e
    go_enter Tryz.func110, Tryz.ntmps110
    go_wp2
    go_ret
    exact ⟨rfl, rfl⟩

set_option maxRecDepth 100000 in
set_option maxHeartbeats 800000 in
theorem rpart_any (b : Nat) (R : RSt) (vl vd vc vo : Value) (o : ROrd) (w : World) (h : RefAt w b R vl vd vc vo) (_n0 : 0 ≤ R.now) (_n1 : R.now ≤ 400) (ok : o.Ok) :
    Calls Tryz.prog 131 #[.pointer (some ⟨b, 0, none⟩), .agg #[I o.ch, I o.start, I o.stop, I o.rest]] w fun e w' => e = .returned (I (prt R.now o)) ∧ Keep w w' := by
  obtain ⟨h1, h2, h3, h4, h5, h6⟩ := ok
  have c3 : w.cell? ⟨b, 3, none⟩ = some (I R.now) := by rw [h.head.cell]; rfl
  have lb := h.head.lt
  clear h
  by_cases g1 : R.now < o.start
  · have e : prt R.now o = 0 := by rw [prt, if_pos (Or.inl g1)]
    rw [e]; clear e
    go_enter Tryz.func131, Tryz.ntmps131
    go_wp2
    go_quiet (fail)
    go_wp2
    go_ret
    exact ⟨rfl, ((Frm.refl _ _).alloc _).drewN _⟩
  · by_cases g2 : o.stop ≤ R.now
    · have e : prt R.now o = 0 := by rw [prt, if_pos (Or.inr g2)]
      rw [e]; clear e
      have g1' : decide (R.now < o.start) = false := by simpa using g1
      go_enter Tryz.func131, Tryz.ntmps131
      go_wp2
      go_quiet (fail)
      go_wp2
      go_ret
      exact ⟨rfl, ((Frm.refl _ _).alloc _).drewN _⟩
    · have e : prt R.now o = (o.rest + (o.stop - R.now) - 1) / (o.stop - R.now) := by rw [prt, if_neg (by omega)]
      rw [e]; clear e
      have g1' : decide (R.now < o.start) = false := by simpa using g1
      have g2' : decide (o.stop ≤ R.now) = false := by simpa using g2
      have g3 : R.now < o.stop := by omega
      go_enter Tryz.func131, Tryz.ntmps131
      go_wp2
      go_quiet (fail)
      go_wp2
      go_quiet (fail)
      go_wp2
      go_ret
      exact ⟨rfl, ((Frm.refl _ _).alloc _).drewN _⟩

set_option maxRecDepth 100000 in
set_option maxHeartbeats 1600000 in
theorem rwants_any (b : Nat) (R : RSt) (vl vd vc vo : Value) (k : Int) (c : RCh) (w : World) (h : RefAt w b R vl vd vc vo) (ok : R.Ok) (k0 : 0 ≤ k) (hc : R.chs[k.toNat]? = some c) :
    Calls Tryz.prog 130 #[.pointer (some ⟨b, 0, none⟩), I k] w fun e w' => e = .returned (I (wnt R.now k c R.os)) ∧ Keep w w' := by
  obtain ⟨kk, rfl⟩ := Int.eq_ofNat_of_zero_le k0
  rw [Int.toNat_natCast] at hc
  have hkl : kk < R.chs.length := (List.getElem?_eq_some_iff.1 hc).1
  obtain ⟨g, cap, hv, hcap, hcell, -⟩ := row_at h.chs (fun _ => rfl) hc (by decide)
  have d0 := hcell 0 (by decide)
  have d1 := hcell 1 (by decide)
  have d2 := hcell 2 (by decide)
  have d3 := hcell 3 (by decide)
  simp [chC] at d0 d1 d2 d3
  have c5 : w.cell? ⟨b, 5, none⟩ = some vc := by rw [h.head.cell]; rfl
  rw [hv] at c5
  have c3 : w.cell? ⟨b, 3, none⟩ = some (I R.now) := by rw [h.head.cell]; rfl
  have lb := h.head.lt
  have lg := (h.chs.lt g (by rw [hv]; rfl)).2
  have hcb := ok.chs c (List.mem_of_getElem? hc)
  have hno := ok.no
  have n0 := ok.now0
  have n1 := ok.now1
  have hkb := ok.nc1
  have H := hide (And.intro h ok)
  clear hcell hv hcap h ok hc
  cases hr : c.rests with
  | true =>
    rw [hr] at d2
    have e : wnt R.now kk c R.os = 0 := by simp [wnt, hr]
    rw [e]; clear e
    go_enter Tryz.func130, Tryz.ntmps130
    go_wp2_with fail
    go_ret
    exact ⟨rfl, (Frm.refl _ _).alloc _⟩
  | false =>
    rw [hr] at d2
    have e : wnt R.now kk c R.os = wbase R.now c + wsum R.now kk R.os := by simp [wnt, hr]
    rw [e]; clear e
    have pp := fun (o : ROrd) (W : World) (kW : Keep w W) (ho : o ∈ R.os) => rpart_any b R vl vd vc vo o W ((H.out).1.keep kW) n0 n1 ((H.out).2.os o ho)
    have PP := hide pp
    clear pp
    have hwb : 0 ≤ wbase R.now c ∧ wbase R.now c ≤ 1000 := by unfold wbase; split <;> omega
    generalize hB : wbase R.now c = B at *
    have hcase : (c.til < 0 ∧ B = c.rate) ∨ ((decide (c.til < 0) = false ∧ R.now < c.til) ∧ B = c.rate) ∨ ((decide (c.til < 0) = false ∧ decide (R.now < c.til) = false) ∧ B = 0) := by
      rw [← hB]; unfold wbase
      by_cases q1 : c.til < 0
      · exact Or.inl ⟨q1, by simp [q1]⟩
      · by_cases q2 : R.now < c.til
        · exact Or.inr (Or.inl ⟨⟨by simpa using q1, q2⟩, by simp [q2]⟩)
        · exact Or.inr (Or.inr ⟨⟨by simpa using q1, by simpa using q2⟩, by simp [q1, q2]⟩)
    clear hB
    rcases hcase with ⟨q1, qB⟩ | ⟨⟨q1, q2⟩, qB⟩ | ⟨⟨q1, q2⟩, qB⟩
    all_goals (have QB := hide qB)
    all_goals clear qB
    all_goals go_enter Tryz.func130, Tryz.ntmps130
    all_goals go_wp2_with fail
    all_goals go_quiet (fail)
    all_goals go_wp2_with fail
    all_goals
      (go_loopg [6, 7] R.os.length (fun q n i wr => ∃ j : Nat, q + j = R.os.length ∧ i = I j ∧ n = I (B + wsum R.now kk (R.os.take j)) ∧ Hid (Keep w wr))
       case atStart => exact ⟨0, by omega, rfl, by simp [wsum, QB.out], ((Frm.refl _ _).alloc _).drewN _⟩
       case round =>
        obtain ⟨j, hkj, rfl, rfl, hk⟩ := hrel
        have hR := (H.out).1.keep hk.out
        obtain ⟨a, cp, hvo⟩ := row_slice hR.os
        have cO : wr.cell? ⟨b, 6, none⟩ = some vo := by rw [hR.head.cell]; rfl
        have hwb2 := wsum_bd (now := R.now) (k := kk) (os := R.os.take j) fun x hx => (H.out).2.os x (List.mem_of_mem_take hx)
        have htl : ((R.os.take j).length : Int) ≤ 100000000 := by have := List.length_take_le j R.os; have := List.length_take_le' j R.os; omega
        by_cases hj : j < R.os.length
        · obtain ⟨o, ho⟩ : ∃ o, R.os[j]? = some o := ⟨_, List.getElem?_eq_getElem hj⟩
          obtain ⟨g2, cap2, hv2, hcap2, hcell2, -⟩ := row_at hR.os (fun _ => rfl) ho (by decide)
          have e0 := hcell2 0 (by decide)
          have e1 := hcell2 1 (by decide)
          have e2 := hcell2 2 (by decide)
          have e3 := hcell2 3 (by decide)
          simp [ordC] at e0 e1 e2 e3
          rw [hv2] at cO
          have hom := List.mem_of_getElem? ho
          have hsn : wsum R.now kk (R.os.take (j + 1)) = wsum R.now kk (R.os.take j) + wpart R.now kk o := by rw [take_snoc' ho, wsum_snoc]
          have hpb := wpart_bd (now := R.now) (k := kk) ((H.out).2.os o hom)
          have hp2 := prt_bd (now := R.now) ((H.out).2.os o hom)
          have hp3 := ((H.out).2.os o hom).2.2.2.2.2
          have HSN := hide (And.intro hkj (And.intro hsn (And.intro hk.out hom)))
          clear hR hcell2 hv2 hcap2 hsn hk hkj ho hom hvo
          generalize wsum R.now kk (R.os.take j) = G at *
          have fin : ∀ (x : Int) (w2 : World), Keep w w2 → x = wpart R.now kk o → ∃ k' : Nat, k' < gk ∧ ∃ j' : Nat, k' + j' = R.os.length ∧ I ((j : Int) + 1) = I j' ∧ I (B + G + x) = I (B + wsum R.now kk (R.os.take j')) ∧ Hid (Keep w w2) := by
            intro x w2 hw2 hx
            obtain ⟨h1, h2, h3, h4⟩ := HSN.out
            exact ⟨gk - 1, by omega, j + 1, by omega, by simp, by rw [h2, hx, Int.add_assoc], hw2⟩
          have FIN := hide fin
          clear fin
          cases hq : (o.ch == (kk : Int)) with
          | false =>
            go_wp2_with fail
            obtain ⟨k', m1, m2⟩ := FIN.out 0 wr (HSN.out).2.2.1 (by simp [wpart, hq])
            rw [Int.add_zero] at m2
            go_roundg k'
            case measure => exact m1
            case rel => exact m2
          | true =>
            go_wp2_with fail
            refine (PP.out o _ (by exact (HSN.out).2.2.1) (HSN.out).2.2.2).mono ?_
            rintro e w2 ⟨rfl, k2⟩
            go_wp2_with fail
            obtain ⟨k', m1, m2⟩ := FIN.out (prt R.now o) w2 ((HSN.out).2.2.1.trans k2) (by simp [wpart, hq])
            go_roundg k'
            case measure => exact m1
            case rel => exact m2
        · rw [hvo] at cO
          have hje : j = R.os.length := by omega
          have HK := hide (And.intro hk.out hje)
          clear hR hvo hkj hk hje
          go_wp2_with fail
          go_ret
          exact ⟨ret_int (by rw [HK.out.2, List.take_length]), HK.out.1⟩)

end Go.Proofs.YtpilmkipbbengaaGreatDoor

/- The document's pump: tick. -/
namespace Go.Proofs.YtpilmkipbbengaaGreatDoor
open Go.RowKit

theorem RefAt.lt {w : World} {b : Nat} {R : RSt} {vl vd vc vo : Value} (h : RefAt w b R vl vd vc vo) : ∀ x, RefF b vl vd vc vo x → x < w.heap.size := by
  rintro x (rfl | e | e | e | e)
  · exact h.head.lt
  · exact (h.lims.lt x e).2
  · exact (h.doses.lt x e).2
  · exact (h.chs.lt x e).2
  · exact (h.os.lt x e).2

theorem RefAt.frm {S : Nat → Prop} {w w' : World} {b : Nat} {R : RSt} {vl vd vc vo : Value} (h : RefAt w b R vl vd vc vo) (k : Frm S w w') (hs : ∀ x, RefF b vl vd vc vo x → ¬ S x) : RefAt w' b R vl vd vc vo :=
  ⟨h.head.frm k (hs _ (Or.inl rfl)), row_frm h.lims k (fun g hg => hs g (Or.inr (Or.inl hg))), row_frm h.doses k (fun g hg => hs g (Or.inr (Or.inr (Or.inl hg)))), row_frm h.chs k (fun g hg => hs g (Or.inr (Or.inr (Or.inr (Or.inl hg))))), row_frm h.os k (fun g hg => hs g (Or.inr (Or.inr (Or.inr (Or.inr hg))))), h.sep⟩

/-- on the way through a tick -/
structure TickSt (w wr : World) (b : Nat) (R R' : RSt) (vl vd vd' vc vo vout : Value) : Prop where
  lie : RefAt wr b R' vl vd' vc vo
  out : wr.ownsRow 0 100 3 vout (R'.doses.length - R.doses.length) ((R'.doses.drop R.doses.length).flatMap dsC)
  frm : Frm (RefF b vl vd vc vo) w wr
  nd : vd'.ownBlock = vd.ownBlock ∨ ∃ g, vd'.ownBlock = some g ∧ w.heap.size ≤ g
  no : ∀ g, vout.ownBlock = some g → w.heap.size ≤ g
  sep : Dis vout vd'

theorem TickSt.keep {w wr w2 : World} {b : Nat} {R R' : RSt} {vl vd vd' vc vo vout : Value} (h : TickSt w wr b R R' vl vd vd' vc vo vout) (k : Keep wr w2) : TickSt w w2 b R R' vl vd vd' vc vo vout :=
  ⟨h.lie.keep k, row_frm h.out k (fun _ _ e => e), h.frm.trans2 k (fun _ _ e => e.elim), h.nd, h.no, h.sep⟩

/-- the answer has grown -/
theorem TickSt.outs {w wr w2 w4 W : World} {b : Nat} {R R' : RSt} {vl vd vd' vc vo vout v' : Value} (h0 : ∀ x, RefF b vl vd vc vo x → x < w.heap.size) (h : TickSt w wr b R R' vl vd vd' vc vo vout) (k2 : Keep wr w2) {d : Ds} (hW : W = (w2.alloc (.cells #[I d.tick, I d.ch, I d.amt] 100)).alloc (.cells #[I d.tick, I d.ch, I d.amt] 100))
    (hg : W.grownBy w4 vout.ownBlock) (hnew : v'.ownBlock = vout.ownBlock ∨ (v'.ownBlock = some W.heap.size ∧ W.grownBy w4 none)) :
    RefAt w4 b R' vl vd' vc vo ∧ Blk w4 w2.heap.size #[I d.tick, I d.ch, I d.amt] 100 ∧ Frm (RefF b vl vd vc vo) w w4 ∧ (∀ g, v'.ownBlock = some g → w.heap.size ≤ g) ∧ Dis v' vd' := by
  have kW : Keep wr W := by rw [hW]; exact (k2.alloc _).alloc _
  have hW2 : W.heap.size = w2.heap.size + 2 := by rw [hW]; simp
  have hlt := h.lie.lt
  have hs1 := h.frm.size
  have hs2 := k2.size
  refine ⟨(h.lie.keep kW).frm (grown_frm hg) ?_, ?_, ?_, ?_, ?_⟩
  · rintro x hx hv
    have h3 := h.no x hv
    rcases hx with e | e | e | e | e
    · have := h0 x (Or.inl e); omega
    · have := h0 x (Or.inr (Or.inl e)); omega
    · exact h.sep x hv e
    · have := h0 x (Or.inr (Or.inr (Or.inr (Or.inl e)))); omega
    · have := h0 x (Or.inr (Or.inr (Or.inr (Or.inr e)))); omega
  · have hb : Blk W w2.heap.size #[I d.tick, I d.ch, I d.amt] 100 := by rw [hW]; exact (Blk.new _ _ _).alloc _
    refine hb.frm (grown_frm hg) fun e => ?_
    have := (h.out.lt _ e).2
    omega
  · refine ((h.frm.trans2 kW (fun _ _ e => e.elim))).trans2 (grown_frm hg) ?_
    intro x hx hv
    have := h.no x hv; omega
  · intro g hv
    rcases hnew with e | ⟨e, -⟩
    · rw [e] at hv; exact h.no g hv
    · rw [e] at hv; injection hv with hv; omega
  · intro x hx hv
    rcases hnew with e | ⟨e, -⟩
    · rw [e] at hx; exact h.sep x hx hv
    · rw [e] at hx; injection hx with hx
      have := hlt x (Or.inr (Or.inr (Or.inl hv)))
      omega

/-- the doses have grown -/
theorem TickSt.dosed {w w4 w5 W : World} {b : Nat} {R R' : RSt} {vl vd vd' vc vo vout v5 : Value} (h0 : ∀ x, RefF b vl vd vc vo x → x < w.heap.size) (hle : R.doses.length ≤ R'.doses.length) (hlie : RefAt w4 b R' vl vd' vc vo) {d : Ds}
    (hout : w4.ownsRow 0 100 3 vout (R'.doses.length - R.doses.length + 1) ((R'.doses.drop R.doses.length).flatMap dsC ++ dsC d)) (hfrm : Frm (RefF b vl vd vc vo) w w4) (hnd : vd'.ownBlock = vd.ownBlock ∨ ∃ g, vd'.ownBlock = some g ∧ w.heap.size ≤ g)
    (hno : ∀ g, vout.ownBlock = some g → w.heap.size ≤ g) (hsep : Dis vout vd') (hW : Keep w4 W) (hg : W.grownBy w5 vd'.ownBlock) (hnew : v5.ownBlock = vd'.ownBlock ∨ (v5.ownBlock = some W.heap.size ∧ W.grownBy w5 none))
    (hrow : w5.ownsRow 0 100 3 v5 (R'.doses.length + 1) (R'.doses.flatMap dsC ++ dsC d)) :
    TickSt w (w5.setCell ⟨b, 4, none⟩ v5) b R { R' with doses := R'.doses ++ [d] } vl vd v5 vc vo vout := by
  have hs := hlie.sep
  have hlt := hlie.lt
  have hsz := hW.size
  have hfs := hfrm.size
  have hb5 : v5.ownBlock ≠ some b := by
    rcases hnew with e | ⟨e, -⟩
    · rw [e]; exact hs.bd
    · rw [e]; intro e'; injection e' with e'; have := hlt b (Or.inl rfl); omega
  have d5 : ∀ v : Value, (∀ x, v.ownBlock = some x → x < w4.heap.size) → Dis v vd' → Dis v v5 := by
    intro v hv hd x hx e5
    rcases hnew with e | ⟨e, -⟩
    · rw [e] at e5; exact hd x hx e5
    · rw [e] at e5; injection e5 with e5; have := hv x hx; omega
  have hfr5 : ∀ v : Value, Dis v vd' → ∀ g, v.ownBlock = some g → ¬ (vd'.ownBlock = some g) := fun v hd g hg e => hd g hg e
  have kb : ∀ (v : Value) (T : TypeId) (s n : Nat) (xs : List Value), w4.ownsRow 0 T s v n xs → Dis v vd' → v.ownBlock ≠ some b → (w5.setCell ⟨b, 4, none⟩ v5).ownsRow 0 T s v n xs := by
    intro v T s n xs hr hd hne
    refine row_of_block (row_frm (row_frm hr hW (fun _ _ e => e)) (grown_frm hg) (hfr5 v hd)) fun g hg' => Below.heap_setCell _ _ _ _ fun e => hne (by rw [hg', e])
  refine ⟨⟨?_, kb vl _ _ _ _ hlie.lims hs.ld hs.bl, ?_, kb vc _ _ _ _ hlie.chs hs.dc.symm hs.bc, kb vo _ _ _ _ hlie.os hs.od.symm hs.bo, ⟨hs.bl, hb5, hs.bc, hs.bo, ?_, hs.lc, hs.lo, ?_, ?_, hs.co⟩⟩, ?_, ?_, ?_, hno, ?_⟩
  · have := ((hW.blk hlie.head).frm (grown_frm hg) hs.bd).set 4 v5
    simpa using this
  · have := row_of_block hrow (w' := w5.setCell ⟨b, 4, none⟩ v5) fun g hg' => Below.heap_setCell _ _ _ _ fun e => hb5 (by rw [hg', e])
    simpa [List.flatMap_append] using this
  · exact d5 vl (fun x hx => hlt x (Or.inr (Or.inl hx))) hs.ld
  · exact (d5 vc (fun x hx => hlt x (Or.inr (Or.inr (Or.inr (Or.inl hx))))) hs.dc.symm).symm
  · exact (d5 vo (fun x hx => hlt x (Or.inr (Or.inr (Or.inr (Or.inr hx))))) hs.od.symm).symm
  · have hbo : vout.ownBlock ≠ some b := fun e => by have := hno b e; have := h0 b (Or.inl rfl); omega
    have := kb vout _ _ _ _ hout hsep hbo
    simp only [drop_snoc _ _ _ hle, List.flatMap_append, List.length_append, List.length_cons, List.length_nil]
    rw [show R'.doses.length + (0 + 1) - R.doses.length = R'.doses.length - R.doses.length + 1 from by omega]
    simpa using this
  · refine (((hfrm.trans2 hW (fun _ _ e => e.elim))).trans2 (grown_frm hg) ?_).setCell (Or.inl rfl) _
    intro x hx e
    rcases hnd with e' | ⟨g, e', hg'⟩
    · exact Or.inr (Or.inr (Or.inl (by rw [← e', e])))
    · rw [e'] at e; injection e with e; omega
  · rcases hnew with e | ⟨e, -⟩
    · rw [e]; exact hnd
    · exact Or.inr ⟨_, e, by omega⟩
  · exact d5 vout (fun x hx => (hout.lt x hx).2) hsep

/-- an order's rest -/
theorem TickSt.setOrd {w wr : World} {b : Nat} {R R' : RSt} {vl vd vd' vc vo vout : Value} (h0 : ∀ x, RefF b vl vd vc vo x → x < w.heap.size) (h : TickSt w wr b R R' vl vd vd' vc vo vout) {g cap j : Nat} (hv : vo = .slice (some ⟨g, 0, none⟩) R'.os.length cap) {o : ROrd} (ho : R'.os[j]? = some o) (r : Int) :
    TickSt w (wr.setCell ⟨g, j * 4 + 3, none⟩ (I r)) b R { R' with os := R'.os.set j { o with rest := r } } vl vd vd' vc vo vout := by
  have hs := h.lie.sep
  have hgo : vo.ownBlock = some g := by rw [hv]; rfl
  have kb : ∀ (v : Value) (T : TypeId) (s n : Nat) (xs : List Value), wr.ownsRow 0 T s v n xs → Dis v vo → (wr.setCell ⟨g, j * 4 + 3, none⟩ (I r)).ownsRow 0 T s v n xs := by
    intro v T s n xs hr hd
    exact row_of_block hr fun g' hg' => Below.heap_setCell _ _ _ _ fun e => hd g' hg' (by rw [hgo, e])
  have hbg : b ≠ g := fun e => hs.bo (by rw [hgo, e])
  have hod : Dis vout vo := fun x hx e => by have := h.no x hx; have := h0 x (Or.inr (Or.inr (Or.inr (Or.inr e)))); omega
  refine ⟨⟨h.lie.head.other (p := ⟨g, j * 4 + 3, none⟩) hbg _, kb vl _ _ _ _ h.lie.lims hs.lo, kb vd' _ _ _ _ h.lie.doses hs.od, kb vc _ _ _ _ h.lie.chs hs.co, ?_, hs⟩, kb vout _ _ _ _ h.out hod, h.frm.setCell (Or.inr (Or.inr (Or.inr (Or.inr hgo)))) _, h.nd, h.no, h.sep⟩
  have := h.lie.os
  rw [hv] at this ⊢
  have h2 := row_set this (fun _ => rfl) ho (i := 3) (by decide) (u := I r) (x' := { o with rest := r }) rfl
  simpa using h2

theorem TickSt.setNow {w wr : World} {b : Nat} {R R' : RSt} {vl vd vd' vc vo vout : Value} (h0 : ∀ x, RefF b vl vd vc vo x → x < w.heap.size) (h : TickSt w wr b R R' vl vd vd' vc vo vout) (n : Int) :
    TickSt w (wr.setCell ⟨b, 3, none⟩ (I n)) b R { R' with now := n } vl vd vd' vc vo vout := by
  have hs := h.lie.sep
  have kb : ∀ (v : Value) (T : TypeId) (s n' : Nat) (xs : List Value), wr.ownsRow 0 T s v n' xs → v.ownBlock ≠ some b → (wr.setCell ⟨b, 3, none⟩ (I n)).ownsRow 0 T s v n' xs := by
    intro v T s n' xs hr hd
    exact row_of_block hr fun g' hg' => Below.heap_setCell _ _ _ _ fun e => hd (by rw [hg', e])
  have hob : vout.ownBlock ≠ some b := fun e => by have := h.no b e; have := h0 b (Or.inl rfl); omega
  exact ⟨⟨by have := h.lie.head.set 3 (I n); simpa using this, kb vl _ _ _ _ h.lie.lims hs.bl, kb vd' _ _ _ _ h.lie.doses hs.bd, kb vc _ _ _ _ h.lie.chs hs.bc, kb vo _ _ _ _ h.lie.os hs.bo, hs⟩, kb vout _ _ _ _ h.out hob, h.frm.setCell (Or.inl rfl) _, h.nd, h.no, h.sep⟩

def TickEnd (w : World) (b : Nat) (R R' : RSt) (vl vd vc vo : Value) (e : Ending) (w' : World) : Prop := ∃ vd' vout, e = .returned vout ∧ TickSt w w' b R R' vl vd vd' vc vo vout

set_option maxRecDepth 100000 in
set_option maxHeartbeats 3200000 in
theorem rtick_any (b : Nat) (R : RSt) (vl vd vc vo : Value) (w : World) (h : RefAt w b R vl vd vc vo) (ok : R.Ok) (hn : R.now < 400) (hd : R.doses.length ≤ 1996) :
    Calls Tryz.prog 109 #[.pointer (some ⟨b, 0, none⟩)] w fun e w' => TickEnd w b R (rtick R) vl vd vc vo e w' := by
  obtain ⟨i, hi, hz0, hz1, hz2⟩ := info_parts infoD
  have H := hide (And.intro h (And.intro ok (And.intro hn hd)))
  have hnc := ok.nc1
  clear h ok hn hd
  go_enter Tryz.func109, Tryz.ntmps109
  go_wp2_with fail
  go_loopg [3, 4, 5, 6, 7, 8, 9] R.chs.length (fun q vout k _ _ _ _ _ wr => ∃ (j : Nat) (vd' : Value), q + j = R.chs.length ∧ k = I j ∧ Hid (TickSt w wr b R (tks j R) vl vd vd' vc vo vout))
  case atStart => exact ⟨0, vd, by omega, rfl, ⟨(H.out).1, by simp [tks]; exact World.ownsRow_nil .., Frm.refl _ _, Or.inl rfl, fun g hg => by simp [Value.ownBlock] at hg, fun x hx => by simp [Value.ownBlock] at hx⟩⟩
  case round =>
    obtain ⟨j, vd', hkj, rfl, hst⟩ := hrel
    obtain ⟨hchs, hlims, hnow, hlock, hosl⟩ := tks_same j R
    have hok : (tks j R).Ok := tks_ok (H.out).2.1 (H.out).2.2.1 (H.out).2.2.2 j (by omega)
    have hR := hst.out.lie
    obtain ⟨ac, cpc, hvc⟩ := row_slice hR.chs
    have c5 : wr.cell? ⟨b, 5, none⟩ = some vc := by rw [hR.head.cell]; rfl
    rw [hvc, hchs] at c5
    have c3 : wr.cell? ⟨b, 3, none⟩ = some (I R.now) := by rw [hR.head.cell, ← hnow]; rfl
    have lb := hR.head.lt
    have hn0 := (H.out).2.1.now0
    have hn1 := (H.out).2.1.now1
    by_cases hj : j < R.chs.length
    · obtain ⟨c, hc⟩ : ∃ c, (tks j R).chs[j]? = some c := ⟨_, List.getElem?_eq_getElem (by rw [hchs]; exact hj)⟩
      have cw := rwants_any b (tks j R) vl vd' vc vo (j : Int) c wr hR hok (by omega) (by simpa using hc)
      have cr := fun W (kW : Keep wr W) => rroom_any b (tks j R) vl vd' vc vo (j : Int) R.now W (hR.keep kW) hok (by omega) (by omega) hn0 (by omega)
      rw [Int.toNat_natCast] at cr
      rw [hnow] at cw
      have hrb := (fold_bd (k := j) (t := R.now) hok.doses hok.nd (tks j R).lims hok.lims 1000 (by omega) (by omega))
      have hww : 0 ≤ wnt R.now j c (tks j R).os ∧ wnt R.now j c (tks j R).os ≤ 1000000000000 := by
        have h1 := wsum_bd (now := R.now) (k := j) hok.os
        have h2 := hok.no
        have h3 := hok.chs c (List.mem_of_getElem? hc)
        have h4 : 0 ≤ wbase R.now c ∧ wbase R.now c ≤ 1000 := by unfold wbase; split <;> omega
        unfold wnt; split <;> omega
      have hamt : amt (tks j R) j c = if rroom (tks j R).doses (tks j R).lims j R.now < wnt R.now j c (tks j R).os then rroom (tks j R).doses (tks j R).lims j R.now else wnt R.now j c (tks j R).os := by rw [amt, hnow]
      have htk : tks (j + 1) R = if amt (tks j R) j c ≤ 0 then tks j R else { tks j R with doses := (tks j R).doses ++ [⟨R.now, j, amt (tks j R) j c⟩], os := dist R.now j (tks j R).os (amt (tks j R) j c) } := by
        simp only [tks, tk1, hc, hnow]
      change -2000000 ≤ rroom (tks j R).doses (tks j R).lims j R.now ∧ rroom (tks j R).doses (tks j R).lims j R.now ≤ 1000 at hrb
      have hle := amt_le hok j c
      generalize hRm : rroom (tks j R).doses (tks j R).lims j R.now = Rm at *
      generalize hWn : wnt R.now j c (tks j R).os = Wn at *
      generalize hA : amt (tks j R) j c = A at *
      have CW := hide cw
      have CR := hide cr
      have HT := hide (And.intro hkj (And.intro hst.out (And.intro hok (And.intro htk hamt))))
      clear cw cr htk hamt hRm hWn hA hst hok hR hkj hc hchs hlims hnow hlock hosl hvc
      go_wp2_with fail
      refine (CW.out).mono ?_
      rintro e w1 ⟨rfl, k1⟩
      have c31 : w1.cell? ⟨b, 3, none⟩ = some (I R.now) := k1.cell c3 (fun e => e)
      have K1 := hide k1
      clear k1
      go_wp2_with fail
      refine (CR.out w1 K1.out).mono ?_
      rintro e w2 ⟨rfl, k2⟩
      have kk2 : Keep wr w2 := (K1.out).trans k2
      have c32 : w2.cell? ⟨b, 3, none⟩ = some (I R.now) := kk2.cell c3 (fun e => e)
      have K2 := hide kk2
      clear k2 kk2 c31
      -- n: what is given
      have skip : ∀ (w3 : World), Keep wr w3 → A ≤ 0 → ∃ k' : Nat, k' < gk ∧ ∃ (j' : Nat) (vd'' : Value), k' + j' = R.chs.length ∧ I ((j : Int) + 1) = I j' ∧ Hid (TickSt w w3 b R (tks j' R) vl vd vd'' vc vo u3) := by
        intro w3 hw3 hA
        obtain ⟨h1, h2, h3, h4, h5⟩ := HT.out
        rw [if_pos hA] at h4
        exact ⟨gk - 1, by omega, j + 1, vd', by omega, by simp, by rw [h4]; exact h2.keep hw3⟩
      have SKIP := hide skip
      clear skip
      by_cases q1 : Rm < Wn
      · have hA : A = Rm := by rw [(HT.out).2.2.2.2, if_pos q1]
        by_cases q2 : Rm ≤ 0
        · go_wp2_with fail
          obtain ⟨k', m1, m2⟩ := SKIP.out w2 K2.out (by omega)
          go_roundg k'
          case measure => exact m1
          case rel => exact m2
        · subst hA
          have q2' : 0 < A := by omega
          have q2'' : decide (A ≤ 0) = false := by simpa using q2
          have hrow : ((w2.alloc (.cells #[I R.now, I j, I A] 100)).alloc (.cells #[I R.now, I j, I A] 100)).ownsRow 0 100 3 u3 ((tks j R).doses.length - R.doses.length) (((tks j R).doses.drop R.doses.length).flatMap dsC) := row_frm (HT.out).2.1.out (((K2.out).alloc _).alloc _) (fun _ _ e => e)
          have hnd2 : (tks j R).doses.length ≤ 2000 := (HT.out).2.2.1.nd
          have HROW := hide hrow
          clear hrow
          have h00 := (H.out).1.lt
          have HLT := hide h00
          clear h00
          go_wp2_with (at_builtin; refine wpList_append_row _ rfl _ _ 35 rfl 100 i (.agg #[I 0, I 0, I 0]) 3 24 Tryz.underlying35 hi hz0 hz1 hz2 rfl (by decide) _ _ _ rfl HROW.out ⟨w2.heap.size + 1, 0, none⟩ 1 1 [I R.now, I j, I A] rfl rfl (cell_news _ [I R.now, I j, I A] _ _ (by simp)) (by intro u hu; simp at hu; rcases hu with rfl | rfl | rfl <;> rfl) (by unfold maxLen; omega) (by omega) ?_; intro v' w4 hown hgr hnew; have OUT := hide (And.intro ((HT.out).2.1.outs HLT.out K2.out (d := ⟨R.now, j, A⟩) rfl hgr hnew) hown); clear hown hgr hnew; have bx := (OUT.out).1.2.1; have x0 : w4.cell? ⟨w2.heap.size, 0, none⟩ = some (I R.now) := by { rw [bx.cell]; rfl }; have x1 : w4.cell? ⟨w2.heap.size, 1, none⟩ = some (I j) := by { rw [bx.cell]; rfl }; have x2 : w4.cell? ⟨w2.heap.size, 2, none⟩ = some (I A) := by { rw [bx.cell]; rfl }; have lx := bx.lt; have hd4 := (OUT.out).1.1.head; have c44 : w4.cell? ⟨b, 4, none⟩ = some vd' := by { rw [hd4.cell]; rfl }; have f44 := hd4.frozen 4; have lb4 := hd4.lt; clear bx hd4)
          obtain ⟨ad, cpd, hvd⟩ := row_slice (OUT.out).1.1.doses
          subst hvd
          have hle0 : R.doses.length ≤ (tks j R).doses.length := (tks_pre j R).length_le
          have HLE := hide hle0
          clear hle0
          go_cut [] from 10 to 111 (fun wx => Hid (∃ v5, TickSt w wx b R { tks j R with doses := (tks j R).doses ++ [⟨R.now, j, A⟩] } vl vd v5 vc vo v'))
          case first =>
            go_region_law (refine step_append_row rfl (.tmp 50) (.tmp 52) 35 rfl 100 i (.agg #[I 0, I 0, I 0]) 3 24 Tryz.underlying35 hi hz0 hz1 hz2 rfl (by decide) (.slice ad (tks j R).doses.length cpd) (tks j R).doses.length ((tks j R).doses.flatMap dsC) (by simp [Act.eval]) (by exact row_frm (OUT.out).1.1.doses (show Keep _ _ from ((Frm.refl _ _).alloc _).drew) (fun _ _ e => e)) ⟨w4.heap.size, 0, none⟩ 1 1 [I R.now, I j, I A] (by simp [Act.eval]) rfl (by exact cell_news _ [I R.now, I j, I A] _ _ rfl) (by intro u hu; simp at hu; rcases hu with rfl | rfl | rfl <;> rfl) (by unfold maxLen; omega) (by omega) ?_; intro v5 w5 hown5 hgr5 hnew5; obtain ⟨a5, cp5, hv5⟩ := row_slice hown5; subst hv5; have bb5 := ((show Keep _ _ from ((Frm.refl _ _).alloc _).drew).blk (OUT.out).1.1.head).frm (grown_frm hgr5) (OUT.out).1.1.sep.bd; have c54 : w5.cell? ⟨b, 4, none⟩ = some (.slice ad (tks j R).doses.length cpd) := (by { rw [bb5.cell]; rfl }); have f54 := bb5.frozen 4; have FIVE := hide (And.intro hown5 (And.intro hgr5 hnew5)); clear hown5 hgr5 hnew5 bb5)
            all_goals (go_wp2_with fail; go_meet)
            all_goals exact ⟨_, TickSt.dosed (d := ⟨R.now, j, A⟩) HLT.out HLE.out (OUT.out).1.1 (OUT.out).2 (OUT.out).1.2.2.1 (HT.out).2.1.nd (OUT.out).1.2.2.2.1 (OUT.out).1.2.2.2.2 (((Frm.refl _ _).alloc _).drew) (FIVE.out).2.1 (FIVE.out).2.2 (FIVE.out).1⟩
          case rest =>
            obtain ⟨v5, hst5⟩ := hcut.out
            have hoss : ∀ o ∈ (tks j R).os, o.Ok := (HT.out).2.2.1.os
            have hosn : (tks j R).os.length ≤ 100000000 := (HT.out).2.2.1.no
            have hnowj : (tks j R).now = R.now := (tks_same j R).2.2.1
            have ST5 := hide (And.intro hst5 (And.intro hoss hnowj))
            clear hst5 hoss hcut x0 x1 x2 lx c44 f44 lb4 c3 c5 c32 hnowj hnd2
            clear OUT HROW
            have fin : ∀ (wi : World) (osC : List ROrd), TickSt w wi b R { tks j R with doses := (tks j R).doses ++ [⟨R.now, j, A⟩], os := osC } vl vd v5 vc vo v' → osC = dist R.now j (tks j R).os A →
                ∃ k' : Nat, k' < gk ∧ ∃ (j' : Nat) (vd'' : Value), k' + j' = R.chs.length ∧ I ((j : Int) + 1) = I j' ∧ Hid (TickSt w wi b R (tks j' R) vl vd vd'' vc vo v') := by
              intro wi osC hs he
              obtain ⟨h1, h2, h3, h4, h5⟩ := HT.out
              rw [if_neg (by omega)] at h4
              exact ⟨gk - 1, by omega, j + 1, v5, by omega, by simp, by rw [h4, ← he]; exact hs⟩
            have FIN := hide fin
            clear fin
            go_wp2_with fail
            go_loopg [5, 8, 9] (tks j R).os.length (fun q n i _ wi => ∃ (jj : Nat) (n' : Int), q + jj = (tks j R).os.length ∧ i = I jj ∧ n = I n' ∧ 0 ≤ n' ∧ n' ≤ 1000 ∧ Hid (∃ osC : List ROrd, TickSt w wi b R { tks j R with doses := (tks j R).doses ++ [⟨R.now, j, A⟩], os := osC } vl vd v5 vc vo v' ∧ osC.length = (tks j R).os.length ∧ (∀ o ∈ osC, o.Ok) ∧ dist R.now j (tks j R).os A = osC.take jj ++ dist R.now j (osC.drop jj) n'))
            case atStart => exact ⟨0, A, by omega, rfl, rfl, by omega, by omega, (tks j R).os, (ST5.out).1, rfl, (ST5.out).2.1, by simp⟩
            case round =>
              obtain ⟨jj, n', hq, rfl, rfl, n0, n1, hos⟩ := hrel
              obtain ⟨osC, hs, hlen, hokC, hdist⟩ := hos.out
              have hR := hs.lie
              obtain ⟨ao, cpo, hvo⟩ := row_slice hR.os
              have cO : wr.cell? ⟨b, 6, none⟩ = some vo := by rw [hR.head.cell]; rfl
              have lbi := hR.head.lt
              by_cases hjj : jj < (tks j R).os.length
              · obtain ⟨o, ho⟩ : ∃ o, osC[jj]? = some o := ⟨_, List.getElem?_eq_getElem (by rw [hlen]; exact hjj)⟩
                obtain ⟨g, cap, hv, hcap, hcell, hfz⟩ := row_at hR.os (fun _ => rfl) ho (by decide)
                have e0 := hcell 0 (by decide)
                have e1 := hcell 1 (by decide)
                have e2 := hcell 2 (by decide)
                have e3 := hcell 3 (by decide)
                simp [ordC] at e0 e1 e2 e3
                have hv2 : vo = .slice (some ⟨g, 0, none⟩) (tks j R).os.length cap := by rw [hv]; simp only [hlen]
                have hoo := hokC o (List.mem_of_getElem? ho)
                have hpb := prt_bd (now := R.now) hoo
                have hro := hoo.2.2.2.2
                have hdr : osC.drop jj = o :: osC.drop (jj + 1) := by
                  obtain ⟨lj, vj⟩ := List.getElem?_eq_some_iff.1 ho
                  rw [List.drop_eq_getElem_cons lj, vj]
                rw [hv2] at cO
                have gl := (hR.os.lt g (by rw [hv]; rfl)).2
                by_cases hn' : n' ≤ 0
                · have hx := FIN.out wr osC hs (by rw [hdist, dist_le _ _ _ _ hn', List.take_append_drop])
                  have hnd : decide (0 < n') = false := by simp; omega
                  have HX := hide hx
                  clear hx hR hs hlen hokC hdist hos hcell hfz hv hv2 hcap ho hoo hdr e0 e1 e2 e3 hq hvo
                  go_wp2_with fail
                  obtain ⟨k', m1, m2⟩ := HX.out
                  go_roundg k'
                  case measure => exact m1
                  case rel => exact m2
                · have hn'' : 0 < n' := by omega
                  have hnd : decide (0 < n') = true := by simpa using hn''
                  cases hne : (o.ch != (j : Int)) with
                  | true =>
                    have nx : ∃ k' : Nat, k' < gk ∧ ∃ (jj' : Nat) (n'' : Int), k' + jj' = (tks j R).os.length ∧ I ((jj : Int) + 1) = I jj' ∧ I n' = I n'' ∧ 0 ≤ n'' ∧ n'' ≤ 1000 ∧ Hid (∃ osC : List ROrd, TickSt w wr b R { tks j R with doses := (tks j R).doses ++ [⟨R.now, j, A⟩], os := osC } vl vd v5 vc vo v' ∧ osC.length = (tks j R).os.length ∧ (∀ o ∈ osC, o.Ok) ∧ dist R.now j (tks j R).os A = osC.take jj' ++ dist R.now j (osC.drop jj') n'') := by
                      refine ⟨gk - 1, by omega, jj + 1, n', by omega, by simp, rfl, n0, n1, osC, hs, hlen, hokC, ?_⟩
                      rw [hdist, hdr, take_snoc' ho]
                      have : dist R.now j (o :: osC.drop (jj + 1)) n' = o :: dist R.now j (osC.drop (jj + 1)) n' := by simp only [dist, if_neg hn', hne, if_true]
                      rw [this]; simp
                    have NX := hide nx
                    clear nx hR hs hlen hokC hdist hos hcell hfz hv hv2 hcap ho hoo hdr hq hvo
                    go_wp2_with fail
                    obtain ⟨k', m1, m2⟩ := NX.out
                    go_roundg k'
                    case measure => exact m1
                    case rel => exact m2
                  | false =>
                    have pp := rpart_any b _ vl v5 vc vo o wr hR (by show 0 ≤ (tks j R).now; rw [(ST5.out).2.2]; exact hn0) (by show (tks j R).now ≤ 400; rw [(ST5.out).2.2]; exact hn1) hoo
                    dsimp only at pp
                    rw [(ST5.out).2.2] at pp
                    have nx : ∀ (w1 wz : World) (a : Int), Keep wr w1 → Keep (w1.setCell ⟨g, jj * 4 + 3, none⟩ (I (o.rest - a))) wz → a = (if n' < prt R.now o then n' else prt R.now o) → ∃ k' : Nat, k' < gk ∧ ∃ (jj' : Nat) (n'' : Int), k' + jj' = (tks j R).os.length ∧ I ((jj : Int) + 1) = I jj' ∧ I (n' - a) = I n'' ∧ 0 ≤ n'' ∧ n'' ≤ 1000 ∧ Hid (∃ osC : List ROrd, TickSt w wz b R { tks j R with doses := (tks j R).doses ++ [⟨R.now, j, A⟩], os := osC } vl vd v5 vc vo v' ∧ osC.length = (tks j R).os.length ∧ (∀ o ∈ osC, o.Ok) ∧ dist R.now j (tks j R).os A = osC.take jj' ++ dist R.now j (osC.drop jj') n'') := by
                      intro w1 wz a k1 kz ha
                      have ha2 : 0 ≤ a ∧ a ≤ n' ∧ a ≤ prt R.now o := by rw [ha]; split <;> omega
                      have hjl : jj < osC.length := by rw [hlen]; exact hjj
                      refine ⟨gk - 1, by omega, jj + 1, n' - a, by omega, by simp, rfl, by omega, by omega, osC.set jj { o with rest := o.rest - a }, ?_, by simp [hlen], ?_, ?_⟩
                      · have := ((hs.keep k1).setOrd HLT.out hv ho (o.rest - a)).keep kz
                        exact this
                      · intro x hx
                        rcases List.mem_or_eq_of_mem_set hx with hx | rfl
                        · exact hokC x hx
                        · exact ⟨hoo.1, hoo.2.1, hoo.2.2.1, hoo.2.2.2.1, by show 0 ≤ o.rest - a; omega, by show o.rest - a ≤ 1000; omega⟩
                      · rw [hdist, hdr]
                        have hd1 : dist R.now j (o :: osC.drop (jj + 1)) n' = { o with rest := o.rest - a } :: dist R.now j (osC.drop (jj + 1)) (n' - a) := by
                          simp only [dist, if_neg hn', hne]; rw [ha]; simp
                        rw [hd1, take_snoc' (l := osC.set jj { o with rest := o.rest - a }) (x := { o with rest := o.rest - a }) (by simp [hjl])]
                        rw [List.take_set_of_le (by omega), List.drop_set_of_lt (by omega)]
                        simp
                    have NX := hide nx
                    have PP := hide pp
                    have fz := hfz (jj * 4 + 3)
                    have HRR := hide hR
                    clear nx pp hR hs hlen hokC hdist hos hcell hfz hv hv2 hcap ho hoo hdr hq hvo
                    generalize hP : prt R.now o = P at *
                    clear hP
                    go_wp2_with fail
                    refine (PP.out).mono ?_
                    rintro e w1 ⟨rfl, k1⟩
                    have d3 : w1.cell? ⟨g, jj * 4 + 3, none⟩ = some (I o.rest) := k1.cell e3 (fun e => e)
                    have dO : w1.cell? ⟨b, 6, none⟩ = some (.slice (some ⟨g, 0, none⟩) (tks j R).os.length cap) := k1.cell cO (fun e => e)
                    have df : w1.frozen? ⟨g, jj * 4 + 3, none⟩ = false := k1.frozen gl fz (fun e => e)
                    have K1i := hide k1
                    clear k1 e0 e1 e2 e3 cO fz
                    have wa : IntKind.i64.wrap (o.rest - n') = o.rest - n' := wrap_id _ (by omega) (by omega)
                    have wb : IntKind.i64.wrap (o.rest - P) = o.rest - P := wrap_id _ (by omega) (by omega)
                    by_cases hlt : n' < P
                    · go_wp2_with fail
                      go_region
                      all_goals (go_wp2_with fail)
                      all_goals (obtain ⟨k', m1, m2⟩ := NX.out w1 _ n' K1i.out ((Frm.refl _ _).drew) (by rw [if_pos hlt]))
                      all_goals (rw [Int.sub_self] at m2)
                      all_goals (go_roundg k')
                      all_goals first | exact m1 | exact m2
                    · go_wp2_with fail
                      go_region
                      all_goals (go_wp2_with fail)
                      all_goals (obtain ⟨k', m1, m2⟩ := NX.out w1 _ P K1i.out ((Frm.refl _ _).drew) (by rw [if_neg (by omega)]))
                      all_goals (go_roundg k')
                      all_goals first | exact m1 | exact m2
              · have hje : jj = (tks j R).os.length := by omega
                have hx := FIN.out wr osC hs (by rw [hdist, List.drop_eq_nil_of_le (by omega), List.take_of_length_le (by omega)]; simp [dist])
                rw [hvo] at cO
                have hlo : (osC.length : Int) ≤ (jj : Int) := by omega
                have HX := hide hx
                simp only [hlen] at cO
                clear hx hR hs hlen hokC hdist hos hq hvo hje hlo
                go_wp2_with fail
                obtain ⟨k', m1, m2⟩ := HX.out
                go_roundg k'
                case measure => exact m1
                case rel => exact m2
      · have hA : A = Wn := by rw [(HT.out).2.2.2.2, if_neg q1]
        by_cases q2 : Wn ≤ 0
        · go_wp2_with fail
          obtain ⟨k', m1, m2⟩ := SKIP.out w2 K2.out (by omega)
          go_roundg k'
          case measure => exact m1
          case rel => exact m2
        · subst hA
          have q2' : 0 < A := by omega
          have q2'' : decide (A ≤ 0) = false := by simpa using q2
          have hrow : ((w2.alloc (.cells #[I R.now, I j, I A] 100)).alloc (.cells #[I R.now, I j, I A] 100)).ownsRow 0 100 3 u3 ((tks j R).doses.length - R.doses.length) (((tks j R).doses.drop R.doses.length).flatMap dsC) := row_frm (HT.out).2.1.out (((K2.out).alloc _).alloc _) (fun _ _ e => e)
          have hnd2 : (tks j R).doses.length ≤ 2000 := (HT.out).2.2.1.nd
          have HROW := hide hrow
          clear hrow
          have h00 := (H.out).1.lt
          have HLT := hide h00
          clear h00
          go_wp2_with (at_builtin; refine wpList_append_row _ rfl _ _ 35 rfl 100 i (.agg #[I 0, I 0, I 0]) 3 24 Tryz.underlying35 hi hz0 hz1 hz2 rfl (by decide) _ _ _ rfl HROW.out ⟨w2.heap.size + 1, 0, none⟩ 1 1 [I R.now, I j, I A] rfl rfl (cell_news _ [I R.now, I j, I A] _ _ (by simp)) (by intro u hu; simp at hu; rcases hu with rfl | rfl | rfl <;> rfl) (by unfold maxLen; omega) (by omega) ?_; intro v' w4 hown hgr hnew; have OUT := hide (And.intro ((HT.out).2.1.outs HLT.out K2.out (d := ⟨R.now, j, A⟩) rfl hgr hnew) hown); clear hown hgr hnew; have bx := (OUT.out).1.2.1; have x0 : w4.cell? ⟨w2.heap.size, 0, none⟩ = some (I R.now) := by { rw [bx.cell]; rfl }; have x1 : w4.cell? ⟨w2.heap.size, 1, none⟩ = some (I j) := by { rw [bx.cell]; rfl }; have x2 : w4.cell? ⟨w2.heap.size, 2, none⟩ = some (I A) := by { rw [bx.cell]; rfl }; have lx := bx.lt; have hd4 := (OUT.out).1.1.head; have c44 : w4.cell? ⟨b, 4, none⟩ = some vd' := by { rw [hd4.cell]; rfl }; have f44 := hd4.frozen 4; have lb4 := hd4.lt; clear bx hd4)
          obtain ⟨ad, cpd, hvd⟩ := row_slice (OUT.out).1.1.doses
          subst hvd
          have hle0 : R.doses.length ≤ (tks j R).doses.length := (tks_pre j R).length_le
          have HLE := hide hle0
          clear hle0
          go_cut [] from 10 to 111 (fun wx => Hid (∃ v5, TickSt w wx b R { tks j R with doses := (tks j R).doses ++ [⟨R.now, j, A⟩] } vl vd v5 vc vo v'))
          case first =>
            go_region_law (refine step_append_row rfl (.tmp 50) (.tmp 52) 35 rfl 100 i (.agg #[I 0, I 0, I 0]) 3 24 Tryz.underlying35 hi hz0 hz1 hz2 rfl (by decide) (.slice ad (tks j R).doses.length cpd) (tks j R).doses.length ((tks j R).doses.flatMap dsC) (by simp [Act.eval]) (by exact row_frm (OUT.out).1.1.doses (show Keep _ _ from ((Frm.refl _ _).alloc _).drew) (fun _ _ e => e)) ⟨w4.heap.size, 0, none⟩ 1 1 [I R.now, I j, I A] (by simp [Act.eval]) rfl (by exact cell_news _ [I R.now, I j, I A] _ _ rfl) (by intro u hu; simp at hu; rcases hu with rfl | rfl | rfl <;> rfl) (by unfold maxLen; omega) (by omega) ?_; intro v5 w5 hown5 hgr5 hnew5; obtain ⟨a5, cp5, hv5⟩ := row_slice hown5; subst hv5; have bb5 := ((show Keep _ _ from ((Frm.refl _ _).alloc _).drew).blk (OUT.out).1.1.head).frm (grown_frm hgr5) (OUT.out).1.1.sep.bd; have c54 : w5.cell? ⟨b, 4, none⟩ = some (.slice ad (tks j R).doses.length cpd) := (by { rw [bb5.cell]; rfl }); have f54 := bb5.frozen 4; have FIVE := hide (And.intro hown5 (And.intro hgr5 hnew5)); clear hown5 hgr5 hnew5 bb5)
            all_goals (go_wp2_with fail; go_meet)
            all_goals exact ⟨_, TickSt.dosed (d := ⟨R.now, j, A⟩) HLT.out HLE.out (OUT.out).1.1 (OUT.out).2 (OUT.out).1.2.2.1 (HT.out).2.1.nd (OUT.out).1.2.2.2.1 (OUT.out).1.2.2.2.2 (((Frm.refl _ _).alloc _).drew) (FIVE.out).2.1 (FIVE.out).2.2 (FIVE.out).1⟩
          case rest =>
            obtain ⟨v5, hst5⟩ := hcut.out
            have hoss : ∀ o ∈ (tks j R).os, o.Ok := (HT.out).2.2.1.os
            have hosn : (tks j R).os.length ≤ 100000000 := (HT.out).2.2.1.no
            have hnowj : (tks j R).now = R.now := (tks_same j R).2.2.1
            have ST5 := hide (And.intro hst5 (And.intro hoss hnowj))
            clear hst5 hoss hcut x0 x1 x2 lx c44 f44 lb4 c3 c5 c32 hnowj hnd2
            clear OUT HROW
            have fin : ∀ (wi : World) (osC : List ROrd), TickSt w wi b R { tks j R with doses := (tks j R).doses ++ [⟨R.now, j, A⟩], os := osC } vl vd v5 vc vo v' → osC = dist R.now j (tks j R).os A →
                ∃ k' : Nat, k' < gk ∧ ∃ (j' : Nat) (vd'' : Value), k' + j' = R.chs.length ∧ I ((j : Int) + 1) = I j' ∧ Hid (TickSt w wi b R (tks j' R) vl vd vd'' vc vo v') := by
              intro wi osC hs he
              obtain ⟨h1, h2, h3, h4, h5⟩ := HT.out
              rw [if_neg (by omega)] at h4
              exact ⟨gk - 1, by omega, j + 1, v5, by omega, by simp, by rw [h4, ← he]; exact hs⟩
            have FIN := hide fin
            clear fin
            go_wp2_with fail
            go_loopg [5, 8, 9] (tks j R).os.length (fun q n i _ wi => ∃ (jj : Nat) (n' : Int), q + jj = (tks j R).os.length ∧ i = I jj ∧ n = I n' ∧ 0 ≤ n' ∧ n' ≤ 1000 ∧ Hid (∃ osC : List ROrd, TickSt w wi b R { tks j R with doses := (tks j R).doses ++ [⟨R.now, j, A⟩], os := osC } vl vd v5 vc vo v' ∧ osC.length = (tks j R).os.length ∧ (∀ o ∈ osC, o.Ok) ∧ dist R.now j (tks j R).os A = osC.take jj ++ dist R.now j (osC.drop jj) n'))
            case atStart => exact ⟨0, A, by omega, rfl, rfl, by omega, by omega, (tks j R).os, (ST5.out).1, rfl, (ST5.out).2.1, by simp⟩
            case round =>
              obtain ⟨jj, n', hq, rfl, rfl, n0, n1, hos⟩ := hrel
              obtain ⟨osC, hs, hlen, hokC, hdist⟩ := hos.out
              have hR := hs.lie
              obtain ⟨ao, cpo, hvo⟩ := row_slice hR.os
              have cO : wr.cell? ⟨b, 6, none⟩ = some vo := by rw [hR.head.cell]; rfl
              have lbi := hR.head.lt
              by_cases hjj : jj < (tks j R).os.length
              · obtain ⟨o, ho⟩ : ∃ o, osC[jj]? = some o := ⟨_, List.getElem?_eq_getElem (by rw [hlen]; exact hjj)⟩
                obtain ⟨g, cap, hv, hcap, hcell, hfz⟩ := row_at hR.os (fun _ => rfl) ho (by decide)
                have e0 := hcell 0 (by decide)
                have e1 := hcell 1 (by decide)
                have e2 := hcell 2 (by decide)
                have e3 := hcell 3 (by decide)
                simp [ordC] at e0 e1 e2 e3
                have hv2 : vo = .slice (some ⟨g, 0, none⟩) (tks j R).os.length cap := by rw [hv]; simp only [hlen]
                have hoo := hokC o (List.mem_of_getElem? ho)
                have hpb := prt_bd (now := R.now) hoo
                have hro := hoo.2.2.2.2
                have hdr : osC.drop jj = o :: osC.drop (jj + 1) := by
                  obtain ⟨lj, vj⟩ := List.getElem?_eq_some_iff.1 ho
                  rw [List.drop_eq_getElem_cons lj, vj]
                rw [hv2] at cO
                have gl := (hR.os.lt g (by rw [hv]; rfl)).2
                by_cases hn' : n' ≤ 0
                · have hx := FIN.out wr osC hs (by rw [hdist, dist_le _ _ _ _ hn', List.take_append_drop])
                  have hnd : decide (0 < n') = false := by simp; omega
                  have HX := hide hx
                  clear hx hR hs hlen hokC hdist hos hcell hfz hv hv2 hcap ho hoo hdr e0 e1 e2 e3 hq hvo
                  go_wp2_with fail
                  obtain ⟨k', m1, m2⟩ := HX.out
                  go_roundg k'
                  case measure => exact m1
                  case rel => exact m2
                · have hn'' : 0 < n' := by omega
                  have hnd : decide (0 < n') = true := by simpa using hn''
                  cases hne : (o.ch != (j : Int)) with
                  | true =>
                    have nx : ∃ k' : Nat, k' < gk ∧ ∃ (jj' : Nat) (n'' : Int), k' + jj' = (tks j R).os.length ∧ I ((jj : Int) + 1) = I jj' ∧ I n' = I n'' ∧ 0 ≤ n'' ∧ n'' ≤ 1000 ∧ Hid (∃ osC : List ROrd, TickSt w wr b R { tks j R with doses := (tks j R).doses ++ [⟨R.now, j, A⟩], os := osC } vl vd v5 vc vo v' ∧ osC.length = (tks j R).os.length ∧ (∀ o ∈ osC, o.Ok) ∧ dist R.now j (tks j R).os A = osC.take jj' ++ dist R.now j (osC.drop jj') n'') := by
                      refine ⟨gk - 1, by omega, jj + 1, n', by omega, by simp, rfl, n0, n1, osC, hs, hlen, hokC, ?_⟩
                      rw [hdist, hdr, take_snoc' ho]
                      have : dist R.now j (o :: osC.drop (jj + 1)) n' = o :: dist R.now j (osC.drop (jj + 1)) n' := by simp only [dist, if_neg hn', hne, if_true]
                      rw [this]; simp
                    have NX := hide nx
                    clear nx hR hs hlen hokC hdist hos hcell hfz hv hv2 hcap ho hoo hdr hq hvo
                    go_wp2_with fail
                    obtain ⟨k', m1, m2⟩ := NX.out
                    go_roundg k'
                    case measure => exact m1
                    case rel => exact m2
                  | false =>
                    have pp := rpart_any b _ vl v5 vc vo o wr hR (by show 0 ≤ (tks j R).now; rw [(ST5.out).2.2]; exact hn0) (by show (tks j R).now ≤ 400; rw [(ST5.out).2.2]; exact hn1) hoo
                    dsimp only at pp
                    rw [(ST5.out).2.2] at pp
                    have nx : ∀ (w1 wz : World) (a : Int), Keep wr w1 → Keep (w1.setCell ⟨g, jj * 4 + 3, none⟩ (I (o.rest - a))) wz → a = (if n' < prt R.now o then n' else prt R.now o) → ∃ k' : Nat, k' < gk ∧ ∃ (jj' : Nat) (n'' : Int), k' + jj' = (tks j R).os.length ∧ I ((jj : Int) + 1) = I jj' ∧ I (n' - a) = I n'' ∧ 0 ≤ n'' ∧ n'' ≤ 1000 ∧ Hid (∃ osC : List ROrd, TickSt w wz b R { tks j R with doses := (tks j R).doses ++ [⟨R.now, j, A⟩], os := osC } vl vd v5 vc vo v' ∧ osC.length = (tks j R).os.length ∧ (∀ o ∈ osC, o.Ok) ∧ dist R.now j (tks j R).os A = osC.take jj' ++ dist R.now j (osC.drop jj') n'') := by
                      intro w1 wz a k1 kz ha
                      have ha2 : 0 ≤ a ∧ a ≤ n' ∧ a ≤ prt R.now o := by rw [ha]; split <;> omega
                      have hjl : jj < osC.length := by rw [hlen]; exact hjj
                      refine ⟨gk - 1, by omega, jj + 1, n' - a, by omega, by simp, rfl, by omega, by omega, osC.set jj { o with rest := o.rest - a }, ?_, by simp [hlen], ?_, ?_⟩
                      · have := ((hs.keep k1).setOrd HLT.out hv ho (o.rest - a)).keep kz
                        exact this
                      · intro x hx
                        rcases List.mem_or_eq_of_mem_set hx with hx | rfl
                        · exact hokC x hx
                        · exact ⟨hoo.1, hoo.2.1, hoo.2.2.1, hoo.2.2.2.1, by show 0 ≤ o.rest - a; omega, by show o.rest - a ≤ 1000; omega⟩
                      · rw [hdist, hdr]
                        have hd1 : dist R.now j (o :: osC.drop (jj + 1)) n' = { o with rest := o.rest - a } :: dist R.now j (osC.drop (jj + 1)) (n' - a) := by
                          simp only [dist, if_neg hn', hne]; rw [ha]; simp
                        rw [hd1, take_snoc' (l := osC.set jj { o with rest := o.rest - a }) (x := { o with rest := o.rest - a }) (by simp [hjl])]
                        rw [List.take_set_of_le (by omega), List.drop_set_of_lt (by omega)]
                        simp
                    have NX := hide nx
                    have PP := hide pp
                    have fz := hfz (jj * 4 + 3)
                    have HRR := hide hR
                    clear nx pp hR hs hlen hokC hdist hos hcell hfz hv hv2 hcap ho hoo hdr hq hvo
                    generalize hP : prt R.now o = P at *
                    clear hP
                    go_wp2_with fail
                    refine (PP.out).mono ?_
                    rintro e w1 ⟨rfl, k1⟩
                    have d3 : w1.cell? ⟨g, jj * 4 + 3, none⟩ = some (I o.rest) := k1.cell e3 (fun e => e)
                    have dO : w1.cell? ⟨b, 6, none⟩ = some (.slice (some ⟨g, 0, none⟩) (tks j R).os.length cap) := k1.cell cO (fun e => e)
                    have df : w1.frozen? ⟨g, jj * 4 + 3, none⟩ = false := k1.frozen gl fz (fun e => e)
                    have K1i := hide k1
                    clear k1 e0 e1 e2 e3 cO fz
                    have wa : IntKind.i64.wrap (o.rest - n') = o.rest - n' := wrap_id _ (by omega) (by omega)
                    have wb : IntKind.i64.wrap (o.rest - P) = o.rest - P := wrap_id _ (by omega) (by omega)
                    by_cases hlt : n' < P
                    · go_wp2_with fail
                      go_region
                      all_goals (go_wp2_with fail)
                      all_goals (obtain ⟨k', m1, m2⟩ := NX.out w1 _ n' K1i.out ((Frm.refl _ _).drew) (by rw [if_pos hlt]))
                      all_goals (rw [Int.sub_self] at m2)
                      all_goals (go_roundg k')
                      all_goals first | exact m1 | exact m2
                    · go_wp2_with fail
                      go_region
                      all_goals (go_wp2_with fail)
                      all_goals (obtain ⟨k', m1, m2⟩ := NX.out w1 _ P K1i.out ((Frm.refl _ _).drew) (by rw [if_neg (by omega)]))
                      all_goals (go_roundg k')
                      all_goals first | exact m1 | exact m2
              · have hje : jj = (tks j R).os.length := by omega
                have hx := FIN.out wr osC hs (by rw [hdist, List.drop_eq_nil_of_le (by omega), List.take_of_length_le (by omega)]; simp [dist])
                rw [hvo] at cO
                have hlo : (osC.length : Int) ≤ (jj : Int) := by omega
                have HX := hide hx
                simp only [hlen] at cO
                clear hx hR hs hlen hokC hdist hos hq hvo hje hlo
                go_wp2_with fail
                obtain ⟨k', m1, m2⟩ := HX.out
                go_roundg k'
                case measure => exact m1
                case rel => exact m2
    · have hje : j = R.chs.length := by omega
      have f3 := hR.head.frozen 3
      have HK := hide (And.intro hst.out hje)
      clear hR hvc hkj hst hje hok hchs hlims hnow hlock hosl
      go_wp2_with fail
      go_ret
      obtain ⟨hs, rfl⟩ := HK.out
      exact ⟨vd', u3, rfl, hs.setNow (H.out).1.lt (R.now + 1)⟩

end Go.Proofs.YtpilmkipbbengaaGreatDoor

/- The document's pump: Run, Room, Wait, Basal. -/
namespace Go.Proofs.YtpilmkipbbengaaGreatDoor
open Go.RowKit

theorem TickSt.mid {w wr w1 : World} {b : Nat} {R R' R'' : RSt} {vl vd vd' vd2 vc vo vout vt : Value} (h0 : ∀ x, RefF b vl vd vc vo x → x < w.heap.size) (h : TickSt w wr b R R' vl vd vd' vc vo vout) (ht : TickSt wr w1 b R' R'' vl vd' vd2 vc vo vt) :
    w1.ownsRow 0 100 3 vout (R'.doses.length - R.doses.length) ((R'.doses.drop R.doses.length).flatMap dsC) ∧ Dis vout vd2 ∧ (∀ x, RefF b vl vd2 vc vo x → vout.ownBlock ≠ some x) := by
  have hd2 : Dis vout vd2 := by
    intro x hx e
    rcases ht.nd with e' | ⟨g, e', hg⟩
    · rw [e'] at e; exact h.sep x hx e
    · rw [e'] at e; injection e with e; have := (h.out.lt x hx).2; omega
  have old : ∀ x, (x = b ∨ vl.ownBlock = some x ∨ vc.ownBlock = some x ∨ vo.ownBlock = some x) → vout.ownBlock ≠ some x := by
    intro x hx e
    have h1 := h.no x e
    have h2 : x < w.heap.size := by
      rcases hx with e | e | e | e
      · exact h0 x (Or.inl e)
      · exact h0 x (Or.inr (Or.inl e))
      · exact h0 x (Or.inr (Or.inr (Or.inr (Or.inl e))))
      · exact h0 x (Or.inr (Or.inr (Or.inr (Or.inr e))))
    omega
  refine ⟨row_frm h.out ht.frm ?_, hd2, ?_⟩
  · rintro g hg (e | e | e | e | e)
    · exact old g (Or.inl e) hg
    · exact old g (Or.inr (Or.inl e)) hg
    · exact h.sep g hg e
    · exact old g (Or.inr (Or.inr (Or.inl e))) hg
    · exact old g (Or.inr (Or.inr (Or.inr e))) hg
  · rintro g (e | e | e | e | e) hg
    · exact old g (Or.inl e) hg
    · exact old g (Or.inr (Or.inl e)) hg
    · exact hd2 g hg e
    · exact old g (Or.inr (Or.inr (Or.inl e))) hg
    · exact old g (Or.inr (Or.inr (Or.inr e))) hg

theorem TickSt.join {w wr w1 w2 : World} {b : Nat} {R R' R'' : RSt} {vl vd vd' vd2 vc vo vout vt v' : Value} (h0 : ∀ x, RefF b vl vd vc vo x → x < w.heap.size) (h : TickSt w wr b R R' vl vd vd' vc vo vout) (ht : TickSt wr w1 b R' R'' vl vd' vd2 vc vo vt)
    (hp1 : R.doses <+: R'.doses) (hp2 : R'.doses <+: R''.doses) (hg : w1.grownBy w2 vout.ownBlock) (hnew : v'.ownBlock = vout.ownBlock ∨ (v'.ownBlock = some w1.heap.size ∧ w1.grownBy w2 none))
    (hrow : w2.ownsRow 0 100 3 v' (R'.doses.length - R.doses.length + (R''.doses.length - R'.doses.length)) ((R'.doses.drop R.doses.length).flatMap dsC ++ (R''.doses.drop R'.doses.length).flatMap dsC)) :
    TickSt w w2 b R R'' vl vd vd2 vc vo v' := by
  obtain ⟨m1, m2, m3⟩ := h.mid h0 ht
  have s1 := h.frm.size
  have s2 := ht.frm.size
  have l1 := hp1.length_le
  have l2 := hp2.length_le
  refine ⟨ht.lie.frm (grown_frm hg) (fun x hx e => m3 x hx e), ?_, ?_, ?_, ?_, ?_⟩
  · rw [drop_drop_pre hp1 hp2, List.flatMap_append, show R''.doses.length - R.doses.length = R'.doses.length - R.doses.length + (R''.doses.length - R'.doses.length) from by omega]
    exact hrow
  · refine (h.frm.trans2 ht.frm ?_).trans2 (grown_frm hg) ?_
    · rintro x hx (e | e | e | e | e)
      · exact Or.inl e
      · exact Or.inr (Or.inl e)
      · rcases h.nd with e' | ⟨g, e', hg'⟩
        · exact Or.inr (Or.inr (Or.inl (by rw [← e', e])))
        · rw [e'] at e; injection e with e; omega
      · exact Or.inr (Or.inr (Or.inr (Or.inl e)))
      · exact Or.inr (Or.inr (Or.inr (Or.inr e)))
    · intro x hx e
      have := h.no x e; omega
  · rcases ht.nd with e | ⟨g, e, hg'⟩
    · rw [e]; exact h.nd
    · exact Or.inr ⟨g, e, by omega⟩
  · intro g hg'
    rcases hnew with e | ⟨e, -⟩
    · rw [e] at hg'; exact h.no g hg'
    · rw [e] at hg'; injection hg' with hg'; omega
  · intro x hx e
    rcases hnew with e' | ⟨e', -⟩
    · rw [e'] at hx; exact m2 x hx e
    · rw [e'] at hx; injection hx with hx
      have := ht.lie.lt x (Or.inr (Or.inr (Or.inl e))); omega

def RunEnd (w : World) (b : Nat) (R R' : RSt) (vl vd vc vo : Value) (e : Ending) (w' : World) : Prop := ∃ vd' vout, e = .returned (.tuple #[vout, I 0]) ∧ TickSt w w' b R R' vl vd vd' vc vo vout

set_option maxRecDepth 100000 in
set_option maxHeartbeats 800000 in
theorem rrun_arg (b : Nat) (t : Int) (w : World) (h : t < 1 ∨ 100 < t) :
    Calls Tryz.prog 74 #[.pointer (some ⟨b, 0, none⟩), I t] w fun e w' => e = .returned (.tuple #[.slice none 0 0, I 1]) ∧ w' = w := by
  rcases h with h | h
  · go_enter Tryz.func74, Tryz.ntmps74
    go_wp2
    go_ret2
    exact ⟨rfl, rfl⟩
  · have h' : decide (t < 1) = false := by simp; omega
    go_enter Tryz.func74, Tryz.ntmps74
    go_wp2
    go_ret2
    exact ⟨rfl, rfl⟩

set_option maxRecDepth 100000 in
set_option maxHeartbeats 800000 in
theorem rrun_many (b : Nat) (R : RSt) (vl vd vc vo : Value) (t : Int) (w : World) (h : RefAt w b R vl vd vc vo) (n0 : 0 ≤ R.now) (n1 : R.now ≤ 400) (h1 : 1 ≤ t) (h2 : t ≤ 100) (h3 : 400 < R.now + t) :
    Calls Tryz.prog 74 #[.pointer (some ⟨b, 0, none⟩), I t] w fun e w' => e = .returned (.tuple #[.slice none 0 0, I 2]) ∧ w' = w := by
  have c3 : w.cell? ⟨b, 3, none⟩ = some (I R.now) := by rw [h.head.cell]; rfl
  clear h
  go_enter Tryz.func74, Tryz.ntmps74
  go_wp2
  go_ret2
  exact ⟨rfl, rfl⟩

set_option maxRecDepth 100000 in
set_option maxHeartbeats 1600000 in
theorem rrun_any (b : Nat) (R : RSt) (vl vd vc vo : Value) (t : Nat) (w : World) (h : RefAt w b R vl vd vc vo) (ok : R.Ok) (hf : R.Full) (h1 : 1 ≤ t) (h2 : t ≤ 100) (h3 : R.now + t ≤ 400) :
    Calls Tryz.prog 74 #[.pointer (some ⟨b, 0, none⟩), I t] w fun e w' => RunEnd w b R (rticks t R) vl vd vc vo e w' := by
  obtain ⟨i, hi, hz0, hz1, hz2⟩ := info_parts infoD
  have c3 : w.cell? ⟨b, 3, none⟩ = some (I R.now) := by rw [h.head.cell]; rfl
  have n0 := ok.now0
  have n1 := ok.now1
  have H := hide (And.intro h (And.intro ok hf))
  clear h ok hf
  go_enter Tryz.func74, Tryz.ntmps74
  go_wp2_with fail
  go_loopg [6, 7, 8] t (fun q vout k _ wr => ∃ (j : Nat) (vd' : Value), q + j = t ∧ k = I j ∧ Hid (TickSt w wr b R (rticks j R) vl vd vd' vc vo vout))
  case atStart => exact ⟨0, vd, by omega, rfl, ⟨(H.out).1, by simp [rticks]; exact World.ownsRow_nil .., Frm.refl _ _, Or.inl rfl, fun g hg => by simp [Value.ownBlock] at hg, fun x hx => by simp [Value.ownBlock] at hx⟩⟩
  case round =>
    obtain ⟨j, vd', hkj, rfl, hst⟩ := hrel
    by_cases hj : j < t
    · obtain ⟨hok, hff⟩ := rticks_ok (H.out).2.1 (H.out).2.2 j (by omega)
      have hnow := (rticks_same j R).2.2.1
      have hnd : (rticks j R).doses.length ≤ 1600 := by have := hff.1; omega
      have ct := rtick_any b (rticks j R) vl vd' vc vo wr hst.out.lie hok (by omega) (by omega)
      have HT := hide (And.intro hkj (And.intro hst.out hnd))
      have CT := hide ct
      clear ct hok hff hnow hst hkj hnd c3
      go_wp2_with fail
      refine (CT.out).mono ?_
      rintro e w1 ⟨vd2, vt, rfl, ht⟩
      have hmid := (HT.out).2.1.mid (H.out).1.lt ht
      have l1 : (rtick (rticks j R)).doses.length ≤ 1604 := by have := tks_nd (rticks j R).chs.length (rticks j R); have h5 := (HT.out).2.2; have h6 := (rticks_same j R).1; have h7 := (H.out).2.1.nc1; rw [← h6] at h7; show (tks (rticks j R).chs.length (rticks j R)).doses.length ≤ 1604; omega
      have l2 : (rticks j R).doses.length ≤ 1600 := (HT.out).2.2
      have hone := dsC_one ((rtick (rticks j R)).doses.drop (rticks j R).doses.length)
      have HM := hide (And.intro hmid.1 (And.intro ht hone))
      clear hmid ht hone
      go_wp2_with (at_builtin; refine wpList_append_rows _ rfl _ _ 35 rfl 100 i (.agg #[I 0, I 0, I 0]) 3 24 Tryz.underlying35 hi hz0 hz1 hz2 rfl (by decide) _ _ _ rfl (HM.out).1 _ _ _ rfl (HM.out).2.1.out (HM.out).2.2 (by unfold maxLen; omega) (by omega) ?_; intro v' w2 hown hgr hnew)
      go_roundg (gk - 1)
      case measure => have := (HT.out).1; omega
      case rel => exact ⟨j + 1, vd2, by have := (HT.out).1; omega, by simp, TickSt.join (H.out).1.lt (HT.out).2.1 (HM.out).2.1 (rticks_pre j R) (rtick_pre _) hgr hnew hown⟩
    · have hje : j = t := by omega
      have HK := hide (And.intro hst.out hje)
      clear hkj hst hje c3
      go_wp2_with fail
      go_ret2
      obtain ⟨hs, rfl⟩ := HK.out
      exact ⟨vd', u6, rfl, hs⟩

end Go.Proofs.YtpilmkipbbengaaGreatDoor

/- The document's pump: Room, Wait, Basal. -/
namespace Go.Proofs.YtpilmkipbbengaaGreatDoor
open Go.RowKit

set_option maxRecDepth 100000 in
set_option maxHeartbeats 800000 in
theorem rRoom_no (b : Nat) (R : RSt) (vl vd vc vo : Value) (k : Int) (w : World) (h : RefAt w b R vl vd vc vo) (hk : isCh R k = false) :
    Calls Tryz.prog 77 #[.pointer (some ⟨b, 0, none⟩), I k] w fun e w' => e = .returned (.tuple #[I 0, I 1]) ∧ w' = w := by
  have ci := ris_any b R vl vd vc vo k w h
  change Calls Tryz.prog 110 _ w fun e w' => e = .returned (.bool (isCh R k)) ∧ w' = w at ci
  rw [hk] at ci
  have CI := hide ci
  clear ci h
  go_enter Tryz.func77, Tryz.ntmps77
  go_wp2_with fail
  refine (CI.out).mono ?_
  rintro e w1 ⟨rfl, hw⟩
  subst hw
  go_wp2_with fail
  go_ret2
  exact ⟨rfl, rfl⟩

set_option maxRecDepth 100000 in
set_option maxHeartbeats 800000 in
theorem rRoom_yes (b : Nat) (R : RSt) (vl vd vc vo : Value) (k : Int) (w : World) (h : RefAt w b R vl vd vc vo) (ok : R.Ok) (hk : isCh R k = true) :
    Calls Tryz.prog 77 #[.pointer (some ⟨b, 0, none⟩), I k] w fun e w' => e = .returned (.tuple #[I (rroom R.doses R.lims k.toNat R.now), I 0]) ∧ Keep w w' := by
  have ci := ris_any b R vl vd vc vo k w h
  change Calls Tryz.prog 110 _ w fun e w' => e = .returned (.bool (isCh R k)) ∧ w' = w at ci
  rw [hk] at ci
  have hkb := isCh_true hk
  have hnc := ok.nc1
  have cr := rroom_any b R vl vd vc vo k R.now w h ok hkb.1 (by omega) ok.now0 (by have := ok.now1; omega)
  have c3 : w.cell? ⟨b, 3, none⟩ = some (I R.now) := by rw [h.head.cell]; rfl
  have CI := hide ci
  have CR := hide cr
  clear ci h cr
  go_enter Tryz.func77, Tryz.ntmps77
  go_wp2_with fail
  refine (CI.out).mono ?_
  rintro e w1 ⟨rfl, hw⟩
  subst hw
  go_wp2_with fail
  refine (CR.out).mono ?_
  rintro e w2 ⟨rfl, k2⟩
  go_wp2_with fail
  go_ret2
  exact ⟨rfl, k2⟩

set_option maxRecDepth 100000 in
set_option maxHeartbeats 800000 in
theorem rWait_no (b : Nat) (R : RSt) (vl vd vc vo : Value) (k a : Int) (w : World) (h : RefAt w b R vl vd vc vo) (hk : isCh R k = false ∨ a < 0 ∨ 1000 < a) :
    Calls Tryz.prog 79 #[.pointer (some ⟨b, 0, none⟩), I k, I a] w fun e w' => e = .returned (.tuple #[I 0, .bool false, I 1]) ∧ w' = w := by
  have ci := ris_any b R vl vd vc vo k w h
  change Calls Tryz.prog 110 _ w fun e w' => e = .returned (.bool (isCh R k)) ∧ w' = w at ci
  have CI := hide ci
  clear ci h
  cases hi : isCh R k with
  | false =>
    rw [hi] at CI
    go_enter Tryz.func79, Tryz.ntmps79
    go_wp2_with fail
    refine (CI.out).mono ?_
    rintro e w1 ⟨rfl, hw⟩
    subst hw
    go_wp2_with fail
    go_ret3
    exact ⟨rfl, rfl⟩
  | true =>
    rw [hi] at CI hk
    by_cases ha : a < 0
    · go_enter Tryz.func79, Tryz.ntmps79
      go_wp2_with fail
      refine (CI.out).mono ?_
      rintro e w1 ⟨rfl, hw⟩
      subst hw
      go_wp2_with fail
      go_ret3
      exact ⟨rfl, rfl⟩
    · have ha' : decide (a < 0) = false := by simpa using ha
      have hb : 1000 < a := by rcases hk with h | h | h; cases h; omega; exact h
      go_enter Tryz.func79, Tryz.ntmps79
      go_wp2_with fail
      refine (CI.out).mono ?_
      rintro e w1 ⟨rfl, hw⟩
      subst hw
      go_wp2_with fail
      go_ret3
      exact ⟨rfl, rfl⟩

set_option maxRecDepth 100000 in
set_option maxHeartbeats 1600000 in
theorem rWait_yes (b : Nat) (R : RSt) (vl vd vc vo : Value) (k a : Int) (w : World) (h : RefAt w b R vl vd vc vo) (ok : R.Ok) (hk : isCh R k = true) (a0 : 0 ≤ a) (a1 : a ≤ 1000) :
    Calls Tryz.prog 79 #[.pointer (some ⟨b, 0, none⟩), I k, I a] w fun e w' => WaitEnd w R k.toNat a e w' := by
  have ci := ris_any b R vl vd vc vo k w h
  change Calls Tryz.prog 110 _ w fun e w' => e = .returned (.bool (isCh R k)) ∧ w' = w at ci
  rw [hk] at ci
  have hkb := isCh_true hk
  have hnc := ok.nc1
  have n0 := ok.now0
  have n1 := ok.now1
  have CI := hide ci
  have H := hide (And.intro h ok)
  clear ci h ok
  go_enter Tryz.func79, Tryz.ntmps79
  go_wp2_with fail
  refine (CI.out).mono ?_
  rintro e w1 ⟨rfl, hw⟩
  subst hw
  go_wp2_with fail
  go_loopg [10, 11] 101 (fun q i _ wr => ∃ (j : Nat), q + j = 101 ∧ i = I j ∧ Hid (Keep w1 wr ∧ ∀ m : Nat, m < j → rroom R.doses R.lims k.toNat (R.now + m) < a))
  case atStart => exact ⟨0, by omega, rfl, Frm.refl _ _, fun m hm => by omega⟩
  case round =>
    obtain ⟨j, hq, rfl, hkp⟩ := hrel
    have hR := (H.out).1.keep hkp.out.1
    have c3 : wr.cell? ⟨b, 3, none⟩ = some (I R.now) := by rw [hR.head.cell]; rfl
    by_cases hj : j ≤ 100
    · have cr := rroom_any b R vl vd vc vo k (R.now + j) wr hR (H.out).2 hkb.1 (by omega) (by omega) (by omega)
      have CR := hide cr
      generalize hG : rroom R.doses R.lims k.toNat (R.now + j) = G at *
      have HG := hide (And.intro hG (And.intro hq hkp.out))
      clear cr hR hG hq hkp
      by_cases hg : a ≤ G
      · go_wp2_with fail
        refine (CR.out).mono ?_
        rintro e w2 ⟨rfl, k2⟩
        go_wp2_with fail
        go_ret3
        exact ⟨some j, rfl, ⟨hj, by rw [(HG.out).1]; exact hg, (HG.out).2.2.2⟩, (HG.out).2.2.1.trans k2⟩
      · go_wp2_with fail
        refine (CR.out).mono ?_
        rintro e w2 ⟨rfl, k2⟩
        go_wp2_with fail
        go_roundg (gk - 1)
        case measure => have := (HG.out).2.1; omega
        case rel => exact ⟨j + 1, by have := (HG.out).2.1; omega, by simp, (HG.out).2.2.1.trans k2, fun m hm => by
            by_cases e : m = j
            · subst e; rw [(HG.out).1]; omega
            · exact (HG.out).2.2.2 m (by omega)⟩
    · have HG := hide (And.intro hq hkp.out)
      have hj' : 100 < j := by omega
      clear hR hq hkp
      go_wp2_with fail
      go_ret3
      exact ⟨none, rfl, fun m hm => (HG.out).2.2 m (by have := (HG.out).1; omega), (HG.out).2.1⟩

end Go.Proofs.YtpilmkipbbengaaGreatDoor

/- The document's pump: Basal. -/
namespace Go.Proofs.YtpilmkipbbengaaGreatDoor
open Go.RowKit

theorem RefAt.setCh {w : World} {b : Nat} {R : RSt} {vl vd vc vo : Value} (h : RefAt w b R vl vd vc vo) {g cap k i : Nat} (hv : vc = .slice (some ⟨g, 0, none⟩) R.chs.length cap) {c c' : RCh} (hc : R.chs[k]? = some c) (hi : i < 4) {u : Value} (hf : chC c' = (chC c).set i u) :
    RefAt (w.setCell ⟨g, k * 4 + i, none⟩ u) b { R with chs := R.chs.set k c' } vl vd vc vo := by
  have hs := h.sep
  have hgo : vc.ownBlock = some g := by rw [hv]; rfl
  have kb : ∀ (v : Value) (T : TypeId) (s n : Nat) (xs : List Value), w.ownsRow 0 T s v n xs → Dis v vc → (w.setCell ⟨g, k * 4 + i, none⟩ u).ownsRow 0 T s v n xs := by
    intro v T s n xs hr hd
    exact row_of_block hr fun g' hg' => Below.heap_setCell _ _ _ _ fun e => hd g' hg' (by rw [hgo, e])
  have hbg : b ≠ g := fun e => hs.bc (by rw [hgo, e])
  refine ⟨by have := h.head.other (p := ⟨g, k * 4 + i, none⟩) hbg u; simpa using this, kb vl _ _ _ _ h.lims hs.lc, kb vd _ _ _ _ h.doses hs.dc, ?_, kb vo _ _ _ _ h.os hs.co.symm, hs⟩
  have := h.chs
  rw [hv] at this ⊢
  have h2 := row_set this (fun _ => rfl) hc hi hf
  simpa using h2

theorem RefAt.drew {w : World} {b : Nat} {R : RSt} {vl vd vc vo : Value} (h : RefAt w b R vl vd vc vo) : RefAt w.drew b R vl vd vc vo := h.keep ((Frm.refl _ _).drew)

set_option maxRecDepth 100000 in
set_option maxHeartbeats 1600000 in
theorem rBasal_no (b : Nat) (R : RSt) (vl vd vc vo : Value) (k rate ticks : Int) (w : World) (h : RefAt w b R vl vd vc vo) (hb : basalBad R k rate ticks = true) :
    Calls Tryz.prog 81 #[.pointer (some ⟨b, 0, none⟩), I k, I rate, I ticks] w fun e w' => e = .returned (I 1) ∧ w' = w := by
  have ci := ris_any b R vl vd vc vo k w h
  change Calls Tryz.prog 110 _ w fun e w' => e = .returned (.bool (isCh R k)) ∧ w' = w at ci
  have CI := hide ci
  clear ci h
  have hcase : isCh R k = false ∨ (isCh R k = true ∧ rate < 0) ∨ (isCh R k = true ∧ decide (rate < 0) = false ∧ 1000 < rate) ∨ (isCh R k = true ∧ decide (rate < 0) = false ∧ decide (1000 < rate) = false ∧ ticks < 0) ∨ (isCh R k = true ∧ decide (rate < 0) = false ∧ decide (1000 < rate) = false ∧ decide (ticks < 0) = false ∧ 400 < ticks) := by
    unfold basalBad at hb
    cases h1 : isCh R k with
    | false => exact Or.inl rfl
    | true =>
      rw [h1] at hb
      simp at hb
      simp
      omega
  clear hb
  rcases hcase with h1 | ⟨h1, h2⟩ | ⟨h1, h2, h3⟩ | ⟨h1, h2, h3, h4⟩ | ⟨h1, h2, h3, h4, h5⟩
  all_goals rw [h1] at CI
  all_goals go_enter Tryz.func81, Tryz.ntmps81
  all_goals go_wp2_with fail
  all_goals refine (CI.out).mono ?_
  all_goals rintro e w1 ⟨rfl, hw⟩
  all_goals subst hw
  all_goals go_wp2_with fail
  all_goals go_ret
  all_goals exact ⟨rfl, rfl⟩

set_option maxRecDepth 100000 in
set_option maxHeartbeats 1600000 in
theorem rBasal_yes (b : Nat) (R : RSt) (vl vd vc vo : Value) (k rate ticks : Int) (w : World) (h : RefAt w b R vl vd vc vo) (ok : R.Ok) (hb : basalBad R k rate ticks = false) :
    Calls Tryz.prog 81 #[.pointer (some ⟨b, 0, none⟩), I k, I rate, I ticks] w fun e w' => e = .returned (I 0) ∧ RefAt w' b (rbasal R k.toNat rate ticks) vl vd vc vo ∧ Frm (RefF b vl vd vc vo) w w' := by
  have ci := ris_any b R vl vd vc vo k w h
  change Calls Tryz.prog 110 _ w fun e w' => e = .returned (.bool (isCh R k)) ∧ w' = w at ci
  simp only [basalBad, Bool.or_eq_false_iff, Bool.not_eq_false'] at hb
  obtain ⟨⟨⟨⟨h1, h2⟩, h3⟩, h4⟩, h5⟩ := hb
  have hkb := isCh_true h1
  rw [h1] at ci
  obtain ⟨kk, rfl⟩ := Int.eq_ofNat_of_zero_le hkb.1
  rw [Int.toNat_natCast]
  have hkl : kk < R.chs.length := by omega
  obtain ⟨c, hc⟩ : ∃ c, R.chs[kk]? = some c := ⟨_, List.getElem?_eq_getElem hkl⟩
  obtain ⟨g, cap, hv, hcap, hcell, hfz⟩ := row_at h.chs (fun _ => rfl) hc (by decide)
  have d0 := hcell 0 (by decide)
  have d1 := hcell 1 (by decide)
  simp [chC] at d0 d1
  have c5 : w.cell? ⟨b, 5, none⟩ = some vc := by rw [h.head.cell]; rfl
  rw [hv] at c5
  have c3 : w.cell? ⟨b, 3, none⟩ = some (I R.now) := by rw [h.head.cell]; rfl
  have f0 := hfz (kk * 4)
  have f1 := hfz (kk * 4 + 1)
  have lb := h.head.lt
  have hbg : b ≠ g := fun e => h.sep.bc (by rw [hv, e]; rfl)
  have n0 := ok.now0
  have n1 := ok.now1
  have g2 : 0 ≤ rate := by simpa using h2
  have g3 : rate ≤ 1000 := by simpa using h3
  have g4 : 0 ≤ ticks := by simpa using h4
  have g5 : ticks ≤ 400 := by simpa using h5
  have hgo : vc.ownBlock = some g := by rw [hv]; rfl
  have CI := hide ci
  have H := hide (And.intro h (And.intro hv (And.intro hc hgo)))
  have hnc := ok.nc1
  have wa : IntKind.i64.wrap (R.now + ticks) = R.now + ticks := wrap_id _ (by omega) (by omega)
  clear ci h ok hcell hv hfz hcap hc hgo
  by_cases ht : 0 < ticks
  · go_enter Tryz.func81, Tryz.ntmps81
    go_wp2_with fail
    refine (CI.out).mono ?_
    rintro e w1 ⟨rfl, hw⟩
    subst hw
    go_wp2_with fail
    go_region
    go_wp2_with fail
    go_ret
    obtain ⟨h, hv, hc, hgo⟩ := H.out
    refine ⟨rfl, ?_, ?_⟩
    · have s1 := h.setCh hv hc (i := 0) (by decide) (c' := { c with rate := rate }) (u := I rate) rfl
      have s2 := s1.setCh (k := kk) (by simpa using hv) (c := { c with rate := rate }) (by simp [hkl]) (i := 1) (by decide) (c' := { c with rate := rate, til := -1 }) (u := I (-1)) rfl
      have s3 := s2.setCh (k := kk) (by simpa using hv) (c := { c with rate := rate, til := -1 }) (by simp [hkl]) (i := 1) (by decide) (c' := { c with rate := rate, til := R.now + ticks }) (u := I (R.now + ticks)) rfl
      have := s3.drew
      simpa [rbasal, hc, ht] using this
    · have hF : RefF b vl vd vc vo g := Or.inr (Or.inr (Or.inr (Or.inl hgo)))
      exact ((((Frm.refl _ _).setCell hF _).setCell hF _).setCell hF _).drew
  · go_enter Tryz.func81, Tryz.ntmps81
    go_wp2_with fail
    refine (CI.out).mono ?_
    rintro e w1 ⟨rfl, hw⟩
    subst hw
    go_wp2_with fail
    go_ret
    obtain ⟨h, hv, hc, hgo⟩ := H.out
    refine ⟨rfl, ?_, ?_⟩
    · have s1 := h.setCh hv hc (i := 0) (by decide) (c' := { c with rate := rate }) (u := I rate) rfl
      have s2 := s1.setCh (k := kk) (by simpa using hv) (c := { c with rate := rate }) (by simp [hkl]) (i := 1) (by decide) (c' := { c with rate := rate, til := -1 }) (u := I (-1)) rfl
      have ht' : ¬ 0 < ticks := by omega
      simpa [rbasal, hc, ht'] using s2
    · have hF : RefF b vl vd vc vo g := Or.inr (Or.inr (Or.inr (Or.inl hgo)))
      exact ((Frm.refl _ _).setCell hF _).setCell hF _

end Go.Proofs.YtpilmkipbbengaaGreatDoor

/- The document's pump: fine. -/
namespace Go.Proofs.YtpilmkipbbengaaGreatDoor
open Go.RowKit

set_option maxRecDepth 100000 in
set_option maxHeartbeats 1600000 in
theorem fine_head (c : Int) (a : Option Addr) (n cap : Nat) (lock : Int) (w : World) (h : badHead c n lock = true) :
    Calls Tryz.prog 106 #[cfgV c a n cap lock] w fun e w' => e = .returned (.bool false) ∧ Keep w w' := by
  have hcase : c < 1 ∨ (decide (c < 1) = false ∧ 4 < c) ∨ (decide (c < 1) = false ∧ decide (4 < c) = false ∧ 6 < (n : Int)) ∨ (decide (c < 1) = false ∧ decide (4 < c) = false ∧ decide (6 < (n : Int)) = false ∧ lock < 0) ∨ (decide (c < 1) = false ∧ decide (4 < c) = false ∧ decide (6 < (n : Int)) = false ∧ decide (lock < 0) = false ∧ 400 < lock) := by
    simp [badHead] at h
    simp
    omega
  clear h
  rcases hcase with h1 | ⟨h1, h2⟩ | ⟨h1, h2, h3⟩ | ⟨h1, h2, h3, h4⟩ | ⟨h1, h2, h3, h4, h5⟩
  all_goals go_enter Tryz.func106, Tryz.ntmps106
  all_goals go_wp2_with fail
  all_goals go_ret
  all_goals exact ⟨rfl, (Frm.refl _ _).alloc _⟩

set_option maxRecDepth 100000 in
set_option maxHeartbeats 3200000 in
theorem fine_lims1 (a : Option Addr) (lims : List Lim) (cap : Nat) (lock : Int) (w : World) (hs : SeeL w a lims) (h : badHead 1 lims.length lock = false) :
    Calls Tryz.prog 106 #[cfgV 1 a lims.length cap lock] w fun e w' => e = .returned (.bool (lims.all fun l => !badLim 1 l)) ∧ Keep w w' := by
  have hp : (2 : Int) ^ (1 : Int).toNat = 2 := rfl
  simp only [badHead, Bool.or_eq_false_iff] at h
  obtain ⟨⟨⟨⟨h1, h2⟩, h3⟩, h4⟩, h5⟩ := h
  have hn : lims.length ≤ 6 := by simp at h3; omega
  have H := hide (And.intro hs hp)
  clear hs hp
  go_enter Tryz.func106, Tryz.ntmps106
  go_wp2_with fail
  go_loopg [3, 4] lims.length (fun q i _ wr => ∃ j : Nat, q + j = lims.length ∧ i = I j ∧ Hid (Keep w wr ∧ Blk wr w.heap.size #[I 1, .slice a lims.length cap, I lock] 30 ∧ ((lims.take j).all fun l => !badLim 1 l) = true))
  case atStart => exact ⟨0, by omega, rfl, (Frm.refl _ _).alloc _, Blk.new _ _ _, by simp⟩
  case round =>
    obtain ⟨j, hq, rfl, hk⟩ := hrel
    obtain ⟨kw, bx, hall⟩ := hk.out
    have b0 : wr.cell? ⟨w.heap.size, 0, none⟩ = some (I 1) := by rw [bx.cell]; rfl
    have b1 : wr.cell? ⟨w.heap.size, 1, none⟩ = some (.slice a lims.length cap) := by rw [bx.cell]; rfl
    have lbx := bx.lt
    by_cases hj : j < lims.length
    · obtain ⟨l, hl⟩ : ∃ l, lims[j]? = some l := ⟨_, List.getElem?_eq_getElem hj⟩
      have hsee := (H.out).1.frm kw (fun _ _ _ e => e)
      rcases hsee with e | ⟨g, o, rfl, hg, hcells⟩
      · rw [e] at hj; simp at hj
      obtain ⟨d0, d1, d2⟩ := hcells j l hl
      have HH := hide (And.intro hq (And.intro kw (And.intro bx (And.intro hall hl))))
      clear hcells hk kw bx hall hq hl
      cases hb : badLim 1 l with
      | true =>
        rcases badLim_cases (H.out).2 hb with g1 | ⟨g1, g2⟩ | ⟨g1, g2, g3⟩ | ⟨g1, g2, g3, g4⟩ | ⟨g1, g2, g3, g4, g5⟩ | ⟨g1, g2, g3, g4, g5, g6⟩
        all_goals go_wp2_with fail
        all_goals go_quiet (fail)
        all_goals go_wp2_with fail
        all_goals go_ret
        all_goals (obtain ⟨hq, kw, bx, hall, hl⟩ := HH.out)
        all_goals exact ⟨ret_bool (by rw [Eq.comm, Bool.eq_false_iff]; intro e; rw [List.all_eq_true] at e; have := e l (List.mem_of_getElem? hl); rw [hb] at this; simp at this), (kw.alloc _).drewN _⟩
      | false =>
        obtain ⟨g1, g2, g3, g4, g5, g6⟩ := goodLim_cases (H.out).2 hb
        go_wp2_with fail
        go_quiet (fail)
        go_wp2_with fail
        obtain ⟨hq, kw, bx, hall, hl⟩ := HH.out
        go_roundg (gk - 1)
        case measure => omega
        case rel => exact ⟨j + 1, by omega, by simp, (kw.alloc _).drewN _, (bx.alloc _).drewN _, by rw [take_snoc' hl, List.all_append, hall]; simp [hb]⟩
    · have HH := hide (And.intro hq (And.intro kw hall))
      clear hk kw bx hall hq
      go_wp2_with fail
      go_ret
      obtain ⟨hq, kw, hall⟩ := HH.out
      exact ⟨ret_bool (by rw [← hall, List.take_of_length_le (by omega)]), kw⟩

set_option maxRecDepth 100000 in
set_option maxHeartbeats 3200000 in
theorem fine_lims2 (a : Option Addr) (lims : List Lim) (cap : Nat) (lock : Int) (w : World) (hs : SeeL w a lims) (h : badHead 2 lims.length lock = false) :
    Calls Tryz.prog 106 #[cfgV 2 a lims.length cap lock] w fun e w' => e = .returned (.bool (lims.all fun l => !badLim 2 l)) ∧ Keep w w' := by
  have hp : (2 : Int) ^ (2 : Int).toNat = 4 := rfl
  simp only [badHead, Bool.or_eq_false_iff] at h
  obtain ⟨⟨⟨⟨h1, h2⟩, h3⟩, h4⟩, h5⟩ := h
  have hn : lims.length ≤ 6 := by simp at h3; omega
  have H := hide (And.intro hs hp)
  clear hs hp
  go_enter Tryz.func106, Tryz.ntmps106
  go_wp2_with fail
  go_loopg [3, 4] lims.length (fun q i _ wr => ∃ j : Nat, q + j = lims.length ∧ i = I j ∧ Hid (Keep w wr ∧ Blk wr w.heap.size #[I 2, .slice a lims.length cap, I lock] 30 ∧ ((lims.take j).all fun l => !badLim 2 l) = true))
  case atStart => exact ⟨0, by omega, rfl, (Frm.refl _ _).alloc _, Blk.new _ _ _, by simp⟩
  case round =>
    obtain ⟨j, hq, rfl, hk⟩ := hrel
    obtain ⟨kw, bx, hall⟩ := hk.out
    have b0 : wr.cell? ⟨w.heap.size, 0, none⟩ = some (I 2) := by rw [bx.cell]; rfl
    have b1 : wr.cell? ⟨w.heap.size, 1, none⟩ = some (.slice a lims.length cap) := by rw [bx.cell]; rfl
    have lbx := bx.lt
    by_cases hj : j < lims.length
    · obtain ⟨l, hl⟩ : ∃ l, lims[j]? = some l := ⟨_, List.getElem?_eq_getElem hj⟩
      have hsee := (H.out).1.frm kw (fun _ _ _ e => e)
      rcases hsee with e | ⟨g, o, rfl, hg, hcells⟩
      · rw [e] at hj; simp at hj
      obtain ⟨d0, d1, d2⟩ := hcells j l hl
      have HH := hide (And.intro hq (And.intro kw (And.intro bx (And.intro hall hl))))
      clear hcells hk kw bx hall hq hl
      cases hb : badLim 2 l with
      | true =>
        rcases badLim_cases (H.out).2 hb with g1 | ⟨g1, g2⟩ | ⟨g1, g2, g3⟩ | ⟨g1, g2, g3, g4⟩ | ⟨g1, g2, g3, g4, g5⟩ | ⟨g1, g2, g3, g4, g5, g6⟩
        all_goals go_wp2_with fail
        all_goals go_quiet (fail)
        all_goals go_wp2_with fail
        all_goals go_ret
        all_goals (obtain ⟨hq, kw, bx, hall, hl⟩ := HH.out)
        all_goals exact ⟨ret_bool (by rw [Eq.comm, Bool.eq_false_iff]; intro e; rw [List.all_eq_true] at e; have := e l (List.mem_of_getElem? hl); rw [hb] at this; simp at this), (kw.alloc _).drewN _⟩
      | false =>
        obtain ⟨g1, g2, g3, g4, g5, g6⟩ := goodLim_cases (H.out).2 hb
        go_wp2_with fail
        go_quiet (fail)
        go_wp2_with fail
        obtain ⟨hq, kw, bx, hall, hl⟩ := HH.out
        go_roundg (gk - 1)
        case measure => omega
        case rel => exact ⟨j + 1, by omega, by simp, (kw.alloc _).drewN _, (bx.alloc _).drewN _, by rw [take_snoc' hl, List.all_append, hall]; simp [hb]⟩
    · have HH := hide (And.intro hq (And.intro kw hall))
      clear hk kw bx hall hq
      go_wp2_with fail
      go_ret
      obtain ⟨hq, kw, hall⟩ := HH.out
      exact ⟨ret_bool (by rw [← hall, List.take_of_length_le (by omega)]), kw⟩

set_option maxRecDepth 100000 in
set_option maxHeartbeats 3200000 in
theorem fine_lims3 (a : Option Addr) (lims : List Lim) (cap : Nat) (lock : Int) (w : World) (hs : SeeL w a lims) (h : badHead 3 lims.length lock = false) :
    Calls Tryz.prog 106 #[cfgV 3 a lims.length cap lock] w fun e w' => e = .returned (.bool (lims.all fun l => !badLim 3 l)) ∧ Keep w w' := by
  have hp : (2 : Int) ^ (3 : Int).toNat = 8 := rfl
  simp only [badHead, Bool.or_eq_false_iff] at h
  obtain ⟨⟨⟨⟨h1, h2⟩, h3⟩, h4⟩, h5⟩ := h
  have hn : lims.length ≤ 6 := by simp at h3; omega
  have H := hide (And.intro hs hp)
  clear hs hp
  go_enter Tryz.func106, Tryz.ntmps106
  go_wp2_with fail
  go_loopg [3, 4] lims.length (fun q i _ wr => ∃ j : Nat, q + j = lims.length ∧ i = I j ∧ Hid (Keep w wr ∧ Blk wr w.heap.size #[I 3, .slice a lims.length cap, I lock] 30 ∧ ((lims.take j).all fun l => !badLim 3 l) = true))
  case atStart => exact ⟨0, by omega, rfl, (Frm.refl _ _).alloc _, Blk.new _ _ _, by simp⟩
  case round =>
    obtain ⟨j, hq, rfl, hk⟩ := hrel
    obtain ⟨kw, bx, hall⟩ := hk.out
    have b0 : wr.cell? ⟨w.heap.size, 0, none⟩ = some (I 3) := by rw [bx.cell]; rfl
    have b1 : wr.cell? ⟨w.heap.size, 1, none⟩ = some (.slice a lims.length cap) := by rw [bx.cell]; rfl
    have lbx := bx.lt
    by_cases hj : j < lims.length
    · obtain ⟨l, hl⟩ : ∃ l, lims[j]? = some l := ⟨_, List.getElem?_eq_getElem hj⟩
      have hsee := (H.out).1.frm kw (fun _ _ _ e => e)
      rcases hsee with e | ⟨g, o, rfl, hg, hcells⟩
      · rw [e] at hj; simp at hj
      obtain ⟨d0, d1, d2⟩ := hcells j l hl
      have HH := hide (And.intro hq (And.intro kw (And.intro bx (And.intro hall hl))))
      clear hcells hk kw bx hall hq hl
      cases hb : badLim 3 l with
      | true =>
        rcases badLim_cases (H.out).2 hb with g1 | ⟨g1, g2⟩ | ⟨g1, g2, g3⟩ | ⟨g1, g2, g3, g4⟩ | ⟨g1, g2, g3, g4, g5⟩ | ⟨g1, g2, g3, g4, g5, g6⟩
        all_goals go_wp2_with fail
        all_goals go_quiet (fail)
        all_goals go_wp2_with fail
        all_goals go_ret
        all_goals (obtain ⟨hq, kw, bx, hall, hl⟩ := HH.out)
        all_goals exact ⟨ret_bool (by rw [Eq.comm, Bool.eq_false_iff]; intro e; rw [List.all_eq_true] at e; have := e l (List.mem_of_getElem? hl); rw [hb] at this; simp at this), (kw.alloc _).drewN _⟩
      | false =>
        obtain ⟨g1, g2, g3, g4, g5, g6⟩ := goodLim_cases (H.out).2 hb
        go_wp2_with fail
        go_quiet (fail)
        go_wp2_with fail
        obtain ⟨hq, kw, bx, hall, hl⟩ := HH.out
        go_roundg (gk - 1)
        case measure => omega
        case rel => exact ⟨j + 1, by omega, by simp, (kw.alloc _).drewN _, (bx.alloc _).drewN _, by rw [take_snoc' hl, List.all_append, hall]; simp [hb]⟩
    · have HH := hide (And.intro hq (And.intro kw hall))
      clear hk kw bx hall hq
      go_wp2_with fail
      go_ret
      obtain ⟨hq, kw, hall⟩ := HH.out
      exact ⟨ret_bool (by rw [← hall, List.take_of_length_le (by omega)]), kw⟩

set_option maxRecDepth 100000 in
set_option maxHeartbeats 3200000 in
theorem fine_lims4 (a : Option Addr) (lims : List Lim) (cap : Nat) (lock : Int) (w : World) (hs : SeeL w a lims) (h : badHead 4 lims.length lock = false) :
    Calls Tryz.prog 106 #[cfgV 4 a lims.length cap lock] w fun e w' => e = .returned (.bool (lims.all fun l => !badLim 4 l)) ∧ Keep w w' := by
  have hp : (2 : Int) ^ (4 : Int).toNat = 16 := rfl
  simp only [badHead, Bool.or_eq_false_iff] at h
  obtain ⟨⟨⟨⟨h1, h2⟩, h3⟩, h4⟩, h5⟩ := h
  have hn : lims.length ≤ 6 := by simp at h3; omega
  have H := hide (And.intro hs hp)
  clear hs hp
  go_enter Tryz.func106, Tryz.ntmps106
  go_wp2_with fail
  go_loopg [3, 4] lims.length (fun q i _ wr => ∃ j : Nat, q + j = lims.length ∧ i = I j ∧ Hid (Keep w wr ∧ Blk wr w.heap.size #[I 4, .slice a lims.length cap, I lock] 30 ∧ ((lims.take j).all fun l => !badLim 4 l) = true))
  case atStart => exact ⟨0, by omega, rfl, (Frm.refl _ _).alloc _, Blk.new _ _ _, by simp⟩
  case round =>
    obtain ⟨j, hq, rfl, hk⟩ := hrel
    obtain ⟨kw, bx, hall⟩ := hk.out
    have b0 : wr.cell? ⟨w.heap.size, 0, none⟩ = some (I 4) := by rw [bx.cell]; rfl
    have b1 : wr.cell? ⟨w.heap.size, 1, none⟩ = some (.slice a lims.length cap) := by rw [bx.cell]; rfl
    have lbx := bx.lt
    by_cases hj : j < lims.length
    · obtain ⟨l, hl⟩ : ∃ l, lims[j]? = some l := ⟨_, List.getElem?_eq_getElem hj⟩
      have hsee := (H.out).1.frm kw (fun _ _ _ e => e)
      rcases hsee with e | ⟨g, o, rfl, hg, hcells⟩
      · rw [e] at hj; simp at hj
      obtain ⟨d0, d1, d2⟩ := hcells j l hl
      have HH := hide (And.intro hq (And.intro kw (And.intro bx (And.intro hall hl))))
      clear hcells hk kw bx hall hq hl
      cases hb : badLim 4 l with
      | true =>
        rcases badLim_cases (H.out).2 hb with g1 | ⟨g1, g2⟩ | ⟨g1, g2, g3⟩ | ⟨g1, g2, g3, g4⟩ | ⟨g1, g2, g3, g4, g5⟩ | ⟨g1, g2, g3, g4, g5, g6⟩
        all_goals go_wp2_with fail
        all_goals go_quiet (fail)
        all_goals go_wp2_with fail
        all_goals go_ret
        all_goals (obtain ⟨hq, kw, bx, hall, hl⟩ := HH.out)
        all_goals exact ⟨ret_bool (by rw [Eq.comm, Bool.eq_false_iff]; intro e; rw [List.all_eq_true] at e; have := e l (List.mem_of_getElem? hl); rw [hb] at this; simp at this), (kw.alloc _).drewN _⟩
      | false =>
        obtain ⟨g1, g2, g3, g4, g5, g6⟩ := goodLim_cases (H.out).2 hb
        go_wp2_with fail
        go_quiet (fail)
        go_wp2_with fail
        obtain ⟨hq, kw, bx, hall, hl⟩ := HH.out
        go_roundg (gk - 1)
        case measure => omega
        case rel => exact ⟨j + 1, by omega, by simp, (kw.alloc _).drewN _, (bx.alloc _).drewN _, by rw [take_snoc' hl, List.all_append, hall]; simp [hb]⟩
    · have HH := hide (And.intro hq (And.intro kw hall))
      clear hk kw bx hall hq
      go_wp2_with fail
      go_ret
      obtain ⟨hq, kw, hall⟩ := HH.out
      exact ⟨ret_bool (by rw [← hall, List.take_of_length_le (by omega)]), kw⟩

theorem fine_any (c : Int) (a : Option Addr) (lims : List Lim) (cap : Nat) (lock : Int) (w : World) (hs : SeeL w a lims) :
    Calls Tryz.prog 106 #[cfgV c a lims.length cap lock] w fun e w' => e = .returned (.bool (fineB c lims lock)) ∧ Keep w w' := by
  cases h : badHead c lims.length lock with
  | true =>
    have e : fineB c lims lock = false := by simp [fineB, h]
    rw [e]; exact fine_head c a lims.length cap lock w h
  | false =>
    have e : fineB c lims lock = lims.all fun l => !badLim c l := by simp [fineB, h]
    rw [e]
    have h' := h
    simp only [badHead, Bool.or_eq_false_iff] at h
    obtain ⟨⟨⟨⟨h1, h2⟩, h3⟩, h4⟩, h5⟩ := h
    have hc : c = 1 ∨ c = 2 ∨ c = 3 ∨ c = 4 := by simp at h1 h2; omega
    rcases hc with rfl | rfl | rfl | rfl
    · exact fine_lims1 a lims cap lock w hs h'
    · exact fine_lims2 a lims cap lock w hs h'
    · exact fine_lims3 a lims cap lock w hs h'
    · exact fine_lims4 a lims cap lock w hs h'

end Go.Proofs.YtpilmkipbbengaaGreatDoor

/- The document's pump: New. -/
namespace Go.Proofs.YtpilmkipbbengaaGreatDoor
open Go.RowKit

theorem infoC : (Tryz.prog.info? 166).map (fun i => (i.zero, i.size, i.bytes)) = some (some (.agg #[I 0, I 0, .bool false, I 0]), 4, 32) := by kernel_rfl

/-- what New leaves -/
def NewEnd (w : World) (c : Int) (lims : List Lim) (lock : Int) (e : Ending) (w' : World) : Prop := Keep w w' ∧
  ((fineB c lims lock = false ∧ e = .returned (.tuple #[.pointer none, I 1])) ∨
   (fineB c lims lock = true ∧ ∃ b vl vc, e = .returned (.tuple #[.pointer (some ⟨b, 0, none⟩), I 0]) ∧ RefAt w' b (rnew c.toNat lims lock) vl (.slice none 0 0) vc (.slice none 0 0) ∧ (∀ x, RefF b vl (.slice none 0 0) vc (.slice none 0 0) x → w.heap.size ≤ x)))

/-- on the way through New -/
structure NewSt (w wx : World) (b : Nat) (c lock : Int) (a : Option Addr) (cap : Nat) (lims : List Lim) (vl vc : Value) (j : Nat) : Prop where
  keep : Keep w wx
  cfg : Blk wx w.heap.size #[I c, .slice a lims.length cap, I lock] 30
  lt : w.heap.size < b
  head : Blk wx b #[I c, vl, I lock, I 0, .slice none 0 0, vc, .slice none 0 0] 98
  lims : wx.ownsRow 0 60 3 vl lims.length (lims.flatMap limC)
  chs : wx.ownsRow 0 166 4 vc j ((List.replicate j ch0).flatMap chC)
  bl : ∀ x, vl.ownBlock = some x → b < x
  bc : ∀ x, vc.ownBlock = some x → b < x
  dis : Dis vl vc

theorem NewSt.chan {w wx W w2 : World} {b : Nat} {c lock : Int} {a : Option Addr} {cap : Nat} {lims : List Lim} {vl vc v' : Value} {j : Nat} (h : NewSt w wx b c lock a cap lims vl vc j) (k : Keep wx W) (hg : W.grownBy w2 vc.ownBlock) (hnew : v'.ownBlock = vc.ownBlock ∨ (v'.ownBlock = some W.heap.size ∧ W.grownBy w2 none))
    (hrow : w2.ownsRow 0 166 4 v' (j + 1) ((List.replicate j ch0).flatMap chC ++ chC ch0)) : NewSt w (w2.setCell ⟨b, 5, none⟩ v') b c lock a cap lims vl v' (j + 1) := by
  have hlb := h.head.lt
  have hks := k.size
  have hb : ∀ x, v'.ownBlock = some x → b < x := by
    intro x hx
    rcases hnew with e | ⟨e, -⟩
    · rw [e] at hx; exact h.bc x hx
    · rw [e] at hx; injection hx with hx; omega
  have h2 : ∀ {b' : Nat} {cs : Array Value} {T : TypeId}, Blk wx b' cs T → b' ≤ b → Blk w2 b' cs T := fun hb' hle => (k.blk hb').frm (grown_frm hg) fun e => by have := h.bc _ e; omega
  refine ⟨?_, (h2 h.cfg (by have := h.lt; omega)).other (p := ⟨b, 5, none⟩) (by have := h.lt; intro e; simp at e; omega) _, h.lt, ?_, ?_, ?_, h.bl, hb, ?_⟩
  · refine (((h.keep.trans k).trans2 (grown_frm hg) ?_)).setNew ?_ _
    · intro x hx e; have := h.bc x e; have := h.lt; omega
    · have := h.lt; show w.heap.size ≤ b; omega
  · have := (h2 h.head (Nat.le_refl _)).set 5 v'
    simpa using this
  · refine row_of_block (row_frm (row_frm h.lims k (fun _ _ e => e)) (grown_frm hg) (fun g hgv e => h.dis g hgv e)) fun g hgv => Below.heap_setCell _ _ _ _ fun e => ?_
    have := h.bl g hgv
    have e' : g = b := e
    omega
  · have := row_of_block hrow (w' := w2.setCell ⟨b, 5, none⟩ v') fun g hgv => Below.heap_setCell _ _ _ _ fun e => by have := hb g hgv; have e' : g = b := e; omega
    rw [List.replicate_succ', List.flatMap_append]
    simpa using this
  · intro x hx e
    rcases hnew with e' | ⟨e', -⟩
    · rw [e'] at e; exact h.dis x hx e
    · rw [e'] at e; injection e with e
      have := (h.lims.lt x hx).2
      omega

theorem NewSt.start {w w1 W w5 : World} {c lock : Int} {a : Option Addr} {cap : Nat} {lims : List Lim} {v5 : Value} (k1 : Keep (w.alloc (.cells #[I c, .slice a lims.length cap, I lock] 30)) w1)
    (hW : W = (w1.alloc (.cells #[I c, .slice none 0 0, I lock, I 0, .slice none 0 0, .slice none 0 0, .slice none 0 0] 98)).drew) (hg : W.grownBy w5 none) (hnew : v5.ownBlock = none ∨ (v5.ownBlock = some W.heap.size ∧ W.grownBy w5 none))
    (hrow : w5.ownsRow 0 60 3 v5 lims.length (lims.flatMap limC)) : NewSt w (w5.setCell ⟨w1.heap.size, 1, none⟩ v5) w1.heap.size c lock a cap lims v5 (.slice none 0 0) 0 := by
  have ks := k1.size
  simp at ks
  have hWs : W.heap.size = w1.heap.size + 1 := by rw [hW]; simp
  have hb : ∀ x, v5.ownBlock = some x → w1.heap.size < x := by
    intro x hx
    rcases hnew with e | ⟨e, -⟩
    · rw [e] at hx; cases hx
    · rw [e] at hx; injection hx with hx; omega
  have g2 : ∀ {b' : Nat} {cs : Array Value} {T : TypeId}, Blk W b' cs T → Blk w5 b' cs T := fun hb' => hb'.frm (grown_frm hg) (by simp)
  have kW : Keep w W := by rw [hW]; exact ((((Frm.refl _ _).alloc _).trans k1).alloc _).drew
  have cfgW : Blk W w.heap.size #[I c, .slice a lims.length cap, I lock] 30 := by rw [hW]; exact ((k1.blk (Blk.new _ _ _)).alloc _).drew
  have headW : Blk W w1.heap.size #[I c, .slice none 0 0, I lock, I 0, .slice none 0 0, .slice none 0 0, .slice none 0 0] 98 := by rw [hW]; exact (Blk.new _ _ _).drew
  refine ⟨(kW.trans2 (grown_frm hg) (fun x _ e => by simp at e)).setNew (by show w.heap.size ≤ w1.heap.size; omega) _, (g2 cfgW).other (p := ⟨w1.heap.size, 1, none⟩) (by intro e; have e' : w.heap.size = w1.heap.size := e; omega) _, by omega, ?_, ?_, by simp; exact World.ownsRow_nil .., hb, fun x hx => by simp [Value.ownBlock] at hx, fun x _ => by simp [Value.ownBlock]⟩
  · have := (g2 headW).set 1 v5
    simpa using this
  · have := row_of_block hrow (w' := w5.setCell ⟨w1.heap.size, 1, none⟩ v5) fun g hgv => Below.heap_setCell _ _ _ _ fun e => by have := hb g hgv; have e' : g = w1.heap.size := e; omega
    simpa using this

set_option maxRecDepth 100000 in
set_option maxHeartbeats 1600000 in
theorem rNew_any (c : Int) (a : Option Addr) (lims : List Lim) (cap : Nat) (lock : Int) (w : World) (hs : SeeL w a lims) (hnone : a = none → lims.length = 0 ∧ cap = 0) :
    Calls Tryz.prog 70 #[cfgV c a lims.length cap lock] w fun e w' => NewEnd w c lims lock e w' := by
  have cf := fun (W : World) (k : Keep w W) => fine_any c a lims cap lock W (hs.frm k (fun _ _ _ e => e))
  have CF := hide cf
  have HS := hide (And.intro hs hnone)
  clear cf hs hnone
  cases hf : fineB c lims lock with
  | false =>
    rw [hf] at CF
    go_enter Tryz.func70, Tryz.ntmps70
    go_wp2_with fail
    refine (CF.out _ (by exact (Frm.refl _ _).alloc _)).mono ?_
    rintro e w1 ⟨rfl, k1⟩
    go_wp2_with fail
    go_ret2
    exact ⟨((Frm.refl _ _).alloc _).trans k1, Or.inl ⟨hf, rfl⟩⟩
  | true =>
    rw [hf] at CF
    go_enter Tryz.func70, Tryz.ntmps70
    go_wp2_with fail
    refine (CF.out _ (by exact (Frm.refl _ _).alloc _)).mono ?_
    rintro e w1 ⟨rfl, k1⟩
    have bx : Blk w1 w.heap.size #[I c, .slice a lims.length cap, I lock] 30 := k1.blk (Blk.new _ _ _)
    have b0 : w1.cell? ⟨w.heap.size, 0, none⟩ = some (I c) := by rw [bx.cell]; rfl
    have b1 : w1.cell? ⟨w.heap.size, 1, none⟩ = some (.slice a lims.length cap) := by rw [bx.cell]; rfl
    have b2 : w1.cell? ⟨w.heap.size, 2, none⟩ = some (I lock) := by rw [bx.cell]; rfl
    have lx := bx.lt
    have K1 := hide (And.intro k1 bx)
    clear k1 bx
    have hcb : 1 ≤ c ∧ c ≤ 4 ∧ lims.length ≤ 6 := by
      simp [fineB, badHead] at hf
      omega
    obtain ⟨iL, hiL, hzL0, hzL1, hzL2⟩ := info_parts infoL
    obtain ⟨iC, hiC, hzC0, hzC1, hzC2⟩ := info_parts infoC
    have HF := hide hf
    clear hf
    go_wp2_with fail
    go_cut [] from 18 to 29 (fun wx => Hid (∃ vl, NewSt w wx w1.heap.size c lock a cap lims vl (.slice none 0 0) 0))
    case first =>
      go_region_law (refine step_append_src rfl (.tmp 23) (.tmp 25) 28 rfl 60 iL (.agg #[I 0, I 0, I 0]) 3 24 Tryz.underlying28 hiL hzL0 hzL1 hzL2 rfl (by decide) (.slice none 0 0) 0 [] (by simp [Act.eval]) (World.ownsRow_nil _ 0 _ _) a lims.length cap (lims.flatMap limC) (by simp [Act.eval]) (flat_len limC 3 (fun _ => rfl) lims) (HS.out).2 (by exact ((HS.out).1.frm ((((Frm.refl _ _).alloc _).trans (K1.out).1).alloc _).drew (fun _ _ _ e => e)).news) (limC_one lims) (by unfold maxLen; omega) (by omega) ?_; intro v5 w5 hown5 hgr5 hnew5; rw [Nat.zero_add, List.nil_append] at hown5; obtain ⟨a5, cp5, hv5⟩ := row_slice hown5; subst hv5; have bb5 := (show Blk _ w1.heap.size _ _ from (Blk.new w1 #[I c, .slice none 0 0, I lock, I 0, .slice none 0 0, .slice none 0 0, .slice none 0 0] 98).drew).frm (grown_frm hgr5) (by simp [Value.ownBlock]); have c51 : w5.cell? ⟨w1.heap.size, 1, none⟩ = some (.slice none 0 0) := (by { rw [bb5.cell]; rfl }); have f51 := bb5.frozen 1; have FIVE := hide (And.intro hown5 (And.intro hgr5 (And.intro hnew5 bb5))); clear hown5 hgr5 hnew5 bb5)
      all_goals (go_wp2_with fail; go_meet)
      all_goals exact ⟨_, NewSt.start (K1.out).1 rfl (FIVE.out).2.1 (FIVE.out).2.2.1 (FIVE.out).1⟩
    case rest =>
      obtain ⟨vl, hst0⟩ := hcut.out
      have HST0 := hide hst0
      clear hst0 hcut b0 b1 b2 lx K1 CF
      generalize w1.heap.size = b at *
      go_wp2_with fail
      go_loopg [6] c.toNat (fun q i wr => ∃ (j : Nat) (vc : Value), q + j = c.toNat ∧ i = I j ∧ Hid (NewSt w wr b c lock a cap lims vl vc j))
      case atStart => exact ⟨0, _, by omega, rfl, HST0.out⟩
      case round =>
        obtain ⟨j, vc, hq, rfl, hst⟩ := hrel
        have hs := hst.out
        have b0 : wr.cell? ⟨w.heap.size, 0, none⟩ = some (I c) := by rw [hs.cfg.cell]; rfl
        by_cases hj : j < c.toNat
        · obtain ⟨ac, cpc, hvc⟩ := row_slice hs.chs
          subst hvc
          have c5 : wr.cell? ⟨b, 5, none⟩ = some (.slice ac j cpc) := by rw [hs.head.cell]; rfl
          have f5 := hs.head.frozen 5
          have lb := hs.head.lt
          have hji : (j : Int) < c := by omega
          have HS2 := hide (And.intro hs hq)
          clear hs hst hq
          go_wp2_with (at_builtin; refine wpList_append_row _ rfl _ _ 95 rfl 166 iC (.agg #[I 0, I 0, .bool false, I 0]) 4 32 Tryz.underlying95 hiC hzC0 hzC1 hzC2 rfl (by decide) _ _ _ rfl (row_frm (HS2.out).1.chs (show Keep _ _ from (Frm.refl _ _).alloc _) (fun _ _ e => e)) ⟨wr.heap.size, 0, none⟩ 1 1 [I 0, I (-1), .bool false, I (-1)] rfl rfl (cell_news _ [I 0, I (-1), .bool false, I (-1)] _ _ (by simp)) (by intro u hu; simp at hu; rcases hu with rfl | rfl | rfl | rfl <;> rfl) (by unfold maxLen; omega) (by omega) ?_; intro v' w2 hown hgr hnew; obtain ⟨a5, cp5, hv5⟩ := row_slice hown; subst hv5; have bb5 := ((show Keep _ _ from (Frm.refl _ _).alloc _).blk (HS2.out).1.head).frm (grown_frm hgr) (fun e => by have := (HS2.out).1.bc _ e; omega); have c55 : w2.cell? ⟨b, 5, none⟩ = some (.slice ac j cpc) := (by { rw [bb5.cell]; rfl }); have f55 := bb5.frozen 5; have FIVE := hide (And.intro hown (And.intro hgr hnew)); clear hown hgr hnew bb5)
          go_roundg (gk - 1)
          case measure => have := (HS2.out).2; omega
          case rel => exact ⟨j + 1, _, by have := (HS2.out).2; omega, by simp, NewSt.chan (HS2.out).1 (show Keep _ _ from (Frm.refl _ _).alloc _) (FIVE.out).2.1 (FIVE.out).2.2 (FIVE.out).1⟩
        · have hje : j = c.toNat := by omega
          have hji : c ≤ (j : Int) := by omega
          have HS2 := hide (And.intro hs hje)
          clear hs hst hq hje
          go_wp2_with fail
          go_ret2
          obtain ⟨hs, rfl⟩ := HS2.out
          have hbl := hs.lt
          refine ⟨hs.keep, Or.inr ⟨HF.out, b, vl, vc, rfl, ⟨?_, hs.lims, by simpa [rnew] using World.ownsRow_nil .., by simpa [rnew] using hs.chs, by simpa [rnew] using World.ownsRow_nil .., ⟨fun e => by have := hs.bl _ e; omega, by simp [Value.ownBlock], fun e => by have := hs.bc _ e; omega, by simp [Value.ownBlock], fun x _ => by simp [Value.ownBlock], hs.dis, fun x _ => by simp [Value.ownBlock], fun x hx => by simp [Value.ownBlock] at hx, fun x hx => by simp [Value.ownBlock] at hx, fun x _ => by simp [Value.ownBlock]⟩⟩, ?_⟩⟩
          · have := hs.head
            have e1 : ((rnew c.toNat lims lock).chs.length : Int) = c := by simp [rnew]; omega
            rw [e1]; exact this
          · rintro x (e | e | e | e | e)
            · omega
            · have := hs.bl x e; omega
            · simp [Value.ownBlock] at e
            · have := hs.bc x e; omega
            · simp [Value.ownBlock] at e

end Go.Proofs.YtpilmkipbbengaaGreatDoor
