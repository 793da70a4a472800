/- The document's pump: tick. -/
import Derived.Test.YtpilmkipbbengaaGreatDoorRef2
import Derived.Deep.CutRange
namespace Go.Proofs.YtpilmkipbbengaaGreatDoor
open Go.RowKit

theorem RefAt.lt {w : World} {b : Nat} {R : RSt} {vl vd vc vo : Value} (h : RefAt w b R vl vd vc vo) : ∀ x, RefF b vl vd vc vo x → x < w.heap.size := by
  rintro x (rfl | e | e | e | e)
  · exact h.head.lt
  · exact (h.lims.lt x e).2
  · exact (h.doses.lt x e).2
  · exact (h.chs.lt x e).2
  · exact (h.os.lt x e).2

theorem RefAt.frm {S : Nat → Prop} {w w' : World} {b : Nat} {R : RSt} {vl vd vc vo : Value} (h : RefAt w b R vl vd vc vo) (k : Frm S w w') (hs : ∀ x, RefF b vl vd vc vo x → ¬ S x) : RefAt w' b R vl vd vc vo :=
  ⟨h.head.frm k (hs _ (Or.inl rfl)), row_frm h.lims k (fun g hg => hs g (Or.inr (Or.inl hg))), row_frm h.doses k (fun g hg => hs g (Or.inr (Or.inr (Or.inl hg)))), row_frm h.chs k (fun g hg => hs g (Or.inr (Or.inr (Or.inr (Or.inl hg))))), row_frm h.os k (fun g hg => hs g (Or.inr (Or.inr (Or.inr (Or.inr hg))))), h.sep⟩

/-- on the way through a tick -/
structure TickSt (w wr : World) (b : Nat) (R R' : RSt) (vl vd vd' vc vo vout : Value) : Prop where
  lie : RefAt wr b R' vl vd' vc vo
  out : wr.ownsRow 0 100 3 vout (R'.doses.length - R.doses.length) ((R'.doses.drop R.doses.length).flatMap dsC)
  frm : Frm (RefF b vl vd vc vo) w wr
  nd : vd'.ownBlock = vd.ownBlock ∨ ∃ g, vd'.ownBlock = some g ∧ w.heap.size ≤ g
  no : ∀ g, vout.ownBlock = some g → w.heap.size ≤ g
  sep : Dis vout vd'

theorem TickSt.keep {w wr w2 : World} {b : Nat} {R R' : RSt} {vl vd vd' vc vo vout : Value} (h : TickSt w wr b R R' vl vd vd' vc vo vout) (k : Keep wr w2) : TickSt w w2 b R R' vl vd vd' vc vo vout :=
  ⟨h.lie.keep k, row_frm h.out k (fun _ _ e => e), h.frm.trans2 k (fun _ _ e => e.elim), h.nd, h.no, h.sep⟩

/-- the answer has grown -/
theorem TickSt.outs {w wr w2 w4 W : World} {b : Nat} {R R' : RSt} {vl vd vd' vc vo vout v' : Value} (h0 : ∀ x, RefF b vl vd vc vo x → x < w.heap.size) (h : TickSt w wr b R R' vl vd vd' vc vo vout) (k2 : Keep wr w2) {d : Ds} (hW : W = (w2.alloc (.cells #[I d.tick, I d.ch, I d.amt] 100)).alloc (.cells #[I d.tick, I d.ch, I d.amt] 100))
    (hg : W.grownBy w4 vout.ownBlock) (hnew : v'.ownBlock = vout.ownBlock ∨ (v'.ownBlock = some W.heap.size ∧ W.grownBy w4 none)) :
    RefAt w4 b R' vl vd' vc vo ∧ Blk w4 w2.heap.size #[I d.tick, I d.ch, I d.amt] 100 ∧ Frm (RefF b vl vd vc vo) w w4 ∧ (∀ g, v'.ownBlock = some g → w.heap.size ≤ g) ∧ Dis v' vd' := by
  have kW : Keep wr W := by rw [hW]; exact (k2.alloc _).alloc _
  have hW2 : W.heap.size = w2.heap.size + 2 := by rw [hW]; simp
  have hlt := h.lie.lt
  have hs1 := h.frm.size
  have hs2 := k2.size
  refine ⟨(h.lie.keep kW).frm (grown_frm hg) ?_, ?_, ?_, ?_, ?_⟩
  · rintro x hx hv
    have h3 := h.no x hv
    rcases hx with e | e | e | e | e
    · have := h0 x (Or.inl e); omega
    · have := h0 x (Or.inr (Or.inl e)); omega
    · exact h.sep x hv e
    · have := h0 x (Or.inr (Or.inr (Or.inr (Or.inl e)))); omega
    · have := h0 x (Or.inr (Or.inr (Or.inr (Or.inr e)))); omega
  · have hb : Blk W w2.heap.size #[I d.tick, I d.ch, I d.amt] 100 := by rw [hW]; exact (Blk.new _ _ _).alloc _
    refine hb.frm (grown_frm hg) fun e => ?_
    have := (h.out.lt _ e).2
    omega
  · refine ((h.frm.trans2 kW (fun _ _ e => e.elim))).trans2 (grown_frm hg) ?_
    intro x hx hv
    have := h.no x hv; omega
  · intro g hv
    rcases hnew with e | ⟨e, -⟩
    · rw [e] at hv; exact h.no g hv
    · rw [e] at hv; injection hv with hv; omega
  · intro x hx hv
    rcases hnew with e | ⟨e, -⟩
    · rw [e] at hx; exact h.sep x hx hv
    · rw [e] at hx; injection hx with hx
      have := hlt x (Or.inr (Or.inr (Or.inl hv)))
      omega

/-- the doses have grown -/
theorem TickSt.dosed {w w4 w5 W : World} {b : Nat} {R R' : RSt} {vl vd vd' vc vo vout v5 : Value} (h0 : ∀ x, RefF b vl vd vc vo x → x < w.heap.size) (hle : R.doses.length ≤ R'.doses.length) (hlie : RefAt w4 b R' vl vd' vc vo) {d : Ds}
    (hout : w4.ownsRow 0 100 3 vout (R'.doses.length - R.doses.length + 1) ((R'.doses.drop R.doses.length).flatMap dsC ++ dsC d)) (hfrm : Frm (RefF b vl vd vc vo) w w4) (hnd : vd'.ownBlock = vd.ownBlock ∨ ∃ g, vd'.ownBlock = some g ∧ w.heap.size ≤ g)
    (hno : ∀ g, vout.ownBlock = some g → w.heap.size ≤ g) (hsep : Dis vout vd') (hW : Keep w4 W) (hg : W.grownBy w5 vd'.ownBlock) (hnew : v5.ownBlock = vd'.ownBlock ∨ (v5.ownBlock = some W.heap.size ∧ W.grownBy w5 none))
    (hrow : w5.ownsRow 0 100 3 v5 (R'.doses.length + 1) (R'.doses.flatMap dsC ++ dsC d)) :
    TickSt w (w5.setCell ⟨b, 4, none⟩ v5) b R { R' with doses := R'.doses ++ [d] } vl vd v5 vc vo vout := by
  have hs := hlie.sep
  have hlt := hlie.lt
  have hsz := hW.size
  have hfs := hfrm.size
  have hb5 : v5.ownBlock ≠ some b := by
    rcases hnew with e | ⟨e, -⟩
    · rw [e]; exact hs.bd
    · rw [e]; intro e'; injection e' with e'; have := hlt b (Or.inl rfl); omega
  have d5 : ∀ v : Value, (∀ x, v.ownBlock = some x → x < w4.heap.size) → Dis v vd' → Dis v v5 := by
    intro v hv hd x hx e5
    rcases hnew with e | ⟨e, -⟩
    · rw [e] at e5; exact hd x hx e5
    · rw [e] at e5; injection e5 with e5; have := hv x hx; omega
  have hfr5 : ∀ v : Value, Dis v vd' → ∀ g, v.ownBlock = some g → ¬ (vd'.ownBlock = some g) := fun v hd g hg e => hd g hg e
  have kb : ∀ (v : Value) (T : TypeId) (s n : Nat) (xs : List Value), w4.ownsRow 0 T s v n xs → Dis v vd' → v.ownBlock ≠ some b → (w5.setCell ⟨b, 4, none⟩ v5).ownsRow 0 T s v n xs := by
    intro v T s n xs hr hd hne
    refine row_of_block (row_frm (row_frm hr hW (fun _ _ e => e)) (grown_frm hg) (hfr5 v hd)) fun g hg' => Below.heap_setCell _ _ _ _ fun e => hne (by rw [hg', e])
  refine ⟨⟨?_, kb vl _ _ _ _ hlie.lims hs.ld hs.bl, ?_, kb vc _ _ _ _ hlie.chs hs.dc.symm hs.bc, kb vo _ _ _ _ hlie.os hs.od.symm hs.bo, ⟨hs.bl, hb5, hs.bc, hs.bo, ?_, hs.lc, hs.lo, ?_, ?_, hs.co⟩⟩, ?_, ?_, ?_, hno, ?_⟩
  · have := ((hW.blk hlie.head).frm (grown_frm hg) hs.bd).set 4 v5
    simpa using this
  · have := row_of_block hrow (w' := w5.setCell ⟨b, 4, none⟩ v5) fun g hg' => Below.heap_setCell _ _ _ _ fun e => hb5 (by rw [hg', e])
    simpa [List.flatMap_append] using this
  · exact d5 vl (fun x hx => hlt x (Or.inr (Or.inl hx))) hs.ld
  · exact (d5 vc (fun x hx => hlt x (Or.inr (Or.inr (Or.inr (Or.inl hx))))) hs.dc.symm).symm
  · exact (d5 vo (fun x hx => hlt x (Or.inr (Or.inr (Or.inr (Or.inr hx))))) hs.od.symm).symm
  · have hbo : vout.ownBlock ≠ some b := fun e => by have := hno b e; have := h0 b (Or.inl rfl); omega
    have := kb vout _ _ _ _ hout hsep hbo
    simp only [drop_snoc _ _ _ hle, List.flatMap_append, List.length_append, List.length_cons, List.length_nil]
    rw [show R'.doses.length + (0 + 1) - R.doses.length = R'.doses.length - R.doses.length + 1 from by omega]
    simpa using this
  · refine (((hfrm.trans2 hW (fun _ _ e => e.elim))).trans2 (grown_frm hg) ?_).setCell (Or.inl rfl) _
    intro x hx e
    rcases hnd with e' | ⟨g, e', hg'⟩
    · exact Or.inr (Or.inr (Or.inl (by rw [← e', e])))
    · rw [e'] at e; injection e with e; omega
  · rcases hnew with e | ⟨e, -⟩
    · rw [e]; exact hnd
    · exact Or.inr ⟨_, e, by omega⟩
  · exact d5 vout (fun x hx => (hout.lt x hx).2) hsep

/-- an order's rest -/
theorem TickSt.setOrd {w wr : World} {b : Nat} {R R' : RSt} {vl vd vd' vc vo vout : Value} (h0 : ∀ x, RefF b vl vd vc vo x → x < w.heap.size) (h : TickSt w wr b R R' vl vd vd' vc vo vout) {g cap j : Nat} (hv : vo = .slice (some ⟨g, 0, none⟩) R'.os.length cap) {o : ROrd} (ho : R'.os[j]? = some o) (r : Int) :
    TickSt w (wr.setCell ⟨g, j * 4 + 3, none⟩ (I r)) b R { R' with os := R'.os.set j { o with rest := r } } vl vd vd' vc vo vout := by
  have hs := h.lie.sep
  have hgo : vo.ownBlock = some g := by rw [hv]; rfl
  have kb : ∀ (v : Value) (T : TypeId) (s n : Nat) (xs : List Value), wr.ownsRow 0 T s v n xs → Dis v vo → (wr.setCell ⟨g, j * 4 + 3, none⟩ (I r)).ownsRow 0 T s v n xs := by
    intro v T s n xs hr hd
    exact row_of_block hr fun g' hg' => Below.heap_setCell _ _ _ _ fun e => hd g' hg' (by rw [hgo, e])
  have hbg : b ≠ g := fun e => hs.bo (by rw [hgo, e])
  have hod : Dis vout vo := fun x hx e => by have := h.no x hx; have := h0 x (Or.inr (Or.inr (Or.inr (Or.inr e)))); omega
  refine ⟨⟨h.lie.head.other (p := ⟨g, j * 4 + 3, none⟩) hbg _, kb vl _ _ _ _ h.lie.lims hs.lo, kb vd' _ _ _ _ h.lie.doses hs.od, kb vc _ _ _ _ h.lie.chs hs.co, ?_, hs⟩, kb vout _ _ _ _ h.out hod, h.frm.setCell (Or.inr (Or.inr (Or.inr (Or.inr hgo)))) _, h.nd, h.no, h.sep⟩
  have := h.lie.os
  rw [hv] at this ⊢
  have h2 := row_set this (fun _ => rfl) ho (i := 3) (by decide) (u := I r) (x' := { o with rest := r }) rfl
  simpa using h2

theorem TickSt.setNow {w wr : World} {b : Nat} {R R' : RSt} {vl vd vd' vc vo vout : Value} (h0 : ∀ x, RefF b vl vd vc vo x → x < w.heap.size) (h : TickSt w wr b R R' vl vd vd' vc vo vout) (n : Int) :
    TickSt w (wr.setCell ⟨b, 3, none⟩ (I n)) b R { R' with now := n } vl vd vd' vc vo vout := by
  have hs := h.lie.sep
  have kb : ∀ (v : Value) (T : TypeId) (s n' : Nat) (xs : List Value), wr.ownsRow 0 T s v n' xs → v.ownBlock ≠ some b → (wr.setCell ⟨b, 3, none⟩ (I n)).ownsRow 0 T s v n' xs := by
    intro v T s n' xs hr hd
    exact row_of_block hr fun g' hg' => Below.heap_setCell _ _ _ _ fun e => hd (by rw [hg', e])
  have hob : vout.ownBlock ≠ some b := fun e => by have := h.no b e; have := h0 b (Or.inl rfl); omega
  exact ⟨⟨by have := h.lie.head.set 3 (I n); simpa using this, kb vl _ _ _ _ h.lie.lims hs.bl, kb vd' _ _ _ _ h.lie.doses hs.bd, kb vc _ _ _ _ h.lie.chs hs.bc, kb vo _ _ _ _ h.lie.os hs.bo, hs⟩, kb vout _ _ _ _ h.out hob, h.frm.setCell (Or.inl rfl) _, h.nd, h.no, h.sep⟩

def TickEnd (w : World) (b : Nat) (R R' : RSt) (vl vd vc vo : Value) (e : Ending) (w' : World) : Prop := ∃ vd' vout, e = .returned vout ∧ TickSt w w' b R R' vl vd vd' vc vo vout

set_option maxRecDepth 100000 in
set_option maxHeartbeats 3200000 in
theorem rtick_any (b : Nat) (R : RSt) (vl vd vc vo : Value) (w : World) (h : RefAt w b R vl vd vc vo) (ok : R.Ok) (hn : R.now < 400) (hd : R.doses.length ≤ 1996) :
    Calls Tryz.prog 109 #[.pointer (some ⟨b, 0, none⟩)] w fun e w' => TickEnd w b R (rtick R) vl vd vc vo e w' := by
  obtain ⟨i, hi, hz0, hz1, hz2⟩ := info_parts infoD
  have H := hide (And.intro h (And.intro ok (And.intro hn hd)))
  have hnc := ok.nc1
  clear h ok hn hd
  go_enter Tryz.func109, Tryz.ntmps109
  go_wp2_with fail
  go_loopg [3, 4, 5, 6, 7, 8, 9] R.chs.length (fun q vout k _ _ _ _ _ wr => ∃ (j : Nat) (vd' : Value), q + j = R.chs.length ∧ k = I j ∧ Hid (TickSt w wr b R (tks j R) vl vd vd' vc vo vout))
  case atStart => exact ⟨0, vd, by omega, rfl, ⟨(H.out).1, by simp [tks]; exact World.ownsRow_nil .., Frm.refl _ _, Or.inl rfl, fun g hg => by simp [Value.ownBlock] at hg, fun x hx => by simp [Value.ownBlock] at hx⟩⟩
  case round =>
    obtain ⟨j, vd', hkj, rfl, hst⟩ := hrel
    obtain ⟨hchs, hlims, hnow, hlock, hosl⟩ := tks_same j R
    have hok : (tks j R).Ok := tks_ok (H.out).2.1 (H.out).2.2.1 (H.out).2.2.2 j (by omega)
    have hR := hst.out.lie
    obtain ⟨ac, cpc, hvc⟩ := row_slice hR.chs
    have c5 : wr.cell? ⟨b, 5, none⟩ = some vc := by rw [hR.head.cell]; rfl
    rw [hvc, hchs] at c5
    have c3 : wr.cell? ⟨b, 3, none⟩ = some (I R.now) := by rw [hR.head.cell, ← hnow]; rfl
    have lb := hR.head.lt
    have hn0 := (H.out).2.1.now0
    have hn1 := (H.out).2.1.now1
    by_cases hj : j < R.chs.length
    · obtain ⟨c, hc⟩ : ∃ c, (tks j R).chs[j]? = some c := ⟨_, List.getElem?_eq_getElem (by rw [hchs]; exact hj)⟩
      have cw := rwants_any b (tks j R) vl vd' vc vo (j : Int) c wr hR hok (by omega) (by simpa using hc)
      have cr := fun W (kW : Keep wr W) => rroom_any b (tks j R) vl vd' vc vo (j : Int) R.now W (hR.keep kW) hok (by omega) (by omega) hn0 (by omega)
      rw [Int.toNat_natCast] at cr
      rw [hnow] at cw
      have hrb := (fold_bd (k := j) (t := R.now) hok.doses hok.nd (tks j R).lims hok.lims 1000 (by omega) (by omega))
      have hww : 0 ≤ wnt R.now j c (tks j R).os ∧ wnt R.now j c (tks j R).os ≤ 1000000000000 := by
        have h1 := wsum_bd (now := R.now) (k := j) hok.os
        have h2 := hok.no
        have h3 := hok.chs c (List.mem_of_getElem? hc)
        have h4 : 0 ≤ wbase R.now c ∧ wbase R.now c ≤ 1000 := by unfold wbase; split <;> omega
        unfold wnt; split <;> omega
      have hamt : amt (tks j R) j c = if rroom (tks j R).doses (tks j R).lims j R.now < wnt R.now j c (tks j R).os then rroom (tks j R).doses (tks j R).lims j R.now else wnt R.now j c (tks j R).os := by rw [amt, hnow]
      have htk : tks (j + 1) R = if amt (tks j R) j c ≤ 0 then tks j R else { tks j R with doses := (tks j R).doses ++ [⟨R.now, j, amt (tks j R) j c⟩], os := dist R.now j (tks j R).os (amt (tks j R) j c) } := by
        simp only [tks, tk1, hc, hnow]
      change -2000000 ≤ rroom (tks j R).doses (tks j R).lims j R.now ∧ rroom (tks j R).doses (tks j R).lims j R.now ≤ 1000 at hrb
      have hle := amt_le hok j c
      generalize hRm : rroom (tks j R).doses (tks j R).lims j R.now = Rm at *
      generalize hWn : wnt R.now j c (tks j R).os = Wn at *
      generalize hA : amt (tks j R) j c = A at *
      have CW := hide cw
      have CR := hide cr
      have HT := hide (And.intro hkj (And.intro hst.out (And.intro hok (And.intro htk hamt))))
      clear cw cr htk hamt hRm hWn hA hst hok hR hkj hc hchs hlims hnow hlock hosl hvc
      go_wp2_with fail
      refine (CW.out).mono ?_
      rintro e w1 ⟨rfl, k1⟩
      have c31 : w1.cell? ⟨b, 3, none⟩ = some (I R.now) := k1.cell c3 (fun e => e)
      have K1 := hide k1
      clear k1
      go_wp2_with fail
      refine (CR.out w1 K1.out).mono ?_
      rintro e w2 ⟨rfl, k2⟩
      have kk2 : Keep wr w2 := (K1.out).trans k2
      have c32 : w2.cell? ⟨b, 3, none⟩ = some (I R.now) := kk2.cell c3 (fun e => e)
      have K2 := hide kk2
      clear k2 kk2 c31
      -- n: what is given
      have skip : ∀ (w3 : World), Keep wr w3 → A ≤ 0 → ∃ k' : Nat, k' < gk ∧ ∃ (j' : Nat) (vd'' : Value), k' + j' = R.chs.length ∧ I ((j : Int) + 1) = I j' ∧ Hid (TickSt w w3 b R (tks j' R) vl vd vd'' vc vo u3) := by
        intro w3 hw3 hA
        obtain ⟨h1, h2, h3, h4, h5⟩ := HT.out
        rw [if_pos hA] at h4
        exact ⟨gk - 1, by omega, j + 1, vd', by omega, by simp, by rw [h4]; exact h2.keep hw3⟩
      have SKIP := hide skip
      clear skip
      by_cases q1 : Rm < Wn
      · have hA : A = Rm := by rw [(HT.out).2.2.2.2, if_pos q1]
        by_cases q2 : Rm ≤ 0
        · go_wp2_with fail
          obtain ⟨k', m1, m2⟩ := SKIP.out w2 K2.out (by omega)
          go_roundg k'
          case measure => exact m1
          case rel => exact m2
        · subst hA
          have q2' : 0 < A := by omega
          have q2'' : decide (A ≤ 0) = false := by simpa using q2
          have hrow : ((w2.alloc (.cells #[I R.now, I j, I A] 100)).alloc (.cells #[I R.now, I j, I A] 100)).ownsRow 0 100 3 u3 ((tks j R).doses.length - R.doses.length) (((tks j R).doses.drop R.doses.length).flatMap dsC) := row_frm (HT.out).2.1.out (((K2.out).alloc _).alloc _) (fun _ _ e => e)
          have hnd2 : (tks j R).doses.length ≤ 2000 := (HT.out).2.2.1.nd
          have HROW := hide hrow
          clear hrow
          have h00 := (H.out).1.lt
          have HLT := hide h00
          clear h00
          go_wp2_with (at_builtin; refine wpList_append_row _ rfl _ _ 35 rfl 100 i (.agg #[I 0, I 0, I 0]) 3 24 Tryz.underlying35 hi hz0 hz1 hz2 rfl (by decide) _ _ _ rfl HROW.out ⟨w2.heap.size + 1, 0, none⟩ 1 1 [I R.now, I j, I A] rfl rfl (cell_news _ [I R.now, I j, I A] _ _ (by simp)) (by intro u hu; simp at hu; rcases hu with rfl | rfl | rfl <;> rfl) (by unfold maxLen; omega) (by omega) ?_; intro v' w4 hown hgr hnew; have OUT := hide (And.intro ((HT.out).2.1.outs HLT.out K2.out (d := ⟨R.now, j, A⟩) rfl hgr hnew) hown); clear hown hgr hnew; have bx := (OUT.out).1.2.1; have x0 : w4.cell? ⟨w2.heap.size, 0, none⟩ = some (I R.now) := by { rw [bx.cell]; rfl }; have x1 : w4.cell? ⟨w2.heap.size, 1, none⟩ = some (I j) := by { rw [bx.cell]; rfl }; have x2 : w4.cell? ⟨w2.heap.size, 2, none⟩ = some (I A) := by { rw [bx.cell]; rfl }; have lx := bx.lt; have hd4 := (OUT.out).1.1.head; have c44 : w4.cell? ⟨b, 4, none⟩ = some vd' := by { rw [hd4.cell]; rfl }; have f44 := hd4.frozen 4; have lb4 := hd4.lt; clear bx hd4)
          obtain ⟨ad, cpd, hvd⟩ := row_slice (OUT.out).1.1.doses
          subst hvd
          have hle0 : R.doses.length ≤ (tks j R).doses.length := (tks_pre j R).length_le
          have HLE := hide hle0
          clear hle0
          go_cut [] from 10 to 111 (fun wx => Hid (∃ v5, TickSt w wx b R { tks j R with doses := (tks j R).doses ++ [⟨R.now, j, A⟩] } vl vd v5 vc vo v'))
          case first =>
            go_region_law (refine step_append_row rfl (.tmp 50) (.tmp 52) 35 rfl 100 i (.agg #[I 0, I 0, I 0]) 3 24 Tryz.underlying35 hi hz0 hz1 hz2 rfl (by decide) (.slice ad (tks j R).doses.length cpd) (tks j R).doses.length ((tks j R).doses.flatMap dsC) (by simp [Act.eval]) (by exact row_frm (OUT.out).1.1.doses (show Keep _ _ from ((Frm.refl _ _).alloc _).drew) (fun _ _ e => e)) ⟨w4.heap.size, 0, none⟩ 1 1 [I R.now, I j, I A] (by simp [Act.eval]) rfl (by exact cell_news _ [I R.now, I j, I A] _ _ rfl) (by intro u hu; simp at hu; rcases hu with rfl | rfl | rfl <;> rfl) (by unfold maxLen; omega) (by omega) ?_; intro v5 w5 hown5 hgr5 hnew5; obtain ⟨a5, cp5, hv5⟩ := row_slice hown5; subst hv5; have bb5 := ((show Keep _ _ from ((Frm.refl _ _).alloc _).drew).blk (OUT.out).1.1.head).frm (grown_frm hgr5) (OUT.out).1.1.sep.bd; have c54 : w5.cell? ⟨b, 4, none⟩ = some (.slice ad (tks j R).doses.length cpd) := (by { rw [bb5.cell]; rfl }); have f54 := bb5.frozen 4; have FIVE := hide (And.intro hown5 (And.intro hgr5 hnew5)); clear hown5 hgr5 hnew5 bb5)
            all_goals (go_wp2_with fail; go_meet)
            all_goals exact ⟨_, TickSt.dosed (d := ⟨R.now, j, A⟩) HLT.out HLE.out (OUT.out).1.1 (OUT.out).2 (OUT.out).1.2.2.1 (HT.out).2.1.nd (OUT.out).1.2.2.2.1 (OUT.out).1.2.2.2.2 (((Frm.refl _ _).alloc _).drew) (FIVE.out).2.1 (FIVE.out).2.2 (FIVE.out).1⟩
          case rest =>
            obtain ⟨v5, hst5⟩ := hcut.out
            have hoss : ∀ o ∈ (tks j R).os, o.Ok := (HT.out).2.2.1.os
            have hosn : (tks j R).os.length ≤ 100000000 := (HT.out).2.2.1.no
            have hnowj : (tks j R).now = R.now := (tks_same j R).2.2.1
            have ST5 := hide (And.intro hst5 (And.intro hoss hnowj))
            clear hst5 hoss hcut x0 x1 x2 lx c44 f44 lb4 c3 c5 c32 hnowj hnd2
            clear OUT HROW
            have fin : ∀ (wi : World) (osC : List ROrd), TickSt w wi b R { tks j R with doses := (tks j R).doses ++ [⟨R.now, j, A⟩], os := osC } vl vd v5 vc vo v' → osC = dist R.now j (tks j R).os A →
                ∃ k' : Nat, k' < gk ∧ ∃ (j' : Nat) (vd'' : Value), k' + j' = R.chs.length ∧ I ((j : Int) + 1) = I j' ∧ Hid (TickSt w wi b R (tks j' R) vl vd vd'' vc vo v') := by
              intro wi osC hs he
              obtain ⟨h1, h2, h3, h4, h5⟩ := HT.out
              rw [if_neg (by omega)] at h4
              exact ⟨gk - 1, by omega, j + 1, v5, by omega, by simp, by rw [h4, ← he]; exact hs⟩
            have FIN := hide fin
            clear fin
            go_wp2_with fail
            go_loopg [5, 8, 9] (tks j R).os.length (fun q n i _ wi => ∃ (jj : Nat) (n' : Int), q + jj = (tks j R).os.length ∧ i = I jj ∧ n = I n' ∧ 0 ≤ n' ∧ n' ≤ 1000 ∧ Hid (∃ osC : List ROrd, TickSt w wi b R { tks j R with doses := (tks j R).doses ++ [⟨R.now, j, A⟩], os := osC } vl vd v5 vc vo v' ∧ osC.length = (tks j R).os.length ∧ (∀ o ∈ osC, o.Ok) ∧ dist R.now j (tks j R).os A = osC.take jj ++ dist R.now j (osC.drop jj) n'))
            case atStart => exact ⟨0, A, by omega, rfl, rfl, by omega, by omega, (tks j R).os, (ST5.out).1, rfl, (ST5.out).2.1, by simp⟩
            case round =>
              obtain ⟨jj, n', hq, rfl, rfl, n0, n1, hos⟩ := hrel
              obtain ⟨osC, hs, hlen, hokC, hdist⟩ := hos.out
              have hR := hs.lie
              obtain ⟨ao, cpo, hvo⟩ := row_slice hR.os
              have cO : wr.cell? ⟨b, 6, none⟩ = some vo := by rw [hR.head.cell]; rfl
              have lbi := hR.head.lt
              by_cases hjj : jj < (tks j R).os.length
              · obtain ⟨o, ho⟩ : ∃ o, osC[jj]? = some o := ⟨_, List.getElem?_eq_getElem (by rw [hlen]; exact hjj)⟩
                obtain ⟨g, cap, hv, hcap, hcell, hfz⟩ := row_at hR.os (fun _ => rfl) ho (by decide)
                have e0 := hcell 0 (by decide)
                have e1 := hcell 1 (by decide)
                have e2 := hcell 2 (by decide)
                have e3 := hcell 3 (by decide)
                simp [ordC] at e0 e1 e2 e3
                have hv2 : vo = .slice (some ⟨g, 0, none⟩) (tks j R).os.length cap := by rw [hv]; simp only [hlen]
                have hoo := hokC o (List.mem_of_getElem? ho)
                have hpb := prt_bd (now := R.now) hoo
                have hro := hoo.2.2.2.2
                have hdr : osC.drop jj = o :: osC.drop (jj + 1) := by
                  obtain ⟨lj, vj⟩ := List.getElem?_eq_some_iff.1 ho
                  rw [List.drop_eq_getElem_cons lj, vj]
                rw [hv2] at cO
                have gl := (hR.os.lt g (by rw [hv]; rfl)).2
                by_cases hn' : n' ≤ 0
                · have hx := FIN.out wr osC hs (by rw [hdist, dist_le _ _ _ _ hn', List.take_append_drop])
                  have hnd : decide (0 < n') = false := by simp; omega
                  have HX := hide hx
                  clear hx hR hs hlen hokC hdist hos hcell hfz hv hv2 hcap ho hoo hdr e0 e1 e2 e3 hq hvo
                  go_wp2_with fail
                  obtain ⟨k', m1, m2⟩ := HX.out
                  go_roundg k'
                  case measure => exact m1
                  case rel => exact m2
                · have hn'' : 0 < n' := by omega
                  have hnd : decide (0 < n') = true := by simpa using hn''
                  cases hne : (o.ch != (j : Int)) with
                  | true =>
                    have nx : ∃ k' : Nat, k' < gk ∧ ∃ (jj' : Nat) (n'' : Int), k' + jj' = (tks j R).os.length ∧ I ((jj : Int) + 1) = I jj' ∧ I n' = I n'' ∧ 0 ≤ n'' ∧ n'' ≤ 1000 ∧ Hid (∃ osC : List ROrd, TickSt w wr b R { tks j R with doses := (tks j R).doses ++ [⟨R.now, j, A⟩], os := osC } vl vd v5 vc vo v' ∧ osC.length = (tks j R).os.length ∧ (∀ o ∈ osC, o.Ok) ∧ dist R.now j (tks j R).os A = osC.take jj' ++ dist R.now j (osC.drop jj') n'') := by
                      refine ⟨gk - 1, by omega, jj + 1, n', by omega, by simp, rfl, n0, n1, osC, hs, hlen, hokC, ?_⟩
                      rw [hdist, hdr, take_snoc' ho]
                      have : dist R.now j (o :: osC.drop (jj + 1)) n' = o :: dist R.now j (osC.drop (jj + 1)) n' := by simp only [dist, if_neg hn', hne, if_true]
                      rw [this]; simp
                    have NX := hide nx
                    clear nx hR hs hlen hokC hdist hos hcell hfz hv hv2 hcap ho hoo hdr hq hvo
                    go_wp2_with fail
                    obtain ⟨k', m1, m2⟩ := NX.out
                    go_roundg k'
                    case measure => exact m1
                    case rel => exact m2
                  | false =>
                    have pp := rpart_any b _ vl v5 vc vo o wr hR (by show 0 ≤ (tks j R).now; rw [(ST5.out).2.2]; exact hn0) (by show (tks j R).now ≤ 400; rw [(ST5.out).2.2]; exact hn1) hoo
                    dsimp only at pp
                    rw [(ST5.out).2.2] at pp
                    have nx : ∀ (w1 wz : World) (a : Int), Keep wr w1 → Keep (w1.setCell ⟨g, jj * 4 + 3, none⟩ (I (o.rest - a))) wz → a = (if n' < prt R.now o then n' else prt R.now o) → ∃ k' : Nat, k' < gk ∧ ∃ (jj' : Nat) (n'' : Int), k' + jj' = (tks j R).os.length ∧ I ((jj : Int) + 1) = I jj' ∧ I (n' - a) = I n'' ∧ 0 ≤ n'' ∧ n'' ≤ 1000 ∧ Hid (∃ osC : List ROrd, TickSt w wz b R { tks j R with doses := (tks j R).doses ++ [⟨R.now, j, A⟩], os := osC } vl vd v5 vc vo v' ∧ osC.length = (tks j R).os.length ∧ (∀ o ∈ osC, o.Ok) ∧ dist R.now j (tks j R).os A = osC.take jj' ++ dist R.now j (osC.drop jj') n'') := by
                      intro w1 wz a k1 kz ha
                      have ha2 : 0 ≤ a ∧ a ≤ n' ∧ a ≤ prt R.now o := by rw [ha]; split <;> omega
                      have hjl : jj < osC.length := by rw [hlen]; exact hjj
                      refine ⟨gk - 1, by omega, jj + 1, n' - a, by omega, by simp, rfl, by omega, by omega, osC.set jj { o with rest := o.rest - a }, ?_, by simp [hlen], ?_, ?_⟩
                      · have := ((hs.keep k1).setOrd HLT.out hv ho (o.rest - a)).keep kz
                        exact this
                      · intro x hx
                        rcases List.mem_or_eq_of_mem_set hx with hx | rfl
                        · exact hokC x hx
                        · exact ⟨hoo.1, hoo.2.1, hoo.2.2.1, hoo.2.2.2.1, by show 0 ≤ o.rest - a; omega, by show o.rest - a ≤ 1000; omega⟩
                      · rw [hdist, hdr]
                        have hd1 : dist R.now j (o :: osC.drop (jj + 1)) n' = { o with rest := o.rest - a } :: dist R.now j (osC.drop (jj + 1)) (n' - a) := by
                          simp only [dist, if_neg hn', hne]; rw [ha]; simp
                        rw [hd1, take_snoc' (l := osC.set jj { o with rest := o.rest - a }) (x := { o with rest := o.rest - a }) (by simp [hjl])]
                        rw [List.take_set_of_le (by omega), List.drop_set_of_lt (by omega)]
                        simp
                    have NX := hide nx
                    have PP := hide pp
                    have fz := hfz (jj * 4 + 3)
                    have HRR := hide hR
                    clear nx pp hR hs hlen hokC hdist hos hcell hfz hv hv2 hcap ho hoo hdr hq hvo
                    generalize hP : prt R.now o = P at *
                    clear hP
                    go_wp2_with fail
                    refine (PP.out).mono ?_
                    rintro e w1 ⟨rfl, k1⟩
                    have d3 : w1.cell? ⟨g, jj * 4 + 3, none⟩ = some (I o.rest) := k1.cell e3 (fun e => e)
                    have dO : w1.cell? ⟨b, 6, none⟩ = some (.slice (some ⟨g, 0, none⟩) (tks j R).os.length cap) := k1.cell cO (fun e => e)
                    have df : w1.frozen? ⟨g, jj * 4 + 3, none⟩ = false := k1.frozen gl fz (fun e => e)
                    have K1i := hide k1
                    clear k1 e0 e1 e2 e3 cO fz
                    have wa : IntKind.i64.wrap (o.rest - n') = o.rest - n' := wrap_id _ (by omega) (by omega)
                    have wb : IntKind.i64.wrap (o.rest - P) = o.rest - P := wrap_id _ (by omega) (by omega)
                    by_cases hlt : n' < P
                    · go_wp2_with fail
                      go_region
                      all_goals (go_wp2_with fail)
                      all_goals (obtain ⟨k', m1, m2⟩ := NX.out w1 _ n' K1i.out ((Frm.refl _ _).drew) (by rw [if_pos hlt]))
                      all_goals (rw [Int.sub_self] at m2)
                      all_goals (go_roundg k')
                      all_goals first | exact m1 | exact m2
                    · go_wp2_with fail
                      go_region
                      all_goals (go_wp2_with fail)
                      all_goals (obtain ⟨k', m1, m2⟩ := NX.out w1 _ P K1i.out ((Frm.refl _ _).drew) (by rw [if_neg (by omega)]))
                      all_goals (go_roundg k')
                      all_goals first | exact m1 | exact m2
              · have hje : jj = (tks j R).os.length := by omega
                have hx := FIN.out wr osC hs (by rw [hdist, List.drop_eq_nil_of_le (by omega), List.take_of_length_le (by omega)]; simp [dist])
                rw [hvo] at cO
                have hlo : (osC.length : Int) ≤ (jj : Int) := by omega
                have HX := hide hx
                simp only [hlen] at cO
                clear hx hR hs hlen hokC hdist hos hq hvo hje hlo
                go_wp2_with fail
                obtain ⟨k', m1, m2⟩ := HX.out
                go_roundg k'
                case measure => exact m1
                case rel => exact m2
      · have hA : A = Wn := by rw [(HT.out).2.2.2.2, if_neg q1]
        by_cases q2 : Wn ≤ 0
        · go_wp2_with fail
          obtain ⟨k', m1, m2⟩ := SKIP.out w2 K2.out (by omega)
          go_roundg k'
          case measure => exact m1
          case rel => exact m2
        · subst hA
          have q2' : 0 < A := by omega
          have q2'' : decide (A ≤ 0) = false := by simpa using q2
          have hrow : ((w2.alloc (.cells #[I R.now, I j, I A] 100)).alloc (.cells #[I R.now, I j, I A] 100)).ownsRow 0 100 3 u3 ((tks j R).doses.length - R.doses.length) (((tks j R).doses.drop R.doses.length).flatMap dsC) := row_frm (HT.out).2.1.out (((K2.out).alloc _).alloc _) (fun _ _ e => e)
          have hnd2 : (tks j R).doses.length ≤ 2000 := (HT.out).2.2.1.nd
          have HROW := hide hrow
          clear hrow
          have h00 := (H.out).1.lt
          have HLT := hide h00
          clear h00
          go_wp2_with (at_builtin; refine wpList_append_row _ rfl _ _ 35 rfl 100 i (.agg #[I 0, I 0, I 0]) 3 24 Tryz.underlying35 hi hz0 hz1 hz2 rfl (by decide) _ _ _ rfl HROW.out ⟨w2.heap.size + 1, 0, none⟩ 1 1 [I R.now, I j, I A] rfl rfl (cell_news _ [I R.now, I j, I A] _ _ (by simp)) (by intro u hu; simp at hu; rcases hu with rfl | rfl | rfl <;> rfl) (by unfold maxLen; omega) (by omega) ?_; intro v' w4 hown hgr hnew; have OUT := hide (And.intro ((HT.out).2.1.outs HLT.out K2.out (d := ⟨R.now, j, A⟩) rfl hgr hnew) hown); clear hown hgr hnew; have bx := (OUT.out).1.2.1; have x0 : w4.cell? ⟨w2.heap.size, 0, none⟩ = some (I R.now) := by { rw [bx.cell]; rfl }; have x1 : w4.cell? ⟨w2.heap.size, 1, none⟩ = some (I j) := by { rw [bx.cell]; rfl }; have x2 : w4.cell? ⟨w2.heap.size, 2, none⟩ = some (I A) := by { rw [bx.cell]; rfl }; have lx := bx.lt; have hd4 := (OUT.out).1.1.head; have c44 : w4.cell? ⟨b, 4, none⟩ = some vd' := by { rw [hd4.cell]; rfl }; have f44 := hd4.frozen 4; have lb4 := hd4.lt; clear bx hd4)
          obtain ⟨ad, cpd, hvd⟩ := row_slice (OUT.out).1.1.doses
          subst hvd
          have hle0 : R.doses.length ≤ (tks j R).doses.length := (tks_pre j R).length_le
          have HLE := hide hle0
          clear hle0
          go_cut [] from 10 to 111 (fun wx => Hid (∃ v5, TickSt w wx b R { tks j R with doses := (tks j R).doses ++ [⟨R.now, j, A⟩] } vl vd v5 vc vo v'))
          case first =>
            go_region_law (refine step_append_row rfl (.tmp 50) (.tmp 52) 35 rfl 100 i (.agg #[I 0, I 0, I 0]) 3 24 Tryz.underlying35 hi hz0 hz1 hz2 rfl (by decide) (.slice ad (tks j R).doses.length cpd) (tks j R).doses.length ((tks j R).doses.flatMap dsC) (by simp [Act.eval]) (by exact row_frm (OUT.out).1.1.doses (show Keep _ _ from ((Frm.refl _ _).alloc _).drew) (fun _ _ e => e)) ⟨w4.heap.size, 0, none⟩ 1 1 [I R.now, I j, I A] (by simp [Act.eval]) rfl (by exact cell_news _ [I R.now, I j, I A] _ _ rfl) (by intro u hu; simp at hu; rcases hu with rfl | rfl | rfl <;> rfl) (by unfold maxLen; omega) (by omega) ?_; intro v5 w5 hown5 hgr5 hnew5; obtain ⟨a5, cp5, hv5⟩ := row_slice hown5; subst hv5; have bb5 := ((show Keep _ _ from ((Frm.refl _ _).alloc _).drew).blk (OUT.out).1.1.head).frm (grown_frm hgr5) (OUT.out).1.1.sep.bd; have c54 : w5.cell? ⟨b, 4, none⟩ = some (.slice ad (tks j R).doses.length cpd) := (by { rw [bb5.cell]; rfl }); have f54 := bb5.frozen 4; have FIVE := hide (And.intro hown5 (And.intro hgr5 hnew5)); clear hown5 hgr5 hnew5 bb5)
            all_goals (go_wp2_with fail; go_meet)
            all_goals exact ⟨_, TickSt.dosed (d := ⟨R.now, j, A⟩) HLT.out HLE.out (OUT.out).1.1 (OUT.out).2 (OUT.out).1.2.2.1 (HT.out).2.1.nd (OUT.out).1.2.2.2.1 (OUT.out).1.2.2.2.2 (((Frm.refl _ _).alloc _).drew) (FIVE.out).2.1 (FIVE.out).2.2 (FIVE.out).1⟩
          case rest =>
            obtain ⟨v5, hst5⟩ := hcut.out
            have hoss : ∀ o ∈ (tks j R).os, o.Ok := (HT.out).2.2.1.os
            have hosn : (tks j R).os.length ≤ 100000000 := (HT.out).2.2.1.no
            have hnowj : (tks j R).now = R.now := (tks_same j R).2.2.1
            have ST5 := hide (And.intro hst5 (And.intro hoss hnowj))
            clear hst5 hoss hcut x0 x1 x2 lx c44 f44 lb4 c3 c5 c32 hnowj hnd2
            clear OUT HROW
            have fin : ∀ (wi : World) (osC : List ROrd), TickSt w wi b R { tks j R with doses := (tks j R).doses ++ [⟨R.now, j, A⟩], os := osC } vl vd v5 vc vo v' → osC = dist R.now j (tks j R).os A →
                ∃ k' : Nat, k' < gk ∧ ∃ (j' : Nat) (vd'' : Value), k' + j' = R.chs.length ∧ I ((j : Int) + 1) = I j' ∧ Hid (TickSt w wi b R (tks j' R) vl vd vd'' vc vo v') := by
              intro wi osC hs he
              obtain ⟨h1, h2, h3, h4, h5⟩ := HT.out
              rw [if_neg (by omega)] at h4
              exact ⟨gk - 1, by omega, j + 1, v5, by omega, by simp, by rw [h4, ← he]; exact hs⟩
            have FIN := hide fin
            clear fin
            go_wp2_with fail
            go_loopg [5, 8, 9] (tks j R).os.length (fun q n i _ wi => ∃ (jj : Nat) (n' : Int), q + jj = (tks j R).os.length ∧ i = I jj ∧ n = I n' ∧ 0 ≤ n' ∧ n' ≤ 1000 ∧ Hid (∃ osC : List ROrd, TickSt w wi b R { tks j R with doses := (tks j R).doses ++ [⟨R.now, j, A⟩], os := osC } vl vd v5 vc vo v' ∧ osC.length = (tks j R).os.length ∧ (∀ o ∈ osC, o.Ok) ∧ dist R.now j (tks j R).os A = osC.take jj ++ dist R.now j (osC.drop jj) n'))
            case atStart => exact ⟨0, A, by omega, rfl, rfl, by omega, by omega, (tks j R).os, (ST5.out).1, rfl, (ST5.out).2.1, by simp⟩
            case round =>
              obtain ⟨jj, n', hq, rfl, rfl, n0, n1, hos⟩ := hrel
              obtain ⟨osC, hs, hlen, hokC, hdist⟩ := hos.out
              have hR := hs.lie
              obtain ⟨ao, cpo, hvo⟩ := row_slice hR.os
              have cO : wr.cell? ⟨b, 6, none⟩ = some vo := by rw [hR.head.cell]; rfl
              have lbi := hR.head.lt
              by_cases hjj : jj < (tks j R).os.length
              · obtain ⟨o, ho⟩ : ∃ o, osC[jj]? = some o := ⟨_, List.getElem?_eq_getElem (by rw [hlen]; exact hjj)⟩
                obtain ⟨g, cap, hv, hcap, hcell, hfz⟩ := row_at hR.os (fun _ => rfl) ho (by decide)
                have e0 := hcell 0 (by decide)
                have e1 := hcell 1 (by decide)
                have e2 := hcell 2 (by decide)
                have e3 := hcell 3 (by decide)
                simp [ordC] at e0 e1 e2 e3
                have hv2 : vo = .slice (some ⟨g, 0, none⟩) (tks j R).os.length cap := by rw [hv]; simp only [hlen]
                have hoo := hokC o (List.mem_of_getElem? ho)
                have hpb := prt_bd (now := R.now) hoo
                have hro := hoo.2.2.2.2
                have hdr : osC.drop jj = o :: osC.drop (jj + 1) := by
                  obtain ⟨lj, vj⟩ := List.getElem?_eq_some_iff.1 ho
                  rw [List.drop_eq_getElem_cons lj, vj]
                rw [hv2] at cO
                have gl := (hR.os.lt g (by rw [hv]; rfl)).2
                by_cases hn' : n' ≤ 0
                · have hx := FIN.out wr osC hs (by rw [hdist, dist_le _ _ _ _ hn', List.take_append_drop])
                  have hnd : decide (0 < n') = false := by simp; omega
                  have HX := hide hx
                  clear hx hR hs hlen hokC hdist hos hcell hfz hv hv2 hcap ho hoo hdr e0 e1 e2 e3 hq hvo
                  go_wp2_with fail
                  obtain ⟨k', m1, m2⟩ := HX.out
                  go_roundg k'
                  case measure => exact m1
                  case rel => exact m2
                · have hn'' : 0 < n' := by omega
                  have hnd : decide (0 < n') = true := by simpa using hn''
                  cases hne : (o.ch != (j : Int)) with
                  | true =>
                    have nx : ∃ k' : Nat, k' < gk ∧ ∃ (jj' : Nat) (n'' : Int), k' + jj' = (tks j R).os.length ∧ I ((jj : Int) + 1) = I jj' ∧ I n' = I n'' ∧ 0 ≤ n'' ∧ n'' ≤ 1000 ∧ Hid (∃ osC : List ROrd, TickSt w wr b R { tks j R with doses := (tks j R).doses ++ [⟨R.now, j, A⟩], os := osC } vl vd v5 vc vo v' ∧ osC.length = (tks j R).os.length ∧ (∀ o ∈ osC, o.Ok) ∧ dist R.now j (tks j R).os A = osC.take jj' ++ dist R.now j (osC.drop jj') n'') := by
                      refine ⟨gk - 1, by omega, jj + 1, n', by omega, by simp, rfl, n0, n1, osC, hs, hlen, hokC, ?_⟩
                      rw [hdist, hdr, take_snoc' ho]
                      have : dist R.now j (o :: osC.drop (jj + 1)) n' = o :: dist R.now j (osC.drop (jj + 1)) n' := by simp only [dist, if_neg hn', hne, if_true]
                      rw [this]; simp
                    have NX := hide nx
                    clear nx hR hs hlen hokC hdist hos hcell hfz hv hv2 hcap ho hoo hdr hq hvo
                    go_wp2_with fail
                    obtain ⟨k', m1, m2⟩ := NX.out
                    go_roundg k'
                    case measure => exact m1
                    case rel => exact m2
                  | false =>
                    have pp := rpart_any b _ vl v5 vc vo o wr hR (by show 0 ≤ (tks j R).now; rw [(ST5.out).2.2]; exact hn0) (by show (tks j R).now ≤ 400; rw [(ST5.out).2.2]; exact hn1) hoo
                    dsimp only at pp
                    rw [(ST5.out).2.2] at pp
                    have nx : ∀ (w1 wz : World) (a : Int), Keep wr w1 → Keep (w1.setCell ⟨g, jj * 4 + 3, none⟩ (I (o.rest - a))) wz → a = (if n' < prt R.now o then n' else prt R.now o) → ∃ k' : Nat, k' < gk ∧ ∃ (jj' : Nat) (n'' : Int), k' + jj' = (tks j R).os.length ∧ I ((jj : Int) + 1) = I jj' ∧ I (n' - a) = I n'' ∧ 0 ≤ n'' ∧ n'' ≤ 1000 ∧ Hid (∃ osC : List ROrd, TickSt w wz b R { tks j R with doses := (tks j R).doses ++ [⟨R.now, j, A⟩], os := osC } vl vd v5 vc vo v' ∧ osC.length = (tks j R).os.length ∧ (∀ o ∈ osC, o.Ok) ∧ dist R.now j (tks j R).os A = osC.take jj' ++ dist R.now j (osC.drop jj') n'') := by
                      intro w1 wz a k1 kz ha
                      have ha2 : 0 ≤ a ∧ a ≤ n' ∧ a ≤ prt R.now o := by rw [ha]; split <;> omega
                      have hjl : jj < osC.length := by rw [hlen]; exact hjj
                      refine ⟨gk - 1, by omega, jj + 1, n' - a, by omega, by simp, rfl, by omega, by omega, osC.set jj { o with rest := o.rest - a }, ?_, by simp [hlen], ?_, ?_⟩
                      · have := ((hs.keep k1).setOrd HLT.out hv ho (o.rest - a)).keep kz
                        exact this
                      · intro x hx
                        rcases List.mem_or_eq_of_mem_set hx with hx | rfl
                        · exact hokC x hx
                        · exact ⟨hoo.1, hoo.2.1, hoo.2.2.1, hoo.2.2.2.1, by show 0 ≤ o.rest - a; omega, by show o.rest - a ≤ 1000; omega⟩
                      · rw [hdist, hdr]
                        have hd1 : dist R.now j (o :: osC.drop (jj + 1)) n' = { o with rest := o.rest - a } :: dist R.now j (osC.drop (jj + 1)) (n' - a) := by
                          simp only [dist, if_neg hn', hne]; rw [ha]; simp
                        rw [hd1, take_snoc' (l := osC.set jj { o with rest := o.rest - a }) (x := { o with rest := o.rest - a }) (by simp [hjl])]
                        rw [List.take_set_of_le (by omega), List.drop_set_of_lt (by omega)]
                        simp
                    have NX := hide nx
                    have PP := hide pp
                    have fz := hfz (jj * 4 + 3)
                    have HRR := hide hR
                    clear nx pp hR hs hlen hokC hdist hos hcell hfz hv hv2 hcap ho hoo hdr hq hvo
                    generalize hP : prt R.now o = P at *
                    clear hP
                    go_wp2_with fail
                    refine (PP.out).mono ?_
                    rintro e w1 ⟨rfl, k1⟩
                    have d3 : w1.cell? ⟨g, jj * 4 + 3, none⟩ = some (I o.rest) := k1.cell e3 (fun e => e)
                    have dO : w1.cell? ⟨b, 6, none⟩ = some (.slice (some ⟨g, 0, none⟩) (tks j R).os.length cap) := k1.cell cO (fun e => e)
                    have df : w1.frozen? ⟨g, jj * 4 + 3, none⟩ = false := k1.frozen gl fz (fun e => e)
                    have K1i := hide k1
                    clear k1 e0 e1 e2 e3 cO fz
                    have wa : IntKind.i64.wrap (o.rest - n') = o.rest - n' := wrap_id _ (by omega) (by omega)
                    have wb : IntKind.i64.wrap (o.rest - P) = o.rest - P := wrap_id _ (by omega) (by omega)
                    by_cases hlt : n' < P
                    · go_wp2_with fail
                      go_region
                      all_goals (go_wp2_with fail)
                      all_goals (obtain ⟨k', m1, m2⟩ := NX.out w1 _ n' K1i.out ((Frm.refl _ _).drew) (by rw [if_pos hlt]))
                      all_goals (rw [Int.sub_self] at m2)
                      all_goals (go_roundg k')
                      all_goals first | exact m1 | exact m2
                    · go_wp2_with fail
                      go_region
                      all_goals (go_wp2_with fail)
                      all_goals (obtain ⟨k', m1, m2⟩ := NX.out w1 _ P K1i.out ((Frm.refl _ _).drew) (by rw [if_neg (by omega)]))
                      all_goals (go_roundg k')
                      all_goals first | exact m1 | exact m2
              · have hje : jj = (tks j R).os.length := by omega
                have hx := FIN.out wr osC hs (by rw [hdist, List.drop_eq_nil_of_le (by omega), List.take_of_length_le (by omega)]; simp [dist])
                rw [hvo] at cO
                have hlo : (osC.length : Int) ≤ (jj : Int) := by omega
                have HX := hide hx
                simp only [hlen] at cO
                clear hx hR hs hlen hokC hdist hos hq hvo hje hlo
                go_wp2_with fail
                obtain ⟨k', m1, m2⟩ := HX.out
                go_roundg k'
                case measure => exact m1
                case rel => exact m2
    · have hje : j = R.chs.length := by omega
      have f3 := hR.head.frozen 3
      have HK := hide (And.intro hst.out hje)
      clear hR hvc hkj hst hje hok hchs hlims hnow hlock hosl
      go_wp2_with fail
      go_ret
      obtain ⟨hs, rfl⟩ := HK.out
      exact ⟨vd', u3, rfl, hs.setNow (H.out).1.lt (R.now + 1)⟩

end Go.Proofs.YtpilmkipbbengaaGreatDoor
