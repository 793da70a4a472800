/- The document's pump: is, part, wants. -/
import Derived.Test.YtpilmkipbbengaaGreatDoorRef
namespace Go.Proofs.YtpilmkipbbengaaGreatDoor
open Go.RowKit

set_option maxRecDepth 100000 in
set_option maxHeartbeats 800000 in
theorem ris_any (b : Nat) (R : RSt) (vl vd vc vo : Value) (k : Int) (w : World) (h : RefAt w b R vl vd vc vo) :
    Calls Tryz.prog 110 #[.pointer (some ⟨b, 0, none⟩), I k] w fun e w' => e = .returned (.bool (decide (0 ≤ k) && decide (k < R.chs.length))) ∧ w' = w := by
  obtain ⟨a, cp, hv⟩ := row_slice h.chs
  have c5 : w.cell? ⟨b, 5, none⟩ = some vc := by rw [h.head.cell]; rfl
  rw [hv] at c5
  clear h hv
  by_cases h0 : 0 ≤ k
  · have e : (decide (0 ≤ k) && decide (k < (R.chs.length : Int))) = decide (k < (R.chs.length : Int)) := by simp [h0]
    rw [e]; clear e
    go_enter Tryz.func110, Tryz.ntmps110
    go_wp2
    go_ret
    exact ⟨rfl, rfl⟩
  · have e : (decide (0 ≤ k) && decide (k < (R.chs.length : Int))) = false := by simp [h0]
    rw [e]; clear e
    go_enter Tryz.func110, Tryz.ntmps110
    go_wp2
    go_ret
    exact ⟨rfl, rfl⟩

set_option maxRecDepth 100000 in
set_option maxHeartbeats 800000 in
theorem rpart_any (b : Nat) (R : RSt) (vl vd vc vo : Value) (o : ROrd) (w : World) (h : RefAt w b R vl vd vc vo) (_n0 : 0 ≤ R.now) (_n1 : R.now ≤ 400) (ok : o.Ok) :
    Calls Tryz.prog 131 #[.pointer (some ⟨b, 0, none⟩), .agg #[I o.ch, I o.start, I o.stop, I o.rest]] w fun e w' => e = .returned (I (prt R.now o)) ∧ Keep w w' := by
  obtain ⟨h1, h2, h3, h4, h5, h6⟩ := ok
  have c3 : w.cell? ⟨b, 3, none⟩ = some (I R.now) := by rw [h.head.cell]; rfl
  have lb := h.head.lt
  clear h
  by_cases g1 : R.now < o.start
  · have e : prt R.now o = 0 := by rw [prt, if_pos (Or.inl g1)]
    rw [e]; clear e
    go_enter Tryz.func131, Tryz.ntmps131
    go_wp2
    go_quiet (fail)
    go_wp2
    go_ret
    exact ⟨rfl, ((Frm.refl _ _).alloc _).drewN _⟩
  · by_cases g2 : o.stop ≤ R.now
    · have e : prt R.now o = 0 := by rw [prt, if_pos (Or.inr g2)]
      rw [e]; clear e
      have g1' : decide (R.now < o.start) = false := by simpa using g1
      go_enter Tryz.func131, Tryz.ntmps131
      go_wp2
      go_quiet (fail)
      go_wp2
      go_ret
      exact ⟨rfl, ((Frm.refl _ _).alloc _).drewN _⟩
    · have e : prt R.now o = (o.rest + (o.stop - R.now) - 1) / (o.stop - R.now) := by rw [prt, if_neg (by omega)]
      rw [e]; clear e
      have g1' : decide (R.now < o.start) = false := by simpa using g1
      have g2' : decide (o.stop ≤ R.now) = false := by simpa using g2
      have g3 : R.now < o.stop := by omega
      go_enter Tryz.func131, Tryz.ntmps131
      go_wp2
      go_quiet (fail)
      go_wp2
      go_quiet (fail)
      go_wp2
      go_ret
      exact ⟨rfl, ((Frm.refl _ _).alloc _).drewN _⟩

set_option maxRecDepth 100000 in
set_option maxHeartbeats 1600000 in
theorem rwants_any (b : Nat) (R : RSt) (vl vd vc vo : Value) (k : Int) (c : RCh) (w : World) (h : RefAt w b R vl vd vc vo) (ok : R.Ok) (k0 : 0 ≤ k) (hc : R.chs[k.toNat]? = some c) :
    Calls Tryz.prog 130 #[.pointer (some ⟨b, 0, none⟩), I k] w fun e w' => e = .returned (I (wnt R.now k c R.os)) ∧ Keep w w' := by
  obtain ⟨kk, rfl⟩ := Int.eq_ofNat_of_zero_le k0
  rw [Int.toNat_natCast] at hc
  have hkl : kk < R.chs.length := (List.getElem?_eq_some_iff.1 hc).1
  obtain ⟨g, cap, hv, hcap, hcell, -⟩ := row_at h.chs (fun _ => rfl) hc (by decide)
  have d0 := hcell 0 (by decide)
  have d1 := hcell 1 (by decide)
  have d2 := hcell 2 (by decide)
  have d3 := hcell 3 (by decide)
  simp [chC] at d0 d1 d2 d3
  have c5 : w.cell? ⟨b, 5, none⟩ = some vc := by rw [h.head.cell]; rfl
  rw [hv] at c5
  have c3 : w.cell? ⟨b, 3, none⟩ = some (I R.now) := by rw [h.head.cell]; rfl
  have lb := h.head.lt
  have lg := (h.chs.lt g (by rw [hv]; rfl)).2
  have hcb := ok.chs c (List.mem_of_getElem? hc)
  have hno := ok.no
  have n0 := ok.now0
  have n1 := ok.now1
  have hkb := ok.nc1
  have H := hide (And.intro h ok)
  clear hcell hv hcap h ok hc
  cases hr : c.rests with
  | true =>
    rw [hr] at d2
    have e : wnt R.now kk c R.os = 0 := by simp [wnt, hr]
    rw [e]; clear e
    go_enter Tryz.func130, Tryz.ntmps130
    go_wp2_with fail
    go_ret
    exact ⟨rfl, (Frm.refl _ _).alloc _⟩
  | false =>
    rw [hr] at d2
    have e : wnt R.now kk c R.os = wbase R.now c + wsum R.now kk R.os := by simp [wnt, hr]
    rw [e]; clear e
    have pp := fun (o : ROrd) (W : World) (kW : Keep w W) (ho : o ∈ R.os) => rpart_any b R vl vd vc vo o W ((H.out).1.keep kW) n0 n1 ((H.out).2.os o ho)
    have PP := hide pp
    clear pp
    have hwb : 0 ≤ wbase R.now c ∧ wbase R.now c ≤ 1000 := by unfold wbase; split <;> omega
    generalize hB : wbase R.now c = B at *
    have hcase : (c.til < 0 ∧ B = c.rate) ∨ ((decide (c.til < 0) = false ∧ R.now < c.til) ∧ B = c.rate) ∨ ((decide (c.til < 0) = false ∧ decide (R.now < c.til) = false) ∧ B = 0) := by
      rw [← hB]; unfold wbase
      by_cases q1 : c.til < 0
      · exact Or.inl ⟨q1, by simp [q1]⟩
      · by_cases q2 : R.now < c.til
        · exact Or.inr (Or.inl ⟨⟨by simpa using q1, q2⟩, by simp [q2]⟩)
        · exact Or.inr (Or.inr ⟨⟨by simpa using q1, by simpa using q2⟩, by simp [q1, q2]⟩)
    clear hB
    rcases hcase with ⟨q1, qB⟩ | ⟨⟨q1, q2⟩, qB⟩ | ⟨⟨q1, q2⟩, qB⟩
    all_goals (have QB := hide qB)
    all_goals clear qB
    all_goals go_enter Tryz.func130, Tryz.ntmps130
    all_goals go_wp2_with fail
    all_goals go_quiet (fail)
    all_goals go_wp2_with fail
    all_goals
      (go_loopg [6, 7] R.os.length (fun q n i wr => ∃ j : Nat, q + j = R.os.length ∧ i = I j ∧ n = I (B + wsum R.now kk (R.os.take j)) ∧ Hid (Keep w wr))
       case atStart => exact ⟨0, by omega, rfl, by simp [wsum, QB.out], ((Frm.refl _ _).alloc _).drewN _⟩
       case round =>
        obtain ⟨j, hkj, rfl, rfl, hk⟩ := hrel
        have hR := (H.out).1.keep hk.out
        obtain ⟨a, cp, hvo⟩ := row_slice hR.os
        have cO : wr.cell? ⟨b, 6, none⟩ = some vo := by rw [hR.head.cell]; rfl
        have hwb2 := wsum_bd (now := R.now) (k := kk) (os := R.os.take j) fun x hx => (H.out).2.os x (List.mem_of_mem_take hx)
        have htl : ((R.os.take j).length : Int) ≤ 100000000 := by have := List.length_take_le j R.os; have := List.length_take_le' j R.os; omega
        by_cases hj : j < R.os.length
        · obtain ⟨o, ho⟩ : ∃ o, R.os[j]? = some o := ⟨_, List.getElem?_eq_getElem hj⟩
          obtain ⟨g2, cap2, hv2, hcap2, hcell2, -⟩ := row_at hR.os (fun _ => rfl) ho (by decide)
          have e0 := hcell2 0 (by decide)
          have e1 := hcell2 1 (by decide)
          have e2 := hcell2 2 (by decide)
          have e3 := hcell2 3 (by decide)
          simp [ordC] at e0 e1 e2 e3
          rw [hv2] at cO
          have hom := List.mem_of_getElem? ho
          have hsn : wsum R.now kk (R.os.take (j + 1)) = wsum R.now kk (R.os.take j) + wpart R.now kk o := by rw [take_snoc' ho, wsum_snoc]
          have hpb := wpart_bd (now := R.now) (k := kk) ((H.out).2.os o hom)
          have hp2 := prt_bd (now := R.now) ((H.out).2.os o hom)
          have hp3 := ((H.out).2.os o hom).2.2.2.2.2
          have HSN := hide (And.intro hkj (And.intro hsn (And.intro hk.out hom)))
          clear hR hcell2 hv2 hcap2 hsn hk hkj ho hom hvo
          generalize wsum R.now kk (R.os.take j) = G at *
          have fin : ∀ (x : Int) (w2 : World), Keep w w2 → x = wpart R.now kk o → ∃ k' : Nat, k' < gk ∧ ∃ j' : Nat, k' + j' = R.os.length ∧ I ((j : Int) + 1) = I j' ∧ I (B + G + x) = I (B + wsum R.now kk (R.os.take j')) ∧ Hid (Keep w w2) := by
            intro x w2 hw2 hx
            obtain ⟨h1, h2, h3, h4⟩ := HSN.out
            exact ⟨gk - 1, by omega, j + 1, by omega, by simp, by rw [h2, hx, Int.add_assoc], hw2⟩
          have FIN := hide fin
          clear fin
          cases hq : (o.ch == (kk : Int)) with
          | false =>
            go_wp2_with fail
            obtain ⟨k', m1, m2⟩ := FIN.out 0 wr (HSN.out).2.2.1 (by simp [wpart, hq])
            rw [Int.add_zero] at m2
            go_roundg k'
            case measure => exact m1
            case rel => exact m2
          | true =>
            go_wp2_with fail
            refine (PP.out o _ (by exact (HSN.out).2.2.1) (HSN.out).2.2.2).mono ?_
            rintro e w2 ⟨rfl, k2⟩
            go_wp2_with fail
            obtain ⟨k', m1, m2⟩ := FIN.out (prt R.now o) w2 ((HSN.out).2.2.1.trans k2) (by simp [wpart, hq])
            go_roundg k'
            case measure => exact m1
            case rel => exact m2
        · rw [hvo] at cO
          have hje : j = R.os.length := by omega
          have HK := hide (And.intro hk.out hje)
          clear hR hvo hkj hk hje
          go_wp2_with fail
          go_ret
          exact ⟨ret_int (by rw [HK.out.2, List.take_length]), HK.out.1⟩)

end Go.Proofs.YtpilmkipbbengaaGreatDoor
