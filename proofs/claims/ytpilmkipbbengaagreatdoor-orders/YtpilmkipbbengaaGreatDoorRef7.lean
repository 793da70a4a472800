/- The document's pump: Basal. -/
import Derived.Test.YtpilmkipbbengaaGreatDoorRef6
namespace Go.Proofs.YtpilmkipbbengaaGreatDoor
open Go.RowKit

theorem RefAt.setCh {w : World} {b : Nat} {R : RSt} {vl vd vc vo : Value} (h : RefAt w b R vl vd vc vo) {g cap k i : Nat} (hv : vc = .slice (some ⟨g, 0, none⟩) R.chs.length cap) {c c' : RCh} (hc : R.chs[k]? = some c) (hi : i < 4) {u : Value} (hf : chC c' = (chC c).set i u) :
    RefAt (w.setCell ⟨g, k * 4 + i, none⟩ u) b { R with chs := R.chs.set k c' } vl vd vc vo := by
  have hs := h.sep
  have hgo : vc.ownBlock = some g := by rw [hv]; rfl
  have kb : ∀ (v : Value) (T : TypeId) (s n : Nat) (xs : List Value), w.ownsRow 0 T s v n xs → Dis v vc → (w.setCell ⟨g, k * 4 + i, none⟩ u).ownsRow 0 T s v n xs := by
    intro v T s n xs hr hd
    exact row_of_block hr fun g' hg' => Below.heap_setCell _ _ _ _ fun e => hd g' hg' (by rw [hgo, e])
  have hbg : b ≠ g := fun e => hs.bc (by rw [hgo, e])
  refine ⟨by have := h.head.other (p := ⟨g, k * 4 + i, none⟩) hbg u; simpa using this, kb vl _ _ _ _ h.lims hs.lc, kb vd _ _ _ _ h.doses hs.dc, ?_, kb vo _ _ _ _ h.os hs.co.symm, hs⟩
  have := h.chs
  rw [hv] at this ⊢
  have h2 := row_set this (fun _ => rfl) hc hi hf
  simpa using h2

theorem RefAt.drew {w : World} {b : Nat} {R : RSt} {vl vd vc vo : Value} (h : RefAt w b R vl vd vc vo) : RefAt w.drew b R vl vd vc vo := h.keep ((Frm.refl _ _).drew)

set_option maxRecDepth 100000 in
set_option maxHeartbeats 1600000 in
theorem rBasal_no (b : Nat) (R : RSt) (vl vd vc vo : Value) (k rate ticks : Int) (w : World) (h : RefAt w b R vl vd vc vo) (hb : basalBad R k rate ticks = true) :
    Calls Tryz.prog 81 #[.pointer (some ⟨b, 0, none⟩), I k, I rate, I ticks] w fun e w' => e = .returned (I 1) ∧ w' = w := by
  have ci := ris_any b R vl vd vc vo k w h
  change Calls Tryz.prog 110 _ w fun e w' => e = .returned (.bool (isCh R k)) ∧ w' = w at ci
  have CI := hide ci
  clear ci h
  have hcase : isCh R k = false ∨ (isCh R k = true ∧ rate < 0) ∨ (isCh R k = true ∧ decide (rate < 0) = false ∧ 1000 < rate) ∨ (isCh R k = true ∧ decide (rate < 0) = false ∧ decide (1000 < rate) = false ∧ ticks < 0) ∨ (isCh R k = true ∧ decide (rate < 0) = false ∧ decide (1000 < rate) = false ∧ decide (ticks < 0) = false ∧ 400 < ticks) := by
    unfold basalBad at hb
    cases h1 : isCh R k with
    | false => exact Or.inl rfl
    | true =>
      rw [h1] at hb
      simp at hb
      simp
      omega
  clear hb
  rcases hcase with h1 | ⟨h1, h2⟩ | ⟨h1, h2, h3⟩ | ⟨h1, h2, h3, h4⟩ | ⟨h1, h2, h3, h4, h5⟩
  all_goals rw [h1] at CI
  all_goals go_enter Tryz.func81, Tryz.ntmps81
  all_goals go_wp2_with fail
  all_goals refine (CI.out).mono ?_
  all_goals rintro e w1 ⟨rfl, hw⟩
  all_goals subst hw
  all_goals go_wp2_with fail
  all_goals go_ret
  all_goals exact ⟨rfl, rfl⟩

set_option maxRecDepth 100000 in
set_option maxHeartbeats 1600000 in
theorem rBasal_yes (b : Nat) (R : RSt) (vl vd vc vo : Value) (k rate ticks : Int) (w : World) (h : RefAt w b R vl vd vc vo) (ok : R.Ok) (hb : basalBad R k rate ticks = false) :
    Calls Tryz.prog 81 #[.pointer (some ⟨b, 0, none⟩), I k, I rate, I ticks] w fun e w' => e = .returned (I 0) ∧ RefAt w' b (rbasal R k.toNat rate ticks) vl vd vc vo ∧ Frm (RefF b vl vd vc vo) w w' := by
  have ci := ris_any b R vl vd vc vo k w h
  change Calls Tryz.prog 110 _ w fun e w' => e = .returned (.bool (isCh R k)) ∧ w' = w at ci
  simp only [basalBad, Bool.or_eq_false_iff, Bool.not_eq_false'] at hb
  obtain ⟨⟨⟨⟨h1, h2⟩, h3⟩, h4⟩, h5⟩ := hb
  have hkb := isCh_true h1
  rw [h1] at ci
  obtain ⟨kk, rfl⟩ := Int.eq_ofNat_of_zero_le hkb.1
  rw [Int.toNat_natCast]
  have hkl : kk < R.chs.length := by omega
  obtain ⟨c, hc⟩ : ∃ c, R.chs[kk]? = some c := ⟨_, List.getElem?_eq_getElem hkl⟩
  obtain ⟨g, cap, hv, hcap, hcell, hfz⟩ := row_at h.chs (fun _ => rfl) hc (by decide)
  have d0 := hcell 0 (by decide)
  have d1 := hcell 1 (by decide)
  simp [chC] at d0 d1
  have c5 : w.cell? ⟨b, 5, none⟩ = some vc := by rw [h.head.cell]; rfl
  rw [hv] at c5
  have c3 : w.cell? ⟨b, 3, none⟩ = some (I R.now) := by rw [h.head.cell]; rfl
  have f0 := hfz (kk * 4)
  have f1 := hfz (kk * 4 + 1)
  have lb := h.head.lt
  have hbg : b ≠ g := fun e => h.sep.bc (by rw [hv, e]; rfl)
  have n0 := ok.now0
  have n1 := ok.now1
  have g2 : 0 ≤ rate := by simpa using h2
  have g3 : rate ≤ 1000 := by simpa using h3
  have g4 : 0 ≤ ticks := by simpa using h4
  have g5 : ticks ≤ 400 := by simpa using h5
  have hgo : vc.ownBlock = some g := by rw [hv]; rfl
  have CI := hide ci
  have H := hide (And.intro h (And.intro hv (And.intro hc hgo)))
  have hnc := ok.nc1
  have wa : IntKind.i64.wrap (R.now + ticks) = R.now + ticks := wrap_id _ (by omega) (by omega)
  clear ci h ok hcell hv hfz hcap hc hgo
  by_cases ht : 0 < ticks
  · go_enter Tryz.func81, Tryz.ntmps81
    go_wp2_with fail
    refine (CI.out).mono ?_
    rintro e w1 ⟨rfl, hw⟩
    subst hw
    go_wp2_with fail
    go_region
    go_wp2_with fail
    go_ret
    obtain ⟨h, hv, hc, hgo⟩ := H.out
    refine ⟨rfl, ?_, ?_⟩
    · have s1 := h.setCh hv hc (i := 0) (by decide) (c' := { c with rate := rate }) (u := I rate) rfl
      have s2 := s1.setCh (k := kk) (by simpa using hv) (c := { c with rate := rate }) (by simp [hkl]) (i := 1) (by decide) (c' := { c with rate := rate, til := -1 }) (u := I (-1)) rfl
      have s3 := s2.setCh (k := kk) (by simpa using hv) (c := { c with rate := rate, til := -1 }) (by simp [hkl]) (i := 1) (by decide) (c' := { c with rate := rate, til := R.now + ticks }) (u := I (R.now + ticks)) rfl
      have := s3.drew
      simpa [rbasal, hc, ht] using this
    · have hF : RefF b vl vd vc vo g := Or.inr (Or.inr (Or.inr (Or.inl hgo)))
      exact ((((Frm.refl _ _).setCell hF _).setCell hF _).setCell hF _).drew
  · go_enter Tryz.func81, Tryz.ntmps81
    go_wp2_with fail
    refine (CI.out).mono ?_
    rintro e w1 ⟨rfl, hw⟩
    subst hw
    go_wp2_with fail
    go_ret
    obtain ⟨h, hv, hc, hgo⟩ := H.out
    refine ⟨rfl, ?_, ?_⟩
    · have s1 := h.setCh hv hc (i := 0) (by decide) (c' := { c with rate := rate }) (u := I rate) rfl
      have s2 := s1.setCh (k := kk) (by simpa using hv) (c := { c with rate := rate }) (by simp [hkl]) (i := 1) (by decide) (c' := { c with rate := rate, til := -1 }) (u := I (-1)) rfl
      have ht' : ¬ 0 < ticks := by omega
      simpa [rbasal, hc, ht'] using s2
    · have hF : RefF b vl vd vc vo g := Or.inr (Or.inr (Or.inr (Or.inl hgo)))
      exact ((Frm.refl _ _).setCell hF _).setCell hF _

end Go.Proofs.YtpilmkipbbengaaGreatDoor
