/- The document's pump: Room, Wait, Basal. -/
import Derived.Test.YtpilmkipbbengaaGreatDoorRef5
namespace Go.Proofs.YtpilmkipbbengaaGreatDoor
open Go.RowKit

set_option maxRecDepth 100000 in
set_option maxHeartbeats 800000 in
theorem rRoom_no (b : Nat) (R : RSt) (vl vd vc vo : Value) (k : Int) (w : World) (h : RefAt w b R vl vd vc vo) (hk : isCh R k = false) :
    Calls Tryz.prog 77 #[.pointer (some ⟨b, 0, none⟩), I k] w fun e w' => e = .returned (.tuple #[I 0, I 1]) ∧ w' = w := by
  have ci := ris_any b R vl vd vc vo k w h
  change Calls Tryz.prog 110 _ w fun e w' => e = .returned (.bool (isCh R k)) ∧ w' = w at ci
  rw [hk] at ci
  have CI := hide ci
  clear ci h
  go_enter Tryz.func77, Tryz.ntmps77
  go_wp2_with fail
  refine (CI.out).mono ?_
  rintro e w1 ⟨rfl, hw⟩
  subst hw
  go_wp2_with fail
  go_ret2
  exact ⟨rfl, rfl⟩

set_option maxRecDepth 100000 in
set_option maxHeartbeats 800000 in
theorem rRoom_yes (b : Nat) (R : RSt) (vl vd vc vo : Value) (k : Int) (w : World) (h : RefAt w b R vl vd vc vo) (ok : R.Ok) (hk : isCh R k = true) :
    Calls Tryz.prog 77 #[.pointer (some ⟨b, 0, none⟩), I k] w fun e w' => e = .returned (.tuple #[I (rroom R.doses R.lims k.toNat R.now), I 0]) ∧ Keep w w' := by
  have ci := ris_any b R vl vd vc vo k w h
  change Calls Tryz.prog 110 _ w fun e w' => e = .returned (.bool (isCh R k)) ∧ w' = w at ci
  rw [hk] at ci
  have hkb := isCh_true hk
  have hnc := ok.nc1
  have cr := rroom_any b R vl vd vc vo k R.now w h ok hkb.1 (by omega) ok.now0 (by have := ok.now1; omega)
  have c3 : w.cell? ⟨b, 3, none⟩ = some (I R.now) := by rw [h.head.cell]; rfl
  have CI := hide ci
  have CR := hide cr
  clear ci h cr
  go_enter Tryz.func77, Tryz.ntmps77
  go_wp2_with fail
  refine (CI.out).mono ?_
  rintro e w1 ⟨rfl, hw⟩
  subst hw
  go_wp2_with fail
  refine (CR.out).mono ?_
  rintro e w2 ⟨rfl, k2⟩
  go_wp2_with fail
  go_ret2
  exact ⟨rfl, k2⟩

set_option maxRecDepth 100000 in
set_option maxHeartbeats 800000 in
theorem rWait_no (b : Nat) (R : RSt) (vl vd vc vo : Value) (k a : Int) (w : World) (h : RefAt w b R vl vd vc vo) (hk : isCh R k = false ∨ a < 0 ∨ 1000 < a) :
    Calls Tryz.prog 79 #[.pointer (some ⟨b, 0, none⟩), I k, I a] w fun e w' => e = .returned (.tuple #[I 0, .bool false, I 1]) ∧ w' = w := by
  have ci := ris_any b R vl vd vc vo k w h
  change Calls Tryz.prog 110 _ w fun e w' => e = .returned (.bool (isCh R k)) ∧ w' = w at ci
  have CI := hide ci
  clear ci h
  cases hi : isCh R k with
  | false =>
    rw [hi] at CI
    go_enter Tryz.func79, Tryz.ntmps79
    go_wp2_with fail
    refine (CI.out).mono ?_
    rintro e w1 ⟨rfl, hw⟩
    subst hw
    go_wp2_with fail
    go_ret3
    exact ⟨rfl, rfl⟩
  | true =>
    rw [hi] at CI hk
    by_cases ha : a < 0
    · go_enter Tryz.func79, Tryz.ntmps79
      go_wp2_with fail
      refine (CI.out).mono ?_
      rintro e w1 ⟨rfl, hw⟩
      subst hw
      go_wp2_with fail
      go_ret3
      exact ⟨rfl, rfl⟩
    · have ha' : decide (a < 0) = false := by simpa using ha
      have hb : 1000 < a := by rcases hk with h | h | h; cases h; omega; exact h
      go_enter Tryz.func79, Tryz.ntmps79
      go_wp2_with fail
      refine (CI.out).mono ?_
      rintro e w1 ⟨rfl, hw⟩
      subst hw
      go_wp2_with fail
      go_ret3
      exact ⟨rfl, rfl⟩

set_option maxRecDepth 100000 in
set_option maxHeartbeats 1600000 in
theorem rWait_yes (b : Nat) (R : RSt) (vl vd vc vo : Value) (k a : Int) (w : World) (h : RefAt w b R vl vd vc vo) (ok : R.Ok) (hk : isCh R k = true) (a0 : 0 ≤ a) (a1 : a ≤ 1000) :
    Calls Tryz.prog 79 #[.pointer (some ⟨b, 0, none⟩), I k, I a] w fun e w' => WaitEnd w R k.toNat a e w' := by
  have ci := ris_any b R vl vd vc vo k w h
  change Calls Tryz.prog 110 _ w fun e w' => e = .returned (.bool (isCh R k)) ∧ w' = w at ci
  rw [hk] at ci
  have hkb := isCh_true hk
  have hnc := ok.nc1
  have n0 := ok.now0
  have n1 := ok.now1
  have CI := hide ci
  have H := hide (And.intro h ok)
  clear ci h ok
  go_enter Tryz.func79, Tryz.ntmps79
  go_wp2_with fail
  refine (CI.out).mono ?_
  rintro e w1 ⟨rfl, hw⟩
  subst hw
  go_wp2_with fail
  go_loopg [10, 11] 101 (fun q i _ wr => ∃ (j : Nat), q + j = 101 ∧ i = I j ∧ Hid (Keep w1 wr ∧ ∀ m : Nat, m < j → rroom R.doses R.lims k.toNat (R.now + m) < a))
  case atStart => exact ⟨0, by omega, rfl, Frm.refl _ _, fun m hm => by omega⟩
  case round =>
    obtain ⟨j, hq, rfl, hkp⟩ := hrel
    have hR := (H.out).1.keep hkp.out.1
    have c3 : wr.cell? ⟨b, 3, none⟩ = some (I R.now) := by rw [hR.head.cell]; rfl
    by_cases hj : j ≤ 100
    · have cr := rroom_any b R vl vd vc vo k (R.now + j) wr hR (H.out).2 hkb.1 (by omega) (by omega) (by omega)
      have CR := hide cr
      generalize hG : rroom R.doses R.lims k.toNat (R.now + j) = G at *
      have HG := hide (And.intro hG (And.intro hq hkp.out))
      clear cr hR hG hq hkp
      by_cases hg : a ≤ G
      · go_wp2_with fail
        refine (CR.out).mono ?_
        rintro e w2 ⟨rfl, k2⟩
        go_wp2_with fail
        go_ret3
        exact ⟨some j, rfl, ⟨hj, by rw [(HG.out).1]; exact hg, (HG.out).2.2.2⟩, (HG.out).2.2.1.trans k2⟩
      · go_wp2_with fail
        refine (CR.out).mono ?_
        rintro e w2 ⟨rfl, k2⟩
        go_wp2_with fail
        go_roundg (gk - 1)
        case measure => have := (HG.out).2.1; omega
        case rel => exact ⟨j + 1, by have := (HG.out).2.1; omega, by simp, (HG.out).2.2.1.trans k2, fun m hm => by
            by_cases e : m = j
            · subst e; rw [(HG.out).1]; omega
            · exact (HG.out).2.2.2 m (by omega)⟩
    · have HG := hide (And.intro hq hkp.out)
      have hj' : 100 < j := by omega
      clear hR hq hkp
      go_wp2_with fail
      go_ret3
      exact ⟨none, rfl, fun m hm => (HG.out).2.2 m (by have := (HG.out).1; omega), (HG.out).2.1⟩

end Go.Proofs.YtpilmkipbbengaaGreatDoor
