/- Order, Rest, Pause, Resume: the program's. -/
import Derived.Test.YtpilmkipbbengaaGreatDoorOtake2
import Derived.Test.YtpilmkipbbengaaGreatDoorObas2
import Derived.Test.YtpilmkipbbengaaGreatDoorDnew
namespace Go.Proofs.YtpilmkipbbengaaGreatDoor
open Go.RowKit

/-- what take does -/
def TakeSpec : Prop := ∀ (b : Nat) (D : GSt) (vc vw : Value) (ods : List OrdD) (R : RSt) (k : Nat) (a d t : Int) (w : World), PAt w b D vc vw ods → ORel D ods R → R.Ok → R.Full → k < D.chs.length → 1 ≤ a → a ≤ 1000 → 0 ≤ d → d ≤ 400 → 1 ≤ t → t ≤ 400 →
    Calls Tryz.prog 67 #[ptr b 0, I k, I a, I d, I t] w fun e w' => e = .returned (I ((ods.length : Int) + 1)) ∧ Goes w b D vc vw ods { R with os := R.os ++ [⟨k, R.now + d, R.now + d + t, a⟩] } w'

set_option maxRecDepth 100000 in
set_option maxHeartbeats 800000 in
theorem full_any (b : Nat) (nv : Int) (w : World) (c7 : w.cell? ⟨b, 7, none⟩ = some (I nv)) : Calls Tryz.prog 66 #[ptr b 0] w fun e w' => e = .returned (.bool (decide (8 ≤ nv))) ∧ w' = w := by
  go_enter Tryz.func66, Tryz.ntmps66
  go_wp2
  go_ret
  exact ⟨rfl, rfl⟩

theorem nv_nov {w : World} {b : Nat} {D : GSt} {vc vw : Value} {ods : List OrdD} {R : RSt} (h : PAt w b D vc vw ods) (rel : ORel D ods R) : D.nv = (nov R.now R.os : Int) := by
  rw [h.o.cnt, fins_nov ods rel.trn, ← rel.os]

set_option maxRecDepth 100000 in
set_option maxHeartbeats 1600000 in
theorem oOrder_no (b : Nat) (D : GSt) (vc vw : Value) (ods : List OrdD) (R : RSt) (k a d t : Int) (w : World) (h : PAt w b D vc vw ods) (rel : ORel D ods R) (ok : R.Ok) (hb : orderBad R k a d t = true) :
    Calls Tryz.prog 34 #[ptr b 0, I k, I a, I d, I t] w fun e w' => e = .returned (.tuple #[I 0, I 1]) ∧ w' = w := by
  have HC := hide (ohasCh b D vc vw ods R k w h rel ok)
  have W1 := hide (within_any a 1 1000 w)
  have W2 := hide (within_any d 0 400 w)
  have W3 := hide (within_any t 1 400 w)
  clear h rel ok
  cases hh : isCh R k with
  | false =>
    rw [hh] at HC
    clear hb
    go_enter Tryz.func34, Tryz.ntmps34
    go_wp2_with (go_at_call 29; refine (HC.out).mono ?_; rintro e w' ⟨rfl, rfl⟩)
    go_ret2
    exact ⟨rfl, rfl⟩
  | true =>
    rw [hh] at HC
    by_cases q1 : a < 1 ∨ 1000 < a
    · rw [within_no q1] at W1
      clear hb q1
      go_enter Tryz.func34, Tryz.ntmps34
      go_wp2_with (first | (go_at_call 29; refine (HC.out).mono ?_; rintro e w' ⟨rfl, hw⟩; subst hw) | (go_at_call 60; refine (W1.out).mono ?_; rintro e w' ⟨rfl, hw⟩; subst hw))
      go_ret2
      exact ⟨rfl, rfl⟩
    · rw [within_yes (by omega) (by omega)] at W1
      by_cases q2 : d < 0 ∨ 400 < d
      · rw [within_no q2] at W2
        clear hb q1 q2
        go_enter Tryz.func34, Tryz.ntmps34
        go_wp2_with (go_at_call 29; refine (HC.out).mono ?_; rintro e w' ⟨rfl, hw⟩; subst hw)
        refine (W1.out).mono ?_
        rintro e w1 ⟨rfl, hw⟩
        subst hw
        go_wp2_with fail
        refine (W2.out).mono ?_
        rintro e w2 ⟨rfl, hw⟩
        subst hw
        go_wp2_with fail
        go_ret2
        exact ⟨rfl, rfl⟩
      · rw [within_yes (by omega) (by omega)] at W2
        have q3 : t < 1 ∨ 400 < t := by
          simp [orderBad, hh] at hb
          omega
        rw [within_no q3] at W3
        clear hb q1 q2 q3
        go_enter Tryz.func34, Tryz.ntmps34
        go_wp2_with (go_at_call 29; refine (HC.out).mono ?_; rintro e w' ⟨rfl, hw⟩; subst hw)
        refine (W1.out).mono ?_
        rintro e w1 ⟨rfl, hw⟩
        subst hw
        go_wp2_with fail
        refine (W2.out).mono ?_
        rintro e w2 ⟨rfl, hw⟩
        subst hw
        go_wp2_with fail
        refine (W3.out).mono ?_
        rintro e w3 ⟨rfl, hw⟩
        subst hw
        go_wp2_with fail
        go_ret2
        exact ⟨rfl, rfl⟩

theorem order_good {R : RSt} {k a d t : Int} (hb : orderBad R k a d t = false) : isCh R k = true ∧ 1 ≤ a ∧ a ≤ 1000 ∧ 0 ≤ d ∧ d ≤ 400 ∧ 1 ≤ t ∧ t ≤ 400 := by
  obtain ⟨h1, h2, h3, h4, h5, h6, h7⟩ := orderGood hb
  exact ⟨h1, by have := h2; simp at this; omega, by simpa using h3, by simpa using h4, by simpa using h5, by have := h6; simp at this; omega, by simpa using h7⟩

set_option maxRecDepth 100000 in
set_option maxHeartbeats 1600000 in
theorem oOrder_on (TS : TakeSpec) (b : Nat) (D : GSt) (vc vw : Value) (ods : List OrdD) (R : RSt) (k a d t : Int) (w : World) (h : PAt w b D vc vw ods) (rel : ORel D ods R) (ok : R.Ok) (full : R.Full) (hb : orderBad R k a d t = false) :
    Calls Tryz.prog 34 #[ptr b 0, I k, I a, I d, I t] w fun e w' => e = .returned (.tuple #[I (orderN R k a d t), I (orderErr R k a d t)]) ∧ Goes w b D vc vw ods (orderR R k a d t) w' := by
  obtain ⟨hk, a0, a1, d0, d1, t0, t1⟩ := order_good hb
  have HC := hide (ohasCh b D vc vw ods R k w h rel ok)
  rw [hk] at HC
  have W1 := hide (within_any a 1 1000 w)
  have W2 := hide (within_any d 0 400 w)
  have W3 := hide (within_any t 1 400 w)
  rw [within_yes a0 a1] at W1
  rw [within_yes d0 d1] at W2
  rw [within_yes t0 t1] at W3
  obtain ⟨k0, k1⟩ := isCh_true hk
  obtain ⟨k, rfl⟩ := Int.eq_ofNat_of_zero_le k0
  have hkl : k < D.chs.length := by rw [rel.nch]; omega
  obtain ⟨sl, ag⟩ := h.g.ag
  have c7 : w.cell? ⟨b, 7, none⟩ = some (I D.nv) := by rw [ag.head.cell]; rfl
  have hnv := nv_nov h rel
  have hos : ods.length = R.os.length := by rw [rel.os]; simp
  have FU := hide (full_any b D.nv w c7)
  by_cases hm : 8 ≤ nov R.now R.os
  · have e1 : orderErr R k a d t = 2 := by simp [orderErr, hb, hm]
    have e2 : orderN R k a d t = 0 := by simp [orderN, e1]
    have e3 : orderR R k a d t = R := by simp [orderR, e1]
    rw [e1, e2, e3]
    have hd8 : decide (8 ≤ D.nv) = true := decide_eq_true (by rw [hnv]; omega)
    rw [hd8] at FU
    have H := hide (And.intro h rel)
    clear h rel ok full hb ag c7 hnv e1 e2 e3 hm hd8 hos
    go_enter Tryz.func34, Tryz.ntmps34
    go_wp2_with (go_at_call 29; refine (HC.out).mono ?_; rintro e w' ⟨rfl, hw⟩; have hw' := hw.symm; subst hw')
    refine (W1.out).mono ?_
    rintro e w1 ⟨rfl, hw⟩
    have hw' := hw.symm
    subst hw'
    go_wp2_with fail
    refine (W2.out).mono ?_
    rintro e w2 ⟨rfl, hw⟩
    have hw' := hw.symm
    subst hw'
    go_wp2_with fail
    refine (W3.out).mono ?_
    rintro e w3 ⟨rfl, hw⟩
    have hw' := hw.symm
    subst hw'
    go_wp2_with fail
    refine (FU.out).mono ?_
    rintro e w4 ⟨rfl, hw⟩
    have hw' := hw.symm
    subst hw'
    go_wp2_with fail
    go_ret2
    exact ⟨rfl, D, ods, (H.out).1, (H.out).2, fun x hx => Or.inl hx, Frm.refl _ _, rfl⟩
  · have e1 : orderErr R k a d t = 0 := by simp [orderErr, hb]; omega
    have e2 : orderN R k a d t = (ods.length : Int) + 1 := by simp [orderN, e1, hos]
    have e3 : orderR R k a d t = { R with os := R.os ++ [⟨k, R.now + d, R.now + d + t, a⟩] } := by simp [orderR, e1]
    rw [e1, e2, e3]
    have hd8 : decide (8 ≤ D.nv) = false := decide_eq_false (by rw [hnv]; omega)
    rw [hd8] at FU
    have TK := hide (TS b D vc vw ods R k a d t w h rel ok full hkl a0 a1 d0 d1 t0 t1)
    clear h rel ok full hb ag c7 hnv e1 e2 e3 hm hd8 hos
    go_enter Tryz.func34, Tryz.ntmps34
    go_wp2_with (go_at_call 29; refine (HC.out).mono ?_; rintro e w' ⟨rfl, hw⟩; have hw' := hw.symm; subst hw')
    refine (W1.out).mono ?_
    rintro e w1 ⟨rfl, hw⟩
    have hw' := hw.symm
    subst hw'
    go_wp2_with fail
    refine (W2.out).mono ?_
    rintro e w2 ⟨rfl, hw⟩
    have hw' := hw.symm
    subst hw'
    go_wp2_with fail
    refine (W3.out).mono ?_
    rintro e w3 ⟨rfl, hw⟩
    have hw' := hw.symm
    subst hw'
    go_wp2_with fail
    refine (FU.out).mono ?_
    rintro e w4 ⟨rfl, hw⟩
    have hw' := hw.symm
    subst hw'
    go_wp2_with fail
    refine (TK.out).mono ?_
    rintro e w5 ⟨rfl, hg⟩
    have HG := hide hg
    clear hg
    go_wp2_with fail
    go_ret2
    exact ⟨rfl, HG.out⟩

set_option maxRecDepth 100000 in
set_option maxHeartbeats 1600000 in
theorem oRest_any (b : Nat) (D : GSt) (vc vw : Value) (ods : List OrdD) (R : RSt) (j : Int) (w : World) (h : PAt w b D vc vw ods) (rel : ORel D ods R) (hol : ods.length ≤ 3300) :
    Calls Tryz.prog 47 #[ptr b 0, I j] w fun e w' => e = .returned (.tuple #[I (restV R j), I (restErr R j)]) ∧ w' = w := by
  have WI := hide (within_any j 1 (ods.length : Int) w)
  obtain ⟨av, cp, hvo⟩ := row_slice h.o.vor
  obtain ⟨sl, ag⟩ := h.g.ag
  have c6 : w.cell? ⟨b, 6, none⟩ = some (.slice av ods.length cp) := by rw [ag.head.cell, ← hvo]; rfl
  have hos : R.os.length = ods.length := by rw [rel.os]; simp
  by_cases q : j < 1 ∨ (ods.length : Int) < j
  · have e1 : restErr R j = 1 := by simp [restErr, hos, q]
    have e2 : restV R j = 0 := by simp [restV, hos, q]
    rw [e1, e2]
    rw [within_no q] at WI
    clear h rel ag q e1 e2
    go_enter Tryz.func47, Tryz.ntmps47
    go_wp2_with fail
    refine (WI.out).mono ?_
    rintro e w1 ⟨rfl, hw⟩
    subst hw
    go_wp2_with fail
    go_ret2
    exact ⟨rfl, rfl⟩
  · obtain ⟨i, rfl⟩ : ∃ i : Nat, j = (i : Int) + 1 := ⟨(j - 1).toNat, by omega⟩
    have hi : i < ods.length := by omega
    obtain ⟨o, ho⟩ : ∃ o, ods[i]? = some o := ⟨_, List.getElem?_eq_getElem hi⟩
    have e1 : restErr R ((i : Int) + 1) = 0 := by simp [restErr, hos]; omega
    have e2 : restV R ((i : Int) + 1) = o.rest := by
      have e3 : ((i : Int) + 1 - 1).toNat = i := by omega
      have e4 : ¬ ((i : Int) + 1 < 1 ∨ (R.os.length : Int) < (i : Int) + 1) := by rw [hos]; omega
      unfold restV
      rw [if_neg e4, e3, rel.os, List.getElem?_map, ho]
      rfl
    rw [e1, e2]
    rw [within_yes (by omega) (by omega)] at WI
    obtain ⟨g, cap, hv, -, hcell, -⟩ := row_at h.o.vor (fun _ => rfl) ho (by decide)
    rw [hvo] at hv
    injection hv with hv1 hv2 hv3
    subst hv1
    have d0 := hcell 0 (by decide)
    simp at d0
    have bo := h.o.ords i o ho
    have b1 : w.cell? ⟨o.blk, 1, none⟩ = some (I o.rest) := by rw [bo.cell]; rfl
    clear h rel ag q e1 e2 hcell bo hv2 hv3 hvo
    go_enter Tryz.func47, Tryz.ntmps47
    go_wp2_with fail
    refine (WI.out).mono ?_
    rintro e w1 ⟨rfl, hw⟩
    have hw' := hw.symm
    subst hw'
    go_wp2_with fail
    go_ret2
    exact ⟨rfl, rfl⟩

end Go.Proofs.YtpilmkipbbengaaGreatDoor

/- Pause, Resume, Demand: the program's. -/
namespace Go.Proofs.YtpilmkipbbengaaGreatDoor
open Go.RowKit

theorem Goes.refl {w : World} {b : Nat} {D : GSt} {vc vw : Value} {ods : List OrdD} {R : RSt} (h : PAt w b D vc vw ods) (rel : ORel D ods R) : Goes w b D vc vw ods R w := ⟨D, ods, h, rel, fun _ hx => Or.inl hx, Frm.refl _ _, rfl⟩

theorem Goes.after {w W w' : World} {b : Nat} {D D1 : GSt} {vc vw : Value} {ods ods1 : List OrdD} {R : RSt} (h : Goes W b D1 vc vw ods1 R w') (f : Frm (PF b D vc vw ods) w W) (ft : ∀ x, PF b D1 vc vw ods1 x → PF b D vc vw ods x ∨ w.heap.size ≤ x) (hl : D1.lock = D.lock) : Goes w b D vc vw ods R w' := by
  obtain ⟨D', ods', h1, h2, h3, h4, h5⟩ := h
  have sz := f.size
  refine ⟨D', ods', h1, h2, fun x hx => ?_, f.trans2 h4 fun x hx e => ?_, h5.trans hl⟩
  · rcases h3 x hx with q | q
    · exact ft x q
    · exact Or.inr (by omega)
  · rcases ft x e with q | q
    · exact q
    · omega

/-- a cell of a channel -/
theorem PAt.setCh {w : World} {b : Nat} {D : GSt} {vc vw : Value} {ods : List OrdD} (h : PAt w b D vc vw ods) {k g cap i : Nat} {c c' : GCh} (hk : D.chs[k]? = some c) (hv : vc = .slice (some ⟨g, 0, none⟩) D.chs.length cap) (hi : i < 5) (he : c'.ent = c.ent) (hs : c'.so = c.so) {u : Value} (hf : gchC c' = (gchC c).set i u) :
    PAt (w.setCell ⟨g, k * 5 + i, none⟩ u) b { D with chs := D.chs.set k c' } vc vw ods ∧ Frm (PF b D vc vw ods) w (w.setCell ⟨g, k * 5 + i, none⟩ u) ∧ ∀ x, PF b { D with chs := D.chs.set k c' } vc vw ods x → PF b D vc vw ods x := by
  obtain ⟨q1, q2⟩ := h.g.setCh hk hv hi he hf
  have hkl : k < D.chs.length := (List.getElem?_eq_some_iff.1 hk).1
  have ho := h.o.frmG h.g (q2.mono fun x _ e => Or.inr (Or.inl e))
  have hss : sosOf (D.chs.set k c') = sosOf D.chs := sosOf_same D.chs k c c' hk hs
  refine ⟨⟨q1, ?_⟩, q2.mono fun x _ e => Or.inl (Or.inr (Or.inl e)), ?_⟩
  · show OAt _ b vc (sosOf (D.chs.set k c')) D.vo D.xt D.nv ods
    rw [hss]; exact ho
  · rintro x ((e | e | e | ⟨j, d, e', h1, h2⟩) | e)
    · exact Or.inl (Or.inl e)
    · exact Or.inl (Or.inr (Or.inl e))
    · exact Or.inl (Or.inr (Or.inr (Or.inl e)))
    · refine Or.inl (Or.inr (Or.inr (Or.inr ?_)))
      have h1 : (D.chs.set k c')[j]? = some d := h1
      by_cases q : k = j
      · rw [← q, List.getElem?_set_self hkl] at h1; simp at h1; subst h1
        exact ⟨k, c, e', hk, by rw [← he]; exact h2⟩
      · rw [List.getElem?_set_ne q] at h1; exact ⟨j, d, e', h1, h2⟩
    · have e' : OF (sosOf (D.chs.set k c')) D.vo ods x := e
      rw [hss] at e'; exact Or.inr e'

set_option maxRecDepth 100000 in
set_option maxHeartbeats 1600000 in
theorem osetResting (b : Nat) (D : GSt) (vc vw : Value) (ods : List OrdD) (R : RSt) (k : Int) (yes : Bool) (w : World) (h : PAt w b D vc vw ods) (rel : ORel D ods R) (ok : R.Ok) :
    Calls Tryz.prog 31 #[ptr b 0, I k, .bool yes] w fun e w' => e = .returned (I (restsErr R k yes)) ∧ Goes w b D vc vw ods (restsR R k yes) w' := by
  have HC := hide (ohasCh b D vc vw ods R k w h rel ok)
  cases hk : isCh R k with
  | false =>
    have e1 : restsErr R k yes = 1 := by simp [restsErr, hk]
    have e2 : restsR R k yes = R := by simp [restsR, e1]
    rw [e1, e2]
    rw [hk] at HC
    have G := hide (Goes.refl h rel)
    clear h rel ok hk e1 e2
    go_enter Tryz.func31, Tryz.ntmps31
    go_wp2_with fail
    refine (HC.out).mono ?_
    rintro e w1 ⟨rfl, hw⟩
    have hw' := hw.symm
    subst hw'
    go_wp2_with fail
    go_ret
    exact ⟨rfl, G.out⟩
  | true =>
    rw [hk] at HC
    obtain ⟨k0, k1⟩ := isCh_true hk
    obtain ⟨k, rfl⟩ := Int.eq_ofNat_of_zero_le k0
    have hkl : k < D.chs.length := by rw [rel.nch]; omega
    have nc : D.chs.length ≤ 4 := by rw [rel.nch]; exact ok.nc1
    obtain ⟨d, hd⟩ : ∃ d, D.chs[k]? = some d := ⟨_, List.getElem?_eq_getElem hkl⟩
    obtain ⟨c, hc⟩ : ∃ c, R.chs[k]? = some c := ⟨_, List.getElem?_eq_getElem (by omega)⟩
    obtain ⟨r1, r2, r3, r4, r5⟩ := rel.ch k d c hd hc
    obtain ⟨g, cap, hv, -, -, -, d3, -, hfz, -⟩ := h.g.chan hd
    obtain ⟨sl, ag⟩ := h.g.ag
    have c2 : w.cell? ⟨b, 2, none⟩ = some (.slice (some ⟨g, 0, none⟩) D.chs.length cap) := by rw [ag.head.cell, ← hv]; rfl
    have f3 := hfz (k * 5 + 3)
    by_cases hq : d.rests = yes
    · have e1 : restsErr R k yes = 3 := by simp [restsErr, hk, hc, ← r1, hq]
      have e2 : restsR R k yes = R := by simp [restsR, e1]
      rw [e1, e2]
      have G := hide (Goes.refl h rel)
      rw [hq] at d3
      clear h rel ok hk e1 e2 ag hv hd hc r1 r2 r3 r4 r5 hfz hq
      go_enter Tryz.func31, Tryz.ntmps31
      go_wp2_with fail
      refine (HC.out).mono ?_
      rintro e w1 ⟨rfl, hw⟩
      have hw' := hw.symm
      subst hw'
      cases yes
      all_goals go_wp2_with fail
      all_goals go_ret
      all_goals exact ⟨rfl, G.out⟩
    · have e1 : restsErr R k yes = 0 := by simp [restsErr, hk, hc, ← r1, hq]
      have e2 : restsR R k yes = { R with chs := R.chs.set k { c with rests := yes } } := by simp [restsR, e1, hc]
      rw [e1, e2]
      obtain ⟨p1, p2, p3⟩ := h.setCh (i := 3) (c' := { d with rests := yes }) hd hv (by decide) rfl rfl (u := .bool yes) rfl
      have G : Hid (Goes w b D vc vw ods { R with chs := R.chs.set k { c with rests := yes } } (w.setCell ⟨g, k * 5 + 3, none⟩ (.bool yes))) :=
        ⟨_, ods, p1, rel.setch hc rfl rfl rfl rfl ⟨rfl, r2, r3, r4, r5⟩, fun x hx => Or.inl (p3 x hx), p2, rfl⟩
      have hq' : d.rests = !yes := by cases hy : yes <;> cases hr : d.rests <;> simp_all
      rw [hq'] at d3
      clear h rel ok hk e1 e2 ag hv hd hc r1 r2 r3 r4 r5 hfz hq hq' p1 p2 p3
      go_enter Tryz.func31, Tryz.ntmps31
      go_wp2_with fail
      refine (HC.out).mono ?_
      rintro e w1 ⟨rfl, hw⟩
      have hw' := hw.symm
      subst hw'
      cases yes
      all_goals go_wp2_with fail
      all_goals go_ret
      all_goals exact ⟨rfl, G.out⟩

set_option maxRecDepth 100000 in
set_option maxHeartbeats 800000 in
theorem oPause_any (b : Nat) (D : GSt) (vc vw : Value) (ods : List OrdD) (R : RSt) (k : Int) (w : World) (h : PAt w b D vc vw ods) (rel : ORel D ods R) (ok : R.Ok) :
    Calls Tryz.prog 21 #[ptr b 0, I k] w fun e w' => e = .returned (I (restsErr R k true)) ∧ Goes w b D vc vw ods (restsR R k true) w' := by
  have C := hide (osetResting b D vc vw ods R k true w h rel ok)
  clear h rel ok
  go_enter Tryz.func21, Tryz.ntmps21
  go_wp2_with fail
  refine (C.out).mono ?_
  rintro e w' ⟨rfl, hg⟩
  have G := hide hg
  clear hg
  go_wp2_with fail
  go_ret
  exact ⟨rfl, G.out⟩

set_option maxRecDepth 100000 in
set_option maxHeartbeats 800000 in
theorem oResume_any (b : Nat) (D : GSt) (vc vw : Value) (ods : List OrdD) (R : RSt) (k : Int) (w : World) (h : PAt w b D vc vw ods) (rel : ORel D ods R) (ok : R.Ok) :
    Calls Tryz.prog 15 #[ptr b 0, I k] w fun e w' => e = .returned (I (restsErr R k false)) ∧ Goes w b D vc vw ods (restsR R k false) w' := by
  have C := hide (osetResting b D vc vw ods R k false w h rel ok)
  clear h rel ok
  go_enter Tryz.func15, Tryz.ntmps15
  go_wp2_with fail
  refine (C.out).mono ?_
  rintro e w' ⟨rfl, hg⟩
  have G := hide hg
  clear hg
  go_wp2_with fail
  go_ret
  exact ⟨rfl, G.out⟩

end Go.Proofs.YtpilmkipbbengaaGreatDoor

/- Demand: the program's. -/
namespace Go.Proofs.YtpilmkipbbengaaGreatDoor
open Go.RowKit

theorem locked_rel {R : RSt} {k : Nat} {c : RCh} {d : GCh} (hc : R.chs[k]? = some c) (rel : OChRel R.now R.lock d c) (n0 : 0 ≤ R.now) : decide (R.now < d.free) = lockedB R k := by
  have h5 := rel.2.2.2.2
  unfold lockedB
  rw [hc]
  simp only
  by_cases q : c.asked < 0
  · rw [if_pos q] at h5
    have e1 : decide (0 ≤ c.asked) = false := decide_eq_false (by omega)
    rw [e1, Bool.false_and]
    exact decide_eq_false (by omega)
  · rw [if_neg q] at h5
    have e1 : decide (0 ≤ c.asked) = true := decide_eq_true (by omega)
    rw [e1, Bool.true_and]
    apply decide_eq_decide.2
    omega

set_option maxRecDepth 100000 in
set_option maxHeartbeats 1600000 in
theorem oDemand_no (b : Nat) (D : GSt) (vc vw : Value) (ods : List OrdD) (R : RSt) (k a : Int) (w : World) (h : PAt w b D vc vw ods) (rel : ORel D ods R) (ok : R.Ok) (hb : demandBad R k a = true) :
    Calls Tryz.prog 35 #[ptr b 0, I k, I a] w fun e w' => e = .returned (.tuple #[I 0, I 1]) ∧ w' = w := by
  have HC := hide (ohasCh b D vc vw ods R k w h rel ok)
  have W1 := hide (within_any a 1 1000 w)
  clear h rel ok
  cases hh : isCh R k with
  | false =>
    rw [hh] at HC
    clear hb
    go_enter Tryz.func35, Tryz.ntmps35
    go_wp2_with (go_at_call 29; refine (HC.out).mono ?_; rintro e w' ⟨rfl, rfl⟩)
    go_ret2
    exact ⟨rfl, rfl⟩
  | true =>
    rw [hh] at HC
    have q1 : a < 1 ∨ 1000 < a := by
      simp [demandBad, hh] at hb
      omega
    rw [within_no q1] at W1
    clear hb q1
    go_enter Tryz.func35, Tryz.ntmps35
    go_wp2_with (first | (go_at_call 29; refine (HC.out).mono ?_; rintro e w' ⟨rfl, hw⟩; subst hw) | (go_at_call 60; refine (W1.out).mono ?_; rintro e w' ⟨rfl, hw⟩; subst hw))
    go_ret2
    exact ⟨rfl, rfl⟩

set_option maxRecDepth 100000 in
set_option maxHeartbeats 1600000 in
theorem oDemand_on (TS : TakeSpec) (b : Nat) (D : GSt) (vc vw : Value) (ods : List OrdD) (R : RSt) (k a : Int) (w : World) (h : PAt w b D vc vw ods) (rel : ORel D ods R) (ok : R.Ok) (full : R.Full) (hb : demandBad R k a = false) :
    Calls Tryz.prog 35 #[ptr b 0, I k, I a] w fun e w' => e = .returned (.tuple #[I (demandN R k a), I (demandErr R k a)]) ∧ Goes w b D vc vw ods (demandR R k a) w' := by
  have hh : isCh R k = true ∧ 1 ≤ a ∧ a ≤ 1000 := by
    simp [demandBad] at hb
    exact ⟨hb.1.1, by omega, by omega⟩
  obtain ⟨hk, a0, a1⟩ := hh
  have HC := hide (ohasCh b D vc vw ods R k w h rel ok)
  rw [hk] at HC
  have W1 := hide (within_any a 1 1000 w)
  rw [within_yes a0 a1] at W1
  obtain ⟨k0, k1⟩ := isCh_true hk
  obtain ⟨k, rfl⟩ := Int.eq_ofNat_of_zero_le k0
  have hkl : k < D.chs.length := by rw [rel.nch]; omega
  have nc : D.chs.length ≤ 4 := by rw [rel.nch]; exact ok.nc1
  obtain ⟨d, hd⟩ : ∃ d, D.chs[k]? = some d := ⟨_, List.getElem?_eq_getElem hkl⟩
  obtain ⟨c, hc⟩ : ∃ c, R.chs[k]? = some c := ⟨_, List.getElem?_eq_getElem (by omega)⟩
  have rc := rel.ch k d c hd hc
  have lk := locked_rel hc rc ok.now0
  obtain ⟨g, cap, hv, -, -, -, -, d4, hfz, -⟩ := h.g.chan hd
  obtain ⟨sl, ag⟩ := h.g.ag
  have c0 : w.cell? ⟨b, 0, none⟩ = some (I R.now) := by rw [ag.head.cell, ← rel.now]; rfl
  have c1 : w.cell? ⟨b, 1, none⟩ = some (I R.lock) := by rw [ag.head.cell, ← rel.lock]; rfl
  have c2 : w.cell? ⟨b, 2, none⟩ = some (.slice (some ⟨g, 0, none⟩) D.chs.length cap) := by rw [ag.head.cell, ← hv]; rfl
  have c7 : w.cell? ⟨b, 7, none⟩ = some (I D.nv) := by rw [ag.head.cell]; rfl
  have f4 := hfz (k * 5 + 4)
  have hnv := nv_nov h rel
  have hos : ods.length = R.os.length := by rw [rel.os]; simp
  have n0 := ok.now0
  have n1 := ok.now1
  have l0 := rel.l0
  have l1 := rel.l1
  have FU := hide (fun m => full_any b D.nv (w.drewN m) c7)
  by_cases hl : lockedB R k = true
  · have e1 : demandErr R k a = 4 := by simp [demandErr, hb, hl]
    have e2 : demandN R k a = 0 := by simp [demandN, e1]
    have e3 : demandR R k a = R := by simp [demandR, e1]
    rw [e1, e2, e3]
    have hlt : R.now < d.free := by rw [hl] at lk; simpa using lk
    have G := hide (Goes.refl h rel)
    clear h rel ok full hb ag hnv e1 e2 e3 hl lk hd hc rc hv hfz c7 c1 hos
    generalize d.free = fr at *
    go_enter Tryz.func35, Tryz.ntmps35
    go_wp2_with (go_at_call 29; refine (HC.out).mono ?_; rintro e w' ⟨rfl, hw⟩; have hw' := hw.symm; subst hw')
    refine (W1.out).mono ?_
    rintro e w1 ⟨rfl, hw⟩
    have hw' := hw.symm
    subst hw'
    go_wp2_with fail
    go_quiet (fail)
    go_wp2_with fail
    go_ret2
    exact ⟨rfl, (G.out).drewN nq⟩
  · have hl' : lockedB R k = false := by simpa using hl
    have hlt : ¬ R.now < d.free := by rw [hl'] at lk; simpa using lk
    by_cases hm : 8 ≤ nov R.now R.os
    · have e1 : demandErr R k a = 2 := by simp [demandErr, hb, hl', hm]
      have e2 : demandN R k a = 0 := by simp [demandN, e1]
      have e3 : demandR R k a = R := by simp [demandR, e1]
      rw [e1, e2, e3]
      have hd8 : decide (8 ≤ D.nv) = true := decide_eq_true (by rw [hnv]; omega)
      rw [hd8] at FU
      have G := hide (Goes.refl h rel)
      clear h rel ok full hb ag hnv e1 e2 e3 hl hl' lk hd hc rc hv hfz c7 c1 hos hm hd8
      generalize d.free = fr at *
      go_enter Tryz.func35, Tryz.ntmps35
      go_wp2_with (go_at_call 29; refine (HC.out).mono ?_; rintro e w' ⟨rfl, hw⟩; have hw' := hw.symm; subst hw')
      refine (W1.out).mono ?_
      rintro e w1 ⟨rfl, hw⟩
      have hw' := hw.symm
      subst hw'
      go_wp2_with fail
      go_quiet (fail)
      go_wp2_with fail
      refine (FU.out nq).mono ?_
      rintro e w2 ⟨rfl, hw⟩
      have hw' := hw.symm
      subst hw'
      go_wp2_with fail
      go_ret2
      exact ⟨rfl, (G.out).drewN nq⟩
    · have e1 : demandErr R k a = 0 := by simp [demandErr, hb, hl']; omega
      have e2 : demandN R k a = (ods.length : Int) + 1 := by simp [demandN, e1, hos]
      have ho1 : orderErr R k a 0 1 = 0 := by
        have hb2 : orderBad R k a 0 1 = false := by
          simp [demandBad] at hb
          simp [orderBad, hb]
        simp [orderErr, hb2]; omega
      have e3 : demandR R k a = { ({ R with chs := R.chs.set k { c with asked := R.now } } : RSt) with os := R.os ++ [⟨k, R.now + 0, R.now + 0 + 1, a⟩] } := by
        simp [demandR, e1, orderR, ho1, askedR, hc]
      rw [e1, e2, e3]
      have hd8 : decide (8 ≤ D.nv) = false := decide_eq_false (by rw [hnv]; omega)
      rw [hd8] at FU
      have okA := askedR_ok ok full k
      have eA : askedR R k = { R with chs := R.chs.set k { c with asked := R.now } } := by simp [askedR, hc]
      rw [eA] at okA
      have TK : Hid (∀ (W W1 : World), Keep w W → Keep (W.setCell ⟨g, k * 5 + 4, none⟩ (I (R.now + R.lock))) W1 → Calls Tryz.prog 67 #[ptr b 0, I k, I a, I 0, I 1] W1 fun e w' => e = .returned (I ((ods.length : Int) + 1)) ∧ Goes w b D vc vw ods { ({ R with chs := R.chs.set k { c with asked := R.now } } : RSt) with os := R.os ++ [⟨k, R.now + 0, R.now + 0 + 1, a⟩] } w') := by
        intro W W1 kW kW1
        obtain ⟨p1, p2, p3⟩ := (h.keep kW).setCh (i := 4) (c' := { d with free := R.now + R.lock }) hd hv (by decide) rfl rfl (u := I (R.now + R.lock)) rfl
        have rel1 : ORel { D with chs := D.chs.set k { d with free := R.now + R.lock } } ods { R with chs := R.chs.set k { c with asked := R.now } } :=
          rel.setch hc rfl rfl rfl rfl ⟨rc.1, rc.2.1, rc.2.2.1, rc.2.2.2.1, by show R.now + R.lock = if R.now < 0 then 0 else R.now + R.lock; rw [if_neg (by omega)]⟩
        refine (TS b _ vc vw ods _ k a 0 1 W1 (p1.keep kW1) rel1 okA.1 okA.2 (by simpa using hkl) a0 a1 (by omega) (by omega) (by omega) (by omega)).mono ?_
        rintro e w' ⟨rfl, hg⟩
        refine ⟨rfl, hg.after (((kW.mono fun _ _ e => e.elim).trans p2).trans2 kW1 fun _ _ e => e.elim) (fun x hx => Or.inl (p3 x hx)) rfl⟩
      have wl : IntKind.i64.wrap (R.now + R.lock) = R.now + R.lock := wrap_id _ (by omega) (by omega)
      clear h rel ok full hb ag hnv e1 e2 e3 hl hl' lk hd hc rc hv hfz c7 hos hm hd8 okA eA ho1
      generalize d.free = fr at *
      go_enter Tryz.func35, Tryz.ntmps35
      go_wp2_with (go_at_call 29; refine (HC.out).mono ?_; rintro e w' ⟨rfl, hw⟩; have hw' := hw.symm; subst hw')
      refine (W1.out).mono ?_
      rintro e w1 ⟨rfl, hw⟩
      have hw' := hw.symm
      subst hw'
      go_wp2_with fail
      go_quiet (fail)
      go_wp2_with fail
      refine (FU.out nq).mono ?_
      rintro e w2 ⟨rfl, hw⟩
      have hw' := hw.symm
      subst hw'
      have kq : Keep w (w.drewN nq) := (Frm.refl _ _).drewN nq
      have v0 : (w.drewN nq).cell? ⟨b, 0, none⟩ = some (I R.now) := c0
      have v1 : (w.drewN nq).cell? ⟨b, 1, none⟩ = some (I R.lock) := c1
      have v4 : (w.drewN nq).cell? ⟨g, k * 5 + 4, none⟩ = some (I fr) := d4
      have vf : (w.drewN nq).frozen? ⟨g, k * 5 + 4, none⟩ = false := f4
      have TQ : Hid (∀ (W1 : World), (∃ W, Keep (w.drewN nq) W ∧ Keep (W.setCell ⟨g, k * 5 + 4, none⟩ (I (R.now + R.lock))) W1) → Calls Tryz.prog 67 #[ptr b 0, I k, I a, I 0, I 1] W1 fun e w' => e = .returned (I ((ods.length : Int) + 1)) ∧ Goes w b D vc vw ods { ({ R with chs := R.chs.set k { c with asked := R.now } } : RSt) with os := R.os ++ [⟨k, R.now + 0, R.now + 0 + 1, a⟩] } w') := by
        rintro W1 ⟨W, q1, q2⟩
        exact TK.out W W1 (kq.trans q1) q2
      generalize w.drewN nq = wq at *
      clear TK FU c0 c1 d4 f4 c2 kq
      go_wp2_with fail
      go_region
      all_goals go_wp2_with fail
      all_goals refine (TQ.out _ ⟨_, (Frm.refl _ _).drew, Frm.refl _ _⟩).mono ?_
      all_goals (rintro e w3 ⟨rfl, hg⟩)
      all_goals (have HG := hide hg)
      all_goals (clear hg)
      all_goals go_wp2_with fail
      all_goals go_ret2
      all_goals exact ⟨rfl, HG.out⟩

end Go.Proofs.YtpilmkipbbengaaGreatDoor

/- The program's pump, whole, is one. -/
namespace Go.Proofs.YtpilmkipbbengaaGreatDoor
open Go.RowKit

/-- the program's pump in memory, whole -/
def po : Rep := fun w F b R => ∃ D vc vw ods, QAt w b D vc vw ods R.doses ∧ ORel D ods R ∧ F = QF b D vc vw ods

theorem Goes.moved {w w' : World} {b : Nat} {D : GSt} {vc vw : Value} {ods : List OrdD} {R R' : RSt} (h : Goes w b D vc vw ods R' w') (q : QAt w b D vc vw ods R.doses) (hd : R'.doses = R.doses) : Moved po w (QF b D vc vw ods) b R' w' := by
  obtain ⟨D', ods', h1, h2, h3, h4, h5⟩ := h
  refine ⟨h4.mono fun x _ e => Or.inl e, _, ⟨D', vc, vw, ods', ⟨h1, by rw [h5, hd]; exact q.rowP h4⟩, h2, rfl⟩, ?_⟩
  rintro x (e | e)
  · rcases h3 x e with q | q
    · exact Or.inl (Or.inl q)
    · exact Or.inr q
  · rw [h5] at e; exact Or.inl (Or.inr e)

theorem po_keep {w w' : World} {F : Nat → Prop} {b : Nat} {R : RSt} (h : po w F b R) (k : Keep w w') : Moved po w F b R w' := by
  obtain ⟨D, vc, vw, ods, h, rel, rfl⟩ := h
  exact ⟨k.mono (fun _ _ e => e.elim), _, ⟨D, vc, vw, ods, h.keep k, rel, rfl⟩, fun x hx => Or.inl hx⟩

theorem gents_none (n : Nat) : gents (List.replicate n gch0) = [] := by
  induction n with
  | zero => rfl
  | succ n ih => rw [List.replicate_succ]; unfold gents at ih ⊢; rw [List.filterMap_cons]; simp [gch0]

theorem rbasal_ds (R : RSt) (k : Nat) (r t : Int) : (rbasal R k r t).doses = R.doses := by
  unfold rbasal; split <;> rfl
theorem orderR_ds (R : RSt) (k a d t : Int) : (orderR R k a d t).doses = R.doses := by
  unfold orderR; split <;> rfl
theorem askedR_ds (R : RSt) (k : Nat) : (askedR R k).doses = R.doses := by
  unfold askedR; split <;> rfl
theorem demandR_ds (R : RSt) (k a : Int) : (demandR R k a).doses = R.doses := by
  unfold demandR
  split
  · rw [askedR_ds, orderR_ds]
  · rfl
theorem restsR_ds (R : RSt) (k : Int) (yes : Bool) : (restsR R k yes).doses = R.doses := by
  unfold restsR; split
  · split <;> rfl
  · rfl

theorem new_po {w w' : World} {b : Nat} {c lock : Int} {a : Option Addr} {cap : Nat} {lims : List Lim} {vc vw : Value} {ws : List Wd} (h : DNewSt w w' b c lock a cap lims vc vw ws lims.length) (l0 : 0 ≤ lock) (l1 : lock ≤ 400) :
    ∃ F, po w' F b (rnew c.toNat lims lock) ∧ ∀ x, F x → w.heap.size ≤ x := by
  have hnoK : ∀ x, ¬ GKsF (List.replicate c.toNat gch0) x := by
    rintro x ⟨k, d, e, h1, h2⟩
    have := List.eq_of_mem_replicate (List.mem_of_getElem? h1)
    subst this
    simp [gch0] at h2
  have hA : ∀ x, AgF b none [] x → x = b := by
    rintro x (e | e | ⟨e, he, -⟩)
    · exact e
    · simp at e
    · simp at he
  have hlt := h.lt
  have hsos : ∀ (k : Nat) (s : Value), (sosOf (List.replicate c.toNat gch0))[k]? = some s → s = .slice none 0 0 := by
    intro k s hs
    have := List.mem_of_getElem? hs
    simp only [sosOf, List.map_replicate] at this
    exact List.eq_of_mem_replicate this
  have hgo : ∀ k, going [] k = [] := fun _ => rfl
  refine ⟨_, ⟨⟨0, ⟨lock, .slice none 0 0⟩, List.replicate c.toNat gch0, ws, 0, none, [], [], .slice none 0 0, 0⟩, vc, vw, [], ⟨⟨⟨⟨.slice none 0 0, ?_⟩, ?_, ?_, h.lie, ?_, ?_, ?_⟩, ?_⟩, World.ownsRow_nil ..⟩, ?_, rfl⟩, ?_⟩
  · exact ⟨h.head, ⟨.slice none 0 0, rfl, World.ownsRow_nil .., rfl⟩, by simp, by simp, by simp, by simp⟩
  · intro k _ hk; simp at hk
  · have := h.chs
    simpa using this
  · intro k d e cb h1 h2
    exact absurd ⟨k, d, e, h1, h2⟩ (hnoK cb)
  · show ([] : List Ent).Perm (gents (List.replicate c.toNat gch0) ++ [])
    rw [gents_none]
    exact List.Perm.refl _
  · refine ⟨?_, ?_, fun x _ => hnoK x, h.cv, fun x _ => hnoK x, fun x _ => hnoK x⟩
    · intro x hx hc'; exact (h.nw x (Or.inl hc')).2 (hA x hx)
    · intro x hx hw; exact (h.nw x (Or.inr hw)).2 (hA x hx)
  · refine ⟨by simp, by simp, World.ownsRow_nil .., ?_, by simp, by simp, List.Perm.refl _, ?_, ?_, by simp, by simp, by simp, by simp, by simp, rfl⟩
    · intro k s hs
      rw [hsos k s hs]
      exact World.ownsRow_nil ..
    · intro k l s t hs ht hne x hx
      rw [hsos k s hs] at hx
      simp [Value.ownBlock] at hx
    · intro k s hs x hx
      rw [hsos k s hs] at hx
      simp [Value.ownBlock] at hx
  · have hf := h.fits
    rw [List.take_length] at hf
    refine ⟨rfl, rfl, l0, l1, rfl, by simp, hf, by simp [rnew], by simp [rnew], ?_⟩
    intro k d r hd hr
    have e1 := List.eq_of_mem_replicate (List.mem_of_getElem? hd)
    have e2 := List.eq_of_mem_replicate (List.mem_of_getElem? hr)
    subst e1; subst e2
    refine ⟨rfl, by simp [wbase, ch0, gch0], fun _ => Or.inl (by simp [ch0]), fun e cb he => by simp [gch0] at he, by simp [ch0, gch0]⟩
  · rintro x (((e | e | e | e) | e) | e)
    · have := hA x e; omega
    · have := (h.nw x (Or.inl e)).1; omega
    · have := (h.nw x (Or.inr e)).1; omega
    · exact absurd e (hnoK x)
    · rcases e with ⟨j, o, hj, -⟩ | e | ⟨k, s, hs, e⟩
      · simp at hj
      · simp [Value.ownBlock] at e
      · rw [hsos k s hs] at e
        simp [Value.ownBlock] at e
    · simp [Value.ownBlock] at e

theorem whole_pumpy : Pumpy 25 32 46 14 78 po where
  frm := by
    rintro S w w' F b R ⟨D, vc, vw, ods, h, rel, rfl⟩ f hs
    exact ⟨D, vc, vw, ods, h.frm f hs, rel, rfl⟩
  lt := by
    rintro w F b R ⟨D, vc, vw, ods, h, rel, rfl⟩
    exact h.lt
  new := by
    intro c a lims cap lock w hs hn hl
    refine (New_any c a lims cap lock w hs hn hl).mono ?_
    rintro e w' ⟨k, ⟨hf, rfl⟩ | ⟨hf, b, vc, vw, ws, rfl, hst⟩⟩
    · exact ⟨k, Or.inl ⟨hf, rfl⟩⟩
    · have hc : 0 ≤ lock ∧ lock ≤ 400 := by
        simp [fineB, badHead] at hf
        omega
      obtain ⟨F, h1, h2⟩ := new_po hst hc.1 hc.2
      exact ⟨k, Or.inr ⟨hf, b, F, rfl, h1, h2⟩⟩
  basal := by
    rintro k rate ticks w F b R hpd ok full
    obtain ⟨D, vc, vw, ods, h, rel, hF⟩ := id hpd
    cases hb : basalBad R k rate ticks with
    | true =>
      refine (oBasal_no b D vc vw ods R k rate ticks w h.p rel ok hb).mono ?_
      rintro e w' ⟨rfl, rfl⟩
      refine ⟨by simp [basalErr, hb], ?_⟩
      simp only [basalR, hb, if_true]
      exact po_keep hpd (Frm.refl _ _)
    | false =>
      refine (oBasal_yes b D vc vw ods R k rate ticks w h.p rel ok full hb).mono ?_
      rintro e w' ⟨rfl, hg⟩
      subst hF
      refine ⟨by simp [basalErr, hb], ?_⟩
      have := hg.moved h (rbasal_ds _ _ _ _)
      simpa [basalR, hb] using this
  run := by
    rintro t w F b R ⟨D, vc, vw, ods, h, rel, rfl⟩ ok full
    obtain ⟨sl, ag⟩ := h.p.g.ag
    have c0 : w.cell? ⟨b, 0, none⟩ = some (I R.now) := by rw [ag.head.cell, ← rel.now]; rfl
    by_cases h1 : t < 1 ∨ 100 < t
    · refine (run_arg b t w h1).mono ?_
      rintro e w' ⟨rfl, rfl⟩
      have e1 : runErr R t = 1 := by rw [runErr, if_pos h1]
      refine ⟨.slice none 0 0, by rw [e1], by simp [runDs, e1]; exact World.ownsRow_nil .., Frm.refl _ _, _, ⟨D, vc, vw, ods, by simpa [runR, e1] using h, by simpa [runR, e1] using rel, rfl⟩, fun x hx => Or.inl hx, fun x hx => by simp [Value.ownBlock] at hx⟩
    · by_cases h2 : 400 < R.now + t
      · refine (run_many b t R.now w c0 ok.now0 ok.now1 (by omega) (by omega) h2).mono ?_
        rintro e w' ⟨rfl, rfl⟩
        have e1 : runErr R t = 2 := by rw [runErr, if_neg h1, if_pos h2]
        refine ⟨.slice none 0 0, by rw [e1], by simp [runDs, e1]; exact World.ownsRow_nil .., Frm.refl _ _, _, ⟨D, vc, vw, ods, by simpa [runR, e1] using h, by simpa [runR, e1] using rel, rfl⟩, fun x hx => Or.inl hx, fun x hx => by simp [Value.ownBlock] at hx⟩
      · have e1 : runErr R t = 0 := by rw [runErr, if_neg h1, if_neg h2]
        obtain ⟨n, rfl⟩ := Int.eq_ofNat_of_zero_le (show 0 ≤ t by omega)
        refine (orun_all b D vc vw ods R n w h rel ok full (by omega) (by omega) (by omega)).mono ?_
        rintro e w' ⟨vout, D', ods', rfl, hs⟩
        refine ⟨vout, by rw [e1], ?_, hs.go.frm, _, ⟨D', vc, vw, ods', ?_, ?_, rfl⟩, hs.go.foot, hs.new⟩
        · simp only [runDs, e1, if_true, Int.toNat_natCast]
          exact hs.out
        · simpa [runR, e1] using hs.go.lie
        · simpa [runR, e1] using hs.go.rel
  room := by
    rintro k w F b R hpd ok _
    obtain ⟨D, vc, vw, ods, h, rel, hF⟩ := id hpd
    cases hk : isCh R k with
    | true =>
      refine (oRoom_yes b D vc vw ods R k w h.p rel ok hk).mono ?_
      rintro e w' ⟨rfl, n, rfl⟩
      exact ⟨by simp [roomV, hk], po_keep hpd ((Frm.refl _ _).drewN n)⟩
    | false =>
      refine (oRoom_no b D vc vw ods R k w h.p rel ok hk).mono ?_
      rintro e w' ⟨rfl, rfl⟩
      exact ⟨by simp [roomV, hk], po_keep hpd (Frm.refl _ _)⟩
  wait := by
    rintro k a w F b R hpd ok _
    obtain ⟨D, vc, vw, ods, h, rel, hF⟩ := id hpd
    by_cases hb : isCh R k = false ∨ a < 0 ∨ 1000 < a
    · refine (oWait_no b D vc vw ods R k a w h.p rel ok hb).mono ?_
      rintro e w' ⟨rfl, rfl⟩
      exact ⟨Or.inl ⟨hb, rfl⟩, po_keep hpd (Frm.refl _ _)⟩
    · have hk : isCh R k = true := by
        cases hh : isCh R k with
        | true => rfl
        | false => exact absurd (Or.inl hh) hb
      have a0 : 0 ≤ a := by omega
      have a1 : a ≤ 1000 := by omega
      refine (oWait_yes b D vc vw ods R k a w h.p rel ok hk a0 a1).mono ?_
      rintro e w' ⟨⟨r, rfl, hr⟩, n, rfl⟩
      exact ⟨Or.inr ⟨hk, a0, a1, r, rfl, hr⟩, po_keep hpd ((Frm.refl _ _).drewN n)⟩

theorem whole_orderly (TS : TakeSpec) : Orderly 34 35 47 21 15 po where
  order := by
    rintro k a d t w F b R hpo ok full
    obtain ⟨D, vc, vw, ods, h, rel, hF⟩ := id hpo
    cases hb : orderBad R k a d t with
    | true =>
      have e1 : orderErr R k a d t = 1 := by simp [orderErr, hb]
      have e2 : orderN R k a d t = 0 := by simp [orderN, e1]
      have e3 : orderR R k a d t = R := by simp [orderR, e1]
      rw [e1, e2, e3]
      refine (oOrder_no b D vc vw ods R k a d t w h.p rel ok hb).mono ?_
      rintro e w' ⟨rfl, rfl⟩
      exact ⟨rfl, po_keep hpo (Frm.refl _ _)⟩
    | false =>
      subst hF
      refine (oOrder_on TS b D vc vw ods R k a d t w h.p rel ok full hb).mono ?_
      rintro e w' ⟨rfl, hg⟩
      exact ⟨rfl, hg.moved h (orderR_ds _ _ _ _ _)⟩
  demand := by
    rintro k a w F b R hpo ok full
    obtain ⟨D, vc, vw, ods, h, rel, hF⟩ := id hpo
    cases hb : demandBad R k a with
    | true =>
      have e1 : demandErr R k a = 1 := by simp [demandErr, hb]
      have e2 : demandN R k a = 0 := by simp [demandN, e1]
      have e3 : demandR R k a = R := by simp [demandR, e1]
      rw [e1, e2, e3]
      refine (oDemand_no b D vc vw ods R k a w h.p rel ok hb).mono ?_
      rintro e w' ⟨rfl, rfl⟩
      exact ⟨rfl, po_keep hpo (Frm.refl _ _)⟩
    | false =>
      subst hF
      refine (oDemand_on TS b D vc vw ods R k a w h.p rel ok full hb).mono ?_
      rintro e w' ⟨rfl, hg⟩
      exact ⟨rfl, hg.moved h (demandR_ds _ _ _)⟩
  rest := by
    rintro j w F b R hpo ok full
    obtain ⟨D, vc, vw, ods, h, rel, hF⟩ := id hpo
    refine (oRest_any b D vc vw ods R j w h.p rel (rel.olen ok full)).mono ?_
    rintro e w' ⟨rfl, rfl⟩
    exact ⟨rfl, po_keep hpo (Frm.refl _ _)⟩
  pause := by
    rintro k w F b R ⟨D, vc, vw, ods, h, rel, rfl⟩ ok full
    refine (oPause_any b D vc vw ods R k w h.p rel ok).mono ?_
    rintro e w' ⟨rfl, hg⟩
    exact ⟨rfl, hg.moved h (restsR_ds _ _ _)⟩
  resume := by
    rintro k w F b R ⟨D, vc, vw, ods, h, rel, rfl⟩ ok full
    refine (oResume_any b D vc vw ods R k w h.p rel ok).mono ?_
    rintro e w' ⟨rfl, hg⟩
    exact ⟨rfl, hg.moved h (restsR_ds _ _ _)⟩

end Go.Proofs.YtpilmkipbbengaaGreatDoor
