/- Run. -/
import Derived.Test.YtahiolfelcmikaaGreatDtick
import Derived.Test.YtahiolfelcmikaaGreatRef5
namespace Go.Proofs.YtahiolfelcmikaaGreat
open Go.RowKit

theorem DRel.tick {w w' : World} {b : Nat} {D D' : DSt} {vc vw : Value} {R : RSt} {ws' : List Wd} (rel : DRel D R) (ok : R.Ok) (pe : PassEnd w w' b { D with ws := ws' } D' vc vw R.lims (tks R.chs.length R).doses) : DRel D' (rtick R) := by
  obtain ⟨s1, s2, s3, s4, s5⟩ := rtick_same R
  have hnow := rel.now
  have hp := pe.now
  have hn0 := ok.now0
  have e1 : ({ D with ws := ws' } : DSt).now = R.now := hnow
  rw [e1] at hp
  refine ⟨by rw [hp, s3], by rw [pe.lock, s4]; exact rel.lock, ?_, ?_, ?_, by rw [pe.nch, s1]; exact rel.nch, ?_⟩
  · rw [rel.os] at s5
    exact List.eq_nil_of_length_eq_zero (by simpa using s5)
  · rw [s2, s3]
    have := pe.fits
    rw [e1] at this
    exact this
  · intro d hd
    have := tks_past rel.past R.chs.length d hd
    rw [s3]; omega
  · intro k d c hk hc
    rw [s1] at hc
    rw [s3]
    obtain ⟨d0, hd0, hcase⟩ := pe.chs k d hk
    obtain ⟨r1, r2, r3, r4⟩ := rel.ch k d0 c hd0 hc
    have hch := ok.chs c (List.mem_of_getElem? hc)
    rcases hcase with rfl | ⟨rfl, e, cb, he, ht⟩
    · refine ⟨r1, ?_, ?_, ?_⟩
      · rw [r2]
        cases hent : d.ent with
        | none =>
          have := r3 hent
          unfold wbase
          by_cases q : c.til < 0
          · simp [q]
          · have q1 : ¬ R.now < c.til := by omega
            have q2 : ¬ R.now + 1 < c.til := by omega
            simp [q, q1, q2]
        | some x =>
          have h1 := pe.late k d x.1 x.2 hk hent
          have h2 := r4 x.1 x.2 hent
          rw [e1] at h1
          have q1 : R.now < c.til := by omega
          have q2 : R.now + 1 < c.til := by omega
          unfold wbase
          simp [q1, q2]
      · intro hent
        have := r3 hent; omega
      · intro e cb hent
        have h1 := pe.late k d e cb hk hent
        have h2 := r4 e cb hent
        rw [e1] at h1
        exact ⟨h2.1, by omega⟩
    · have h2 := r4 e cb he
      rw [e1] at ht
      refine ⟨r1, ?_, ?_, ?_⟩
      · unfold wbase
        have q : ¬ c.til < 0 := by omega
        have q2 : ¬ R.now + 1 < c.til := by omega
        simp [q, q2]
      · intro _; omega
      · intro e' cb' h'; simp at h'

/-- on the way through Run -/
structure RunD (w wr : World) (b : Nat) (D D' : DSt) (vc vw : Value) (R R' : RSt) (vout : Value) : Prop where
  lie : DAt wr b D' vc vw
  rel : DRel D' R'
  foot : ∀ x, DF b D' vc vw x → DF b D vc vw x
  out : wr.ownsRow 0 57 3 vout (R'.doses.drop R.doses.length).length ((R'.doses.drop R.doses.length).flatMap dsC)
  new : ∀ x, vout.ownBlock = some x → w.heap.size ≤ x
  frm : Frm (fun x => DF b D vc vw x ∨ w.heap.size ≤ x) w wr

theorem RunD.next {w wr w1 w2 : World} {b : Nat} {D D' D2 : DSt} {vc vw : Value} {R R' : RSt} {vout v1 : Value} {ws' : List Wd} (h : RunD w wr b D D' vc vw R R' vout) (ok : R'.Ok) (pre : R.doses <+: R'.doses)
    (ht : TickD wr w1 w.heap.size b D' vc vw ws' R' (tks R'.chs.length R') (R'.doses.drop R.doses.length) v1) (pe : PassEnd w1 w2 b { D' with ws := ws' } D2 vc vw R'.lims (tks R'.chs.length R').doses) (hB : ∀ x, DF b D vc vw x → x < w.heap.size) :
    RunD w w2 b D D2 vc vw R (rtick R') v1 := by
  have f1 : ∀ x, DF b { D' with ws := ws' } vc vw x → DF b D' vc vw x := by
    rintro x (e | e | e | e)
    · exact Or.inl e
    · exact Or.inr (Or.inl e)
    · exact Or.inr (Or.inr (Or.inl ((ht.foot x).1 e)))
    · exact Or.inr (Or.inr (Or.inr e))
  refine ⟨pe.lie, h.rel.tick ok pe, fun x hx => h.foot x (f1 x (pe.foot x hx)), ?_, ht.new, ?_⟩
  · have e : (rtick R').doses.drop R.doses.length = R'.doses.drop R.doses.length ++ (tks R'.chs.length R').doses.drop R'.doses.length := drop_drop_pre pre (tks_pre _ _)
    rw [e]
    refine row_frm ht.out pe.frm fun x hx hD => ?_
    have h1 := ht.new x hx
    have h2 := hB x (h.foot x (f1 x hD))
    omega
  · refine (h.frm.trans (ht.frm.mono fun x _ hx => ?_)).trans (pe.frm.mono fun x _ hx => Or.inl (h.foot x (f1 x hx)))
    rcases hx with e | e
    · exact Or.inl (h.foot x (Or.inr (Or.inr (Or.inl e))))
    · exact Or.inr e

set_option maxRecDepth 100000 in
set_option maxHeartbeats 800000 in
theorem run_arg (b : Nat) (t : Int) (w : World) (h : t < 1 ∨ 100 < t) :
    Calls Tryz.prog 23 #[ptr b 0, I t] w fun e w' => e = .returned (.tuple #[.slice none 0 0, I 1]) ∧ w' = w := by
  have hb : (decide ((1 : Int) ≤ t) && decide (t ≤ 100)) = false := by
    rcases h with h | h
    · have : ¬ (1 : Int) ≤ t := by omega
      simp [this]
    · have : ¬ t ≤ 100 := by omega
      simp [this]
  have WI := hide (within_any t 1 100 w)
  rw [hb] at WI
  clear hb h
  go_enter Tryz.func23, Tryz.ntmps23
  go_wp2_with fail
  refine (WI.out).mono ?_
  rintro e w' ⟨rfl, rfl⟩
  go_wp2_with fail
  go_ret2
  exact ⟨rfl, rfl⟩

theorem within_yes {a n c : Int} (h1 : a ≤ n) (h2 : n ≤ c) : (decide (a ≤ n) && decide (n ≤ c)) = true := by simp [h1, h2]

set_option maxRecDepth 100000 in
set_option maxHeartbeats 800000 in
theorem run_many (b : Nat) (t now : Int) (w : World) (hc : w.cell? ⟨b, 0, none⟩ = some (I now)) (n0 : 0 ≤ now) (n1 : now ≤ 400) (h1 : 1 ≤ t) (h2 : t ≤ 100) (h3 : 400 < now + t) :
    Calls Tryz.prog 23 #[ptr b 0, I t] w fun e w' => e = .returned (.tuple #[.slice none 0 0, I 2]) ∧ w' = w := by
  have WI := hide (within_any t 1 100 w)
  rw [within_yes h1 h2] at WI
  go_enter Tryz.func23, Tryz.ntmps23
  go_wp2_with fail
  refine (WI.out).mono ?_
  rintro e w' ⟨rfl, rfl⟩
  go_wp2_with fail
  go_ret2
  exact ⟨rfl, rfl⟩

set_option maxRecDepth 100000 in
set_option maxHeartbeats 1600000 in
theorem run_all (b : Nat) (D : DSt) (vc vw : Value) (R : RSt) (t : Nat) (w : World) (h : DAt w b D vc vw) (rel : DRel D R) (ok : R.Ok) (full : R.Full) (h1 : 1 ≤ t) (h2 : t ≤ 100) (h3 : R.now + t ≤ 400) :
    Calls Tryz.prog 23 #[ptr b 0, I t] w fun e w' => ∃ vout D', e = .returned (.tuple #[vout, I 0]) ∧ RunD w w' b D D' vc vw R (rticks t R) vout := by
  have WI := hide (within_any t 1 100 w)
  rw [within_yes (by omega) (by omega)] at WI
  obtain ⟨sl, ag⟩ := h.ag
  have c0 : w.cell? ⟨b, 0, none⟩ = some (I R.now) := by rw [ag.head.cell, ← rel.now]; rfl
  have n0 := ok.now0
  have hlt := h.lt
  have hst0 : RunD w w b D D vc vw R (rticks 0 R) (.slice none 0 0) := ⟨h, rel, fun _ hx => hx, by simp [rticks]; exact World.ownsRow_nil .., by simp [Value.ownBlock], Frm.refl _ _⟩
  have H := hide (And.intro ok (And.intro full (And.intro hst0 hlt)))
  clear h rel ok full hst0 hlt ag
  go_enter Tryz.func23, Tryz.ntmps23
  go_wp2_with fail
  refine (WI.out).mono ?_
  rintro e w' ⟨rfl, rfl⟩
  go_wp2_with fail
  go_loopg [6, 18] t (fun q vo i wr => ∃ j : Nat, q + j = t ∧ i = I j ∧ Hid (∃ D', RunD w' wr b D D' vc vw R (rticks j R) vo))
  case atStart => exact ⟨0, by omega, rfl, D, (H.out).2.2.1⟩
  case round =>
    obtain ⟨j, hkj, rfl, hst⟩ := hrel
    obtain ⟨D', hr⟩ := hst.out
    by_cases hj : j < t
    · obtain ⟨okj, fullj⟩ := rticks_ok (H.out).1 (H.out).2.1 j (by omega)
      have hnj := (rticks_same j R).2.2.1
      have hpre := rticks_pre j R
      have hdl : (rticks j R).doses.length ≤ 1996 := by
        have : ((rticks j R).doses.length : Int) ≤ 4 * (rticks j R).now := fullj.1
        omega
      have hB := (H.out).2.2.2
      have gt := giveTick_all w'.heap.size b D' vc vw u6 (rticks j R) ((rticks j R).doses.drop R.doses.length) wr hr.lie hr.rel okj (by omega) hdl hr.out (fun x hx => hB x (hr.foot x hx)) hr.frm.size hr.new (by simp; omega)
      have ps : ∀ (v1 : Value) (ws' : List Wd) (w1 : World), TickD wr w1 w'.heap.size b D' vc vw ws' (rticks j R) (tks (rticks j R).chs.length (rticks j R)) ((rticks j R).doses.drop R.doses.length) v1 →
          Calls Tryz.prog 53 #[ptr b 0] w1 fun e w2 => e = .returned (.tuple #[]) ∧ ∃ k' : Nat, k' < gk ∧ ∃ j' : Nat, k' + j' = t ∧ I ((j : Int) + 1) = I j' ∧ Hid (∃ D', RunD w' w2 b D D' vc vw R (rticks j' R) v1) := by
        intro v1 ws' w1 ht
        have e1 : ({ D' with ws := ws' } : DSt).now = (rticks j R).now := hr.rel.now
        have hn0 := okj.now0
        refine (pass_all b { D' with ws := ws' } vc vw (rticks j R).lims (tks (rticks j R).chs.length (rticks j R)).doses w1 ht.lie (by rw [e1]; exact ht.fits) (fun l hl => (okj.lims l hl).w0) (by rw [e1]; exact tks_past hr.rel.past _) (by rw [ht.fits.1]; exact okj.nl) (by rw [show ({ D' with ws := ws' } : DSt).chs.length = D'.chs.length from rfl, hr.rel.nch]; exact okj.nc1) (by rw [e1]; exact hn0) (by rw [e1]; exact okj.now1)).mono ?_
        rintro e w2 ⟨rfl, D2, pe⟩
        exact ⟨rfl, gk - 1, by omega, j + 1, by omega, by simp, D2, hr.next okj hpre ht pe hB⟩
      have GT := hide gt
      have PS := hide ps
      clear gt ps hst hr okj fullj hpre hB
      go_wp2_with fail
      refine (GT.out).mono ?_
      rintro e w1 ⟨v1, ws', rfl, ht⟩
      have C := hide (PS.out v1 ws' w1 ht)
      clear ht
      go_wp2_with fail
      refine (C.out).mono ?_
      rintro e w2 ⟨rfl, k', m1, m2⟩
      have M1 := hide m1
      have M2 := hide m2
      clear m1 m2
      go_wp2_with fail
      go_roundg k'
      case measure => exact M1.out
      case rel => exact M2.out
    · have hje : j = t := by omega
      have HK := hide (And.intro hje hr)
      clear hkj hst hje hr
      go_wp2_with fail
      go_ret2
      have e := HK.out
      rw [e.1] at e
      exact ⟨u6, D', rfl, e.2⟩

end Go.Proofs.YtahiolfelcmikaaGreat
