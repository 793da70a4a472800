/- passTo, giveAgain: the program's. -/
import Derived.Test.YtpilmkipbbengaaGreatDoorJaM
import Derived.Test.YtpilmkipbbengaaGreatDoorEndM
namespace Go.Proofs.YtpilmkipbbengaaGreatDoor
open Go.RowKit

/-- ORel, where a dose may be of this very tick; no order -/
structure OWRel (D : GSt) (R : RSt) : Prop where
  now : D.now = R.now
  lock : D.lock.v = R.lock
  l0 : 0 ≤ R.lock
  l1 : R.lock ≤ 400
  os : R.os = []
  fits : Fits D.ws R.lims R.doses R.now
  past : ∀ d ∈ R.doses, d.tick ≤ R.now
  nch : D.chs.length = R.chs.length
  ch : ∀ (k : Nat) (d : GCh) (c : RCh), D.chs[k]? = some d → R.chs[k]? = some c → OChRel R.now R.lock d c

theorem OWRel.strict {D : GSt} {R : RSt} (h : OWRel D R) (hp : ∀ d ∈ R.doses, d.tick < R.now) : ORel D [] R :=
  ⟨h.now, h.lock, h.l0, h.l1, h.os, by simp, h.fits, hp, h.nch, h.ch⟩
theorem ORel.weak {D : GSt} {R : RSt} (h : ORel D [] R) : OWRel D R :=
  ⟨h.now, h.lock, h.l0, h.l1, h.os, h.fits, fun d hd => Int.le_of_lt (h.past d hd), h.nch, h.ch⟩

theorem OWRel.pass {w w' : World} {b : Nat} {D D' : GSt} {vc vw : Value} {ods2 : List OrdD} {R : RSt} (rel : OWRel D R) (n0 : 0 ≤ R.now) (pe : PEnd w w' b D D' vc vw [] ods2 R.lims R.doses) : ods2 = [] ∧ OWRel D' { R with now := R.now + 1 } := by
  have e1 := rel.now
  obtain ⟨lie, hp, lock, num, fits, chs, osm, late, foot, frm⟩ := pe
  rw [e1] at hp fits chs osm late
  refine ⟨?_, by rw [hp], by rw [lock]; exact rel.lock, rel.l0, rel.l1, rel.os, fits, fun d hd => ?_, by rw [chs.1]; exact rel.nch, ?_⟩
  · have := osm.1
    exact List.eq_nil_of_length_eq_zero (by simpa using this)
  · have := rel.past d hd
    show d.tick ≤ R.now + 1
    omega
  · intro k d c hk hc
    obtain ⟨d0, hd0, c1, c2, hcase⟩ := chs.2 k d hk
    obtain ⟨r1, r2, r3, r4, r5⟩ := rel.ch k d0 c hd0 hc
    rcases hcase with ⟨q1, q2⟩ | ⟨q1, q2, e, cb, he, ht⟩
    · refine ⟨by rw [c1, r1], ?_, ?_, ?_, by rw [c2, r5]⟩
      · rw [q1, r2]
        cases hent : d.ent with
        | none =>
          have := r3 (by rw [← q2]; exact hent)
          unfold wbase
          by_cases q : c.til < 0
          · simp [q]
          · have q1 : ¬ R.now < c.til := by omega
            have q2 : ¬ R.now + 1 < c.til := by omega
            simp [q, q1, q2]
        | some x =>
          have h1 := late _ (end_in lie hk hent)
          have h2 := r4 x.1 x.2 (by rw [← q2]; exact hent)
          have q1 : R.now < c.til := by omega
          have q2 : R.now + 1 < c.til := by omega
          unfold wbase
          simp [q1, q2]
      · intro hent
        have := r3 (by rw [← q2]; exact hent); show c.til < 0 ∨ c.til ≤ R.now + 1; omega
      · intro e cb hent
        have h1 := late _ (end_in lie hk hent)
        have h2 := r4 e cb (by rw [← q2]; exact hent)
        exact ⟨h2.1, by show R.now + 1 < c.til; omega⟩
    · have h2 := r4 e cb he
      have hp0 : 0 ≤ c.til := by omega
      refine ⟨by rw [c1, r1], ?_, ?_, ?_, by rw [c2, r5]⟩
      · unfold wbase
        have q : ¬ c.til < 0 := by omega
        have q2 : ¬ R.now + 1 < c.til := by omega
        simp [q, q1, q2]
      · intro _; show c.til < 0 ∨ c.til ≤ R.now + 1; omega
      · intro e' cb' h'; rw [q2] at h'; cases h'

/-- on the way through Open -/
structure OpO (w wr : World) (b : Nat) (D D' : GSt) (vc vw : Value) (R' : RSt) : Prop where
  lie : QAt wr b D' vc vw [] R'.doses
  rel : OWRel D' R'
  foot : ∀ x, QF b D' vc vw [] x → QF b D vc vw [] x ∨ w.heap.size ≤ x
  frm : Frm (QF b D vc vw []) w wr

theorem OpO.passed {w wr w2 : World} {b : Nat} {D D' D2 : GSt} {vc vw : Value} {ods2 : List OrdD} {R' : RSt} (h : OpO w wr b D D' vc vw R') (n0 : 0 ≤ R'.now) (pe : PEnd wr w2 b D' D2 vc vw [] ods2 R'.lims R'.doses) :
    OpO w w2 b D D2 vc vw { R' with now := R'.now + 1 } := by
  have s1 := h.frm.size
  obtain ⟨rfl, rel2⟩ := h.rel.pass n0 pe
  have hlk := pe.lock
  refine ⟨⟨pe.lie, ?_⟩, rel2, ?_, ?_⟩
  · rw [hlk]; exact h.lie.rowP pe.frm
  · rintro x (hx | hx)
    · rcases pe.foot x hx with q | q
      · exact h.foot x (Or.inl q)
      · exact Or.inr (by omega)
    · rw [hlk] at hx; exact h.foot x (Or.inr hx)
  · refine h.frm.trans2 pe.frm fun x hx e => ?_
    rcases h.foot x (Or.inl e) with q | q
    · exact q
    · omega

theorem OpO.keep {w wr w2 : World} {b : Nat} {D D' : GSt} {vc vw : Value} {R' : RSt} (h : OpO w wr b D D' vc vw R') (k : Keep wr w2) : OpO w w2 b D D' vc vw R' :=
  ⟨h.lie.keep k, h.rel, h.foot, h.frm.trans2 k fun _ _ e => e.elim⟩

theorem OpO.given {w wr w2 : World} {b : Nat} {D D' : GSt} {vc vw : Value} {R' : RSt} {ws' : List Wd} {vg : Value} {k : Nat} {a : Int} (h : OpO w wr b D D' vc vw R') (ge : GiveEnd wr w2 b D' vc vw [] (shareL R'.now k [] a).1 ws' vg R'.lims (R'.doses ++ [⟨R'.now, k, a⟩]) R'.now) :
    OpO w w2 b D { D' with ws := ws', lock := ⟨D'.lock.v, vg⟩ } vc vw { R' with doses := R'.doses ++ [⟨R'.now, k, a⟩] } := by
  have s1 := h.frm.size
  have e : (shareL R'.now k [] a).1 = [] := rfl
  rw [e] at ge
  obtain ⟨lie, fits, foot, new, frm⟩ := ge
  refine ⟨lie, ⟨h.rel.now, h.rel.lock, h.rel.l0, h.rel.l1, h.rel.os, fits, ?_, h.rel.nch, h.rel.ch⟩, ?_, ?_⟩
  · intro d hd
    rcases List.mem_append.1 hd with hd | hd
    · exact h.rel.past d hd
    · simp at hd; subst hd; exact Int.le_refl _
  · rintro x (hx | hx)
    · exact h.foot x (Or.inl (pf_sub foot (fun _ q => q) hx))
    · rcases new x hx with q | q
      · exact h.foot x (Or.inr q)
      · exact Or.inr (by omega)
  · refine h.frm.trans2 frm fun x hx e => ?_
    rcases h.foot x e with q | q
    · exact q
    · omega

set_option maxRecDepth 100000 in
set_option maxHeartbeats 1600000 in
theorem passTo_any (b : Nat) (D D0 : GSt) (vc vw : Value) (R : RSt) (t : Int) (w w0 : World) (h : OpO w w0 b D D0 vc vw R) (hl : ∀ l ∈ R.lims, 1 ≤ l.win) (nl : R.lims.length ≤ 6) (nc : R.chs.length ≤ 4) (n0 : 0 ≤ R.now) (h0 : R.now ≤ t) (h1 : t ≤ 400) :
    Calls Tryz.prog 58 #[ptr b 0, I t] w0 fun e w' => e = .returned (.tuple #[]) ∧ ∃ D', OpO w w' b D D' vc vw { R with now := t } := by
  have H := hide (And.intro h (And.intro hl nc))
  have hn0 : w0.cell? ⟨b, 0, none⟩ = some (I R.now) := by
    obtain ⟨sl, ag⟩ := h.lie.p.g.ag
    rw [ag.head.cell, ← h.rel.now]; rfl
  clear h hl nc
  go_enter Tryz.func58, Tryz.ntmps58
  go_wp2_with fail
  go_loopg [] (t - R.now).toNat (fun q wr => ∃ n : Int, R.now ≤ n ∧ n ≤ t ∧ (q : Int) = t - n ∧ wr.cell? ⟨b, 0, none⟩ = some (I n) ∧ Hid (∃ D', OpO w wr b D D' vc vw { R with now := n }))
  case atStart => exact ⟨R.now, by omega, by omega, by omega, hn0, D0, (H.out).1⟩
  case round =>
    obtain ⟨n, g1, g2, hq, hc, hst⟩ := hrel
    by_cases hnt : n < t
    · obtain ⟨D', hr⟩ := hst.out
      have e1 : D'.now = n := hr.rel.now
      have ps : Calls Tryz.prog 89 #[ptr b 0] wr fun e w2 => e = .returned (.tuple #[]) ∧ ∃ k' : Nat, k' < gk ∧ ∃ n : Int, R.now ≤ n ∧ n ≤ t ∧ (k' : Int) = t - n ∧ w2.cell? ⟨b, 0, none⟩ = some (I n) ∧ Hid (∃ D', OpO w w2 b D D' vc vw { R with now := n }) := by
        refine (opass_all b D' vc vw [] R.lims R.doses wr hr.lie.p (by rw [e1]; exact hr.rel.fits) (H.out).2.1 (by rw [e1]; exact hr.rel.past) (by rw [hr.rel.fits.1]; exact nl) (by rw [hr.rel.nch]; exact (H.out).2.2) (by simp) (by omega) (by omega)).mono ?_
        rintro e w2 ⟨rfl, D2, ods2, pe⟩
        have hz := hr.passed (by show 0 ≤ n; omega) pe
        obtain ⟨sl2, ag2⟩ := hz.lie.p.g.ag
        refine ⟨rfl, gk - 1, by omega, n + 1, by omega, by omega, by omega, ?_, D2, hz⟩
        have hnow : D2.now = n + 1 := hz.rel.now
        rw [ag2.head.cell, ← hnow]; rfl
      have PS := hide ps
      clear ps hr e1 hst
      go_wp2_with fail
      refine (PS.out).mono ?_
      rintro e w2 ⟨rfl, k', m1, m2⟩
      have M1 := hide m1
      have M2 := hide m2
      clear m1 m2
      go_wp2_with fail
      go_roundg k'
      case measure => exact M1.out
      case rel => exact M2.out
    · have hnn : n = t := by omega
      subst hnn
      clear hq
      go_wp2_with fail
      go_end0
      exact ⟨rfl, hst.out⟩

end Go.Proofs.YtpilmkipbbengaaGreatDoor

/- giveAgain: the program's. -/
namespace Go.Proofs.YtpilmkipbbengaaGreatDoor
open Go.RowKit

/-- what giveAgain leaves -/
def AgainEnd (w w' : World) (b : Nat) (D : GSt) (vc vw : Value) (R : RSt) (ds : List Ds) (now : Int) : Prop :=
  Frm (QF b D vc vw []) w w' ∧ (jbrk R.lims [] ds = 0 → ∃ D', OpO w w' b D D' vc vw { R with now := now, doses := ds })

theorem OpO.trans {w w1 w2 : World} {b : Nat} {D D1 D2 : GSt} {vc vw : Value} {R1 R2 : RSt} (h : OpO w w1 b D D1 vc vw R1) (k : OpO w1 w2 b D1 D2 vc vw R2) : OpO w w2 b D D2 vc vw R2 := by
  have s1 := h.frm.size
  refine ⟨k.lie, k.rel, fun x hx => ?_, h.frm.trans2 k.frm fun x hx e => ?_⟩
  · rcases k.foot x hx with q | q
    · exact h.foot x q
    · exact Or.inr (by omega)
  · rcases h.foot x e with q | q
    · exact q
    · omega

theorem OpO.self {w w1 : World} {b : Nat} {D D1 : GSt} {vc vw : Value} {R1 : RSt} (h : OpO w w1 b D D1 vc vw R1) : OpO w1 w1 b D1 D1 vc vw R1 := ⟨h.lie, h.rel, fun _ hx => Or.inl hx, Frm.refl _ _⟩

theorem jbrk_step {lims : List Lim} {ds : List Ds} {j : Nat} {d : Ds} (h : ds[j]? = some d) : jbrk lims (ds.take j) (ds.drop j) = if rroom (ds.take j) lims d.ch.toNat d.tick < d.amt then j + 1 else jbrk lims (ds.take (j + 1)) (ds.drop (j + 1)) := by
  obtain ⟨hj, e⟩ := List.getElem?_eq_some_iff.1 h
  rw [List.drop_eq_getElem_cons hj, e, jbrk, List.take_add_one, h]
  simp only [List.length_take, Option.toList]
  rw [Nat.min_eq_left (by omega)]

set_option maxRecDepth 100000 in
set_option maxHeartbeats 3200000 in
theorem giveAgain_any (b : Nat) (D : GSt) (vc vw : Value) (R : RSt) (ds : List Ds) (v : Value) (now : Int) (w : World) (h : QAt w b D vc vw [] []) (rel : ORel D [] R) (hR0 : R.now = 0) (hR1 : R.doses = []) (ok : R.Ok) (last : Ds) (hj : JOk R.chs.length last ds now)
    (hv : w.ownsRow 0 100 3 v ds.length (ds.flatMap dsC)) (hvd : ∀ x, v.ownBlock = some x → ¬ QF b D vc vw [] x) :
    Calls Tryz.prog 27 #[ptr b 0, v, I now] w fun e w' => e = .returned (I (jbrk R.lims [] ds : Nat)) ∧ AgainEnd w w' b D vc vw R ds now := by
  obtain ⟨ad, cpd, hvv⟩ := row_slice hv
  subst hvv
  have nc1 := ok.nc1
  have hlen : (ds.length : Int) ≤ 4 * now := hj.len (by omega)
  have now1 := hj.n2
  have now0 := hj.n1
  have st0 : OpO w w b D D vc vw { R with now := 0, doses := [] } := by
    refine ⟨h, ?_, fun x hx => Or.inl hx, Frm.refl _ _⟩
    have := rel.weak
    cases R
    simp only at hR0 hR1
    subst hR0; subst hR1
    exact this
  have H := hide (And.intro st0 (And.intro ok (And.intro hj (And.intro hv hvd))))
  clear h rel hR0 hR1 ok hj hv hvd st0
  go_enter Tryz.func27, Tryz.ntmps27
  go_wp2_with fail
  go_loopg [7, 8, 11] ds.length (fun q _ _ i wr => ∃ j : Nat, q + j = ds.length ∧ i = I j ∧ Hid (∃ n D', OpO w wr b D D' vc vw { R with now := n, doses := ds.take j } ∧ 0 ≤ n ∧ (∀ d ∈ ds.drop j, n ≤ d.tick) ∧ n ≤ now ∧ jbrk R.lims [] ds = jbrk R.lims (ds.take j) (ds.drop j)))
  case atStart =>
    refine ⟨0, by omega, rfl, 0, D, (H.out).1, by omega, fun d hd => ?_, by omega, rfl⟩
    have := (H.out).2.2.1.each d hd
    omega
  case round =>
    obtain ⟨j, hq, rfl, hst⟩ := hrel
    obtain ⟨n, D', hop, p0, p1, p2, p3⟩ := hst.out
    have okR := (H.out).2.1
    have hr := row_frm (H.out).2.2.2.1 hop.frm (fun x hx e => (H.out).2.2.2.2 x hx e)
    have nl := okR.nl
    by_cases hj : j < ds.length
    · obtain ⟨d, hd⟩ : ∃ d, ds[j]? = some d := ⟨_, List.getElem?_eq_getElem hj⟩
      obtain ⟨g, cap, hv, -, hcell, -⟩ := row_at hr (fun _ => rfl) hd (by decide)
      injection hv with hv1 hv2 hv3
      subst hv1
      have d0 := hcell 0 (by decide)
      have d1 := hcell 1 (by decide)
      have d2 := hcell 2 (by decide)
      simp only [Nat.add_zero, dsC, List.getElem?_cons_zero, List.getElem?_cons_succ] at d0 d1 d2
      have hmem := List.mem_of_getElem? hd
      have hdd := (H.out).2.2.1.each d hmem
      have hdrop : ds.drop j = d :: ds.drop (j + 1) := by
        obtain ⟨hj', e⟩ := List.getElem?_eq_some_iff.1 hd
        rw [List.drop_eq_getElem_cons hj', e]
      have hnd : n ≤ d.tick := p1 d (by rw [hdrop]; simp)
      obtain ⟨k, hk⟩ := Int.eq_ofNat_of_zero_le hdd.2.2.1
      have hts : ds.take (j + 1) = ds.take j ++ [d] := by rw [List.take_add_one, hd]; rfl
      have PT : Hid (∀ W, Hid (Keep wr W ∧ Blk W wr.heap.size #[I d.tick, I d.ch, I d.amt] 100) → Calls Tryz.prog 58 #[ptr b 0, I d.tick] W fun e w' => e = .returned (.tuple #[]) ∧ w'.cell? ⟨wr.heap.size, 1, none⟩ = some (I d.ch) ∧ w'.cell? ⟨wr.heap.size, 2, none⟩ = some (I d.amt) ∧ wr.heap.size < w'.heap.size ∧ Hid (∃ D', OpO w w' b D D' vc vw { R with now := d.tick, doses := ds.take j })) := by
        intro W kW
        have hoW := hop.keep (kW.out).1
        refine (passTo_any b D' D' vc vw { R with now := n, doses := ds.take j } d.tick W W hoW.self (fun l hl => (okR.lims l hl).w0) nl nc1 p0 hnd (by omega)).mono ?_
        rintro e w' ⟨rfl, D2, h2⟩
        have bl := (kW.out).2.frm h2.frm (fun e => Nat.lt_irrefl _ (hop.lie.lt _ e))
        exact ⟨rfl, by rw [bl.cell]; rfl, by rw [bl.cell]; rfl, bl.lt, D2, hoW.trans h2⟩
      have hstep := jbrk_step (lims := R.lims) hd
      have RM : Hid (∀ W, Hid (∃ D', OpO w W b D D' vc vw { R with now := d.tick, doses := ds.take j }) → Calls Tryz.prog 30 #[ptr b 0, I d.ch] W fun e w' => e = .returned (I (rroom (ds.take j) R.lims d.ch.toNat d.tick)) ∧ ∃ m, w' = W.drewN m) := by
        intro W hW
        obtain ⟨D2, h2⟩ := hW.out
        obtain ⟨sl2, ag2⟩ := h2.lie.p.g.ag
        have e3 : W.cell? ⟨b, 3, none⟩ = some vw := by rw [ag2.head.cell]; rfl
        exact room_any b vw D2.ws R.lims (ds.take j) d.tick d.ch W e3 h2.lie.p.g.ws h2.rel.fits (by omega) (by omega) (by rw [h2.rel.fits.1]; exact nl)
      have GV : Hid (∀ W, Hid (∃ D', OpO w W b D D' vc vw { R with now := d.tick, doses := ds.take j }) → d.amt ≤ rroom (ds.take j) R.lims d.ch.toNat d.tick → Calls Tryz.prog 59 #[ptr b 0, I d.ch, I d.amt] W fun e w' => e = .returned (.tuple #[]) ∧ ∃ k' : Nat, k' < gk ∧ ∃ j' : Nat, k' + j' = ds.length ∧ I ((j : Int) + 1) = I j' ∧ Hid (∃ n D', OpO w w' b D D' vc vw { R with now := n, doses := ds.take j' } ∧ 0 ≤ n ∧ (∀ d ∈ ds.drop j', n ≤ d.tick) ∧ n ≤ now ∧ jbrk R.lims [] ds = jbrk R.lims (ds.take j') (ds.drop j'))) := by
        intro W hW ha
        obtain ⟨D2, h2⟩ := hW.out
        rw [hk, Int.toNat_natCast] at ha
        rw [hk]
        refine (ogive_at d.tick b D2 vc vw [] R.lims (ds.take j) d.amt k W h2.rel.now h2.lie ⟨by omega, by simp, by simp, by simp, by simp, by simp⟩ (by rw [h2.rel.nch]; show k < R.chs.length; omega) (by rw [h2.rel.nch]; exact nc1) h2.rel.fits (fun l hl => (okR.lims l hl).w0) (by omega) (by omega) ha (by rw [h2.rel.fits.1]; exact nl) (by simp; omega)).mono ?_
        rintro e w' ⟨rfl, ws', vg, ge⟩
        refine ⟨rfl, gk - 1, by omega, j + 1, by omega, by simp, d.tick, { D2 with ws := ws', lock := ⟨D2.lock.v, vg⟩ }, ?_, by omega, ?_, by omega, ?_⟩
        · have h3 := h2.given ge
          rw [hts]
          have e : (⟨d.tick, k, d.amt⟩ : Ds) = d := by rw [← hk]
          rw [← e]
          exact h3
        · intro x hx
          have hp := (List.pairwise_cons.1 (H.out).2.2.1.rise).2
          rw [← List.take_append_drop j ds, List.pairwise_append, hdrop] at hp
          have := (List.pairwise_cons.1 hp.2.1).1 x hx
          rcases this with q | q <;> omega
        · rw [p3, hstep, if_neg (by rw [hk, Int.toNat_natCast]; omega)]
      have BAD : Hid (∀ W, Hid (∃ D', OpO w W b D D' vc vw { R with now := d.tick, doses := ds.take j }) → rroom (ds.take j) R.lims d.ch.toNat d.tick < d.amt → I ((j : Int) + 1) = I (jbrk R.lims [] ds : Nat) ∧ AgainEnd w W b D vc vw R ds now) := by
        intro W hW hlt
        obtain ⟨D2, h2⟩ := hW.out
        have e : jbrk R.lims [] ds = j + 1 := by rw [p3, hstep, if_pos hlt]
        refine ⟨by rw [e]; simp, h2.frm, fun h0 => ?_⟩
        omega
      have hkk : d.ch = (k : Int) := hk
      have BD := BAD
      clear hcell hstep hts hdrop hd hmem hst hop hr p0 p1 p2 p3 hv2 hv3 okR
      clear hk hkk
      go_wp2_with fail
      refine (PT.out _ ⟨(Frm.refl _ _).alloc _, Blk.new _ _ _⟩).mono ?_
      rintro e w2 ⟨rfl, x1, x2, x3, K2⟩
      have K2N : Hid (∀ x, Hid (∃ D', OpO w (w2.drewN x) b D D' vc vw { R with now := d.tick, doses := ds.take j })) := fun x => by
        obtain ⟨D2, h2⟩ := K2.out
        exact ⟨D2, h2.keep ((Frm.refl _ _).drewN x)⟩
      have RM2 : Hid (∀ x, Calls Tryz.prog 30 #[ptr b 0, I d.ch] (w2.drewN x) fun e w' => e = .returned (I (rroom (ds.take j) R.lims d.ch.toNat d.tick)) ∧ ∃ m, w' = (w2.drewN x).drewN m) := fun x => RM.out _ (K2N.out x)
      generalize hrm : rroom (ds.take j) R.lims d.ch.toNat d.tick = rm at *
      clear hrm K2 RM PT
      by_cases hlt : rm < d.amt
      · go_wp2_with fail
        go_quiet ((go_at_call 30; exact Calls.quiet_of (RM2.out _)))
        go_wp2_with fail
        go_ret
        have B := BAD.out _ (K2N.out nq) hlt
        exact ⟨congrArg Ending.returned B.1, B.2⟩
      · go_wp2_with fail
        go_quiet ((go_at_call 30; exact Calls.quiet_of (RM2.out _)))
        go_wp2_with fail
        refine (GV.out _ (K2N.out nq) (by omega)).mono ?_
        rintro e w3 ⟨rfl, k', m1, m2⟩
        have M1 := hide m1
        have M2 := hide m2
        clear m1 m2
        go_wp2_with fail
        go_roundg k'
        case measure => exact M1.out
        case rel => exact M2.out
    · have hje : j = ds.length := by omega
      subst hje
      have e0 : jbrk R.lims [] ds = 0 := by rw [p3, List.drop_length]; simp [jbrk]
      rw [List.take_length] at hop
      have PT : Hid (Calls Tryz.prog 58 #[ptr b 0, I now] wr fun e w' => e = .returned (.tuple #[]) ∧ Hid (AgainEnd w w' b D vc vw R ds now)) := by
        refine (passTo_any b D D' vc vw { R with now := n, doses := ds } now w wr hop (fun l hl => (okR.lims l hl).w0) nl nc1 p0 p2 (by omega)).mono ?_
        rintro e w' ⟨rfl, D2, h2⟩
        exact ⟨rfl, h2.frm, fun _ => ⟨D2, h2⟩⟩
      have E0 := hide e0
      clear hst hop hr p0 p1 p2 p3 okR e0
      go_wp2_with fail
      refine (PT.out).mono ?_
      rintro e w2 ⟨rfl, K2⟩
      go_wp2_with fail
      go_ret
      exact ⟨by rw [E0.out]; rfl, K2.out⟩

end Go.Proofs.YtpilmkipbbengaaGreatDoor

/- restAll: the program's. -/
namespace Go.Proofs.YtpilmkipbbengaaGreatDoor
open Go.RowKit

def restC (c : RCh) : RCh := { c with rests := true }

/-- the first j channels rest -/
def restJ (chs : List RCh) (j : Nat) : List RCh := (chs.take j).map restC ++ chs.drop j

theorem restJ_get {chs : List RCh} {j : Nat} {c : RCh} (h : chs[j]? = some c) : (restJ chs j)[j]? = some c := by
  have hj := (List.getElem?_eq_some_iff.1 h).1
  unfold restJ
  rw [List.getElem?_append_right (by simp; omega)]
  simp only [List.length_map, List.length_take]
  rw [Nat.min_eq_left (by omega), Nat.sub_self, List.getElem?_drop]
  simpa using h

theorem restJ_succ {chs : List RCh} {j : Nat} {c : RCh} (h : chs[j]? = some c) : restJ chs (j + 1) = (restJ chs j).set j (restC c) := by
  obtain ⟨hj, e⟩ := List.getElem?_eq_some_iff.1 h
  unfold restJ
  have hl : ((chs.take j).map restC).length = j := by simp; omega
  rw [List.set_append_right _ _ (by omega), hl, Nat.sub_self, List.drop_eq_getElem_cons hj, List.set_cons_zero, List.take_add_one, h]
  simp

theorem restJ_len (chs : List RCh) (j : Nat) (h : j ≤ chs.length) : (restJ chs j).length = chs.length := by
  unfold restJ; simp; omega

set_option maxRecDepth 100000 in
set_option maxHeartbeats 1600000 in
theorem restAll_any (b : Nat) (D : GSt) (vc vw : Value) (ods : List OrdD) (R : RSt) (w : World) (h : PAt w b D vc vw ods) (rel : ORel D ods R) (nc : R.chs.length ≤ 4) :
    Calls Tryz.prog 28 #[ptr b 0] w fun e w' => e = .returned (.tuple #[]) ∧ Goes w b D vc vw ods { R with chs := R.chs.map restC } w' := by
  obtain ⟨ac, cp, hvc⟩ := row_slice h.g.chs
  obtain ⟨sl, ag⟩ := h.g.ag
  have c2 : w.cell? ⟨b, 2, none⟩ = some (.slice ac R.chs.length cp) := by rw [ag.head.cell, ← rel.nch, ← hvc]; rfl
  have G0 : Goes w b D vc vw ods { R with chs := restJ R.chs 0 } w := by
    have e : restJ R.chs 0 = R.chs := by simp [restJ]
    rw [e]
    exact Goes.refl h rel
  have H := hide (And.intro G0 hvc)
  have hn := rel.nch
  rw [hn] at H
  clear h rel ag hvc G0
  go_enter Tryz.func28, Tryz.ntmps28
  go_wp2_with fail
  go_loopg [2, 8] R.chs.length (fun q _ i wr => ∃ j : Nat, q + j = R.chs.length ∧ i = I j ∧ Hid (Goes w b D vc vw ods { R with chs := restJ R.chs j } wr))
  case atStart => exact ⟨0, by omega, rfl, (H.out).1⟩
  case round =>
    obtain ⟨j, hq, rfl, hst⟩ := hrel
    by_cases hj : j < R.chs.length
    · obtain ⟨c, hc⟩ : ∃ c, R.chs[j]? = some c := ⟨_, List.getElem?_eq_getElem hj⟩
      obtain ⟨D', ods', h', rel', ft, fr, hlk⟩ := hst.out
      have hcj := restJ_get hc
      have hnl : D'.chs.length = R.chs.length := by rw [rel'.nch]; exact restJ_len _ _ (by omega)
      obtain ⟨d, hd⟩ : ∃ d, D'.chs[j]? = some d := ⟨_, List.getElem?_eq_getElem (by omega)⟩
      obtain ⟨r1, r2, r3, r4, r5⟩ := rel'.ch j d c hd hcj
      obtain ⟨g, cap, hv, -, -, -, d3, -, hfz, -⟩ := h'.g.chan hd
      obtain ⟨sl', ag'⟩ := h'.g.ag
      have e2 : wr.cell? ⟨b, 2, none⟩ = some (.slice (some ⟨g, 0, none⟩) R.chs.length cap) := by rw [ag'.head.cell, ← hnl, ← hv]; rfl
      have f3 := hfz (j * 5 + 3)
      obtain ⟨p1, p2, p3⟩ := h'.setCh (i := 3) (c' := { d with rests := true }) hd hv (by decide) rfl rfl (u := .bool true) rfl
      have G : Hid (Goes w b D vc vw ods { R with chs := restJ R.chs (j + 1) } (wr.setCell ⟨g, j * 5 + 3, none⟩ (.bool true))) := by
        rw [restJ_succ hc]
        have g1 : Goes wr b D' vc vw ods' { R with chs := (restJ R.chs j).set j (restC c) } (wr.setCell ⟨g, j * 5 + 3, none⟩ (.bool true)) :=
          ⟨_, ods', p1, rel'.setch hcj rfl rfl rfl rfl ⟨rfl, r2, r3, r4, r5⟩, fun x hx => Or.inl (p3 x hx), p2, rfl⟩
        exact g1.after fr ft hlk
      clear hst h' rel' ft fr hlk hcj hd r1 r2 r3 r4 r5 hv ag' hfz p1 p2 p3 hc hnl
      go_wp2_with fail
      go_roundg (gk - 1)
      case measure => omega
      case rel => exact ⟨j + 1, by omega, by simp, G.out⟩
    · have hje : j = R.chs.length := by omega
      subst hje
      have G : Hid (Goes w b D vc vw ods { R with chs := R.chs.map restC } wr) := by
        have := hst.out
        have e : restJ R.chs R.chs.length = R.chs.map restC := by simp [restJ]
        rw [e] at this
        exact this
      clear hst
      go_wp2_with fail
      go_end0
      exact ⟨rfl, G.out⟩

end Go.Proofs.YtpilmkipbbengaaGreatDoor
