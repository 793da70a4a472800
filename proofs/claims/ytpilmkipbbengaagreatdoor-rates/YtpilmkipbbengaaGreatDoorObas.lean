/- Basal, Room, Wait, with orders. -/
import Derived.Test.YtpilmkipbbengaaGreatDoorTickM
import Derived.Test.YtpilmkipbbengaaGreatDoorDM
import Derived.Test.YtpilmkipbbengaaGreatDoorMach2
namespace Go.Proofs.YtpilmkipbbengaaGreatDoor
open Go.RowKit

theorem ORel.olen {D : GSt} {ods : List OrdD} {R : RSt} (rel : ORel D ods R) (ok : R.Ok) (full : R.Full) : ods.length ≤ 3300 := by
  have := full_os ok full
  have q1 := congrArg List.length rel.os
  simp only [List.length_map] at q1
  omega

theorem PAt.esLen {w : World} {b : Nat} {D : GSt} {vc vw : Value} {ods : List OrdD} (h : PAt w b D vc vw ods) (nc : D.chs.length ≤ 4) (ho : ods.length ≤ 3300) : D.es.length ≤ 6604 := by
  have q1 := h.g.perm.length_eq
  have q2 := h.o.xtp.length_eq
  have q3 := gents_len D.chs
  have q4 := begs_len ods
  have q5 := fins_len ods
  simp only [List.length_append] at q1 q2
  omega

theorem ohasCh (b : Nat) (D : GSt) (vc vw : Value) (ods : List OrdD) (R : RSt) (k : Int) (w : World) (h : PAt w b D vc vw ods) (rel : ORel D ods R) (ok : R.Ok) :
    Calls Tryz.prog 29 #[ptr b 0, I k] w fun e w' => e = .returned (.bool (isCh R k)) ∧ w' = w := by
  obtain ⟨sl, ag⟩ := h.g.ag
  obtain ⟨a, cp, hv⟩ := row_slice h.g.chs
  have c2 : w.cell? ⟨b, 2, none⟩ = some (.slice a D.chs.length cp) := by rw [ag.head.cell, ← hv]; rfl
  have hn : D.chs.length ≤ 4 := by rw [rel.nch]; exact ok.nc1
  have e : (decide (0 ≤ k) && decide (k ≤ (D.chs.length : Int) - 1)) = isCh R k := by
    unfold isCh
    rw [rel.nch]
    congr 1
    apply decide_eq_decide.2
    omega
  have := hasCh_any b a D.chs.length cp k w c2 hn
  rw [e] at this
  exact this

set_option maxRecDepth 100000 in
set_option maxHeartbeats 800000 in
theorem oRoom_no (b : Nat) (D : GSt) (vc vw : Value) (ods : List OrdD) (R : RSt) (k : Int) (w : World) (h : PAt w b D vc vw ods) (rel : ORel D ods R) (ok : R.Ok) (hk : isCh R k = false) :
    Calls Tryz.prog 14 #[ptr b 0, I k] w fun e w' => e = .returned (.tuple #[I 0, I 1]) ∧ w' = w := by
  have HC := hide (ohasCh b D vc vw ods R k w h rel ok)
  rw [hk] at HC
  clear h rel ok hk
  go_enter Tryz.func14, Tryz.ntmps14
  go_wp2_with fail
  refine (HC.out).mono ?_
  rintro e w' ⟨rfl, rfl⟩
  go_wp2_with fail
  go_ret2
  exact ⟨rfl, rfl⟩

set_option maxRecDepth 100000 in
set_option maxHeartbeats 800000 in
theorem oRoom_yes (b : Nat) (D : GSt) (vc vw : Value) (ods : List OrdD) (R : RSt) (k : Int) (w : World) (h : PAt w b D vc vw ods) (rel : ORel D ods R) (ok : R.Ok) (hk : isCh R k = true) :
    Calls Tryz.prog 14 #[ptr b 0, I k] w fun e w' => e = .returned (.tuple #[I (rroom R.doses R.lims k.toNat R.now), I 0]) ∧ ∃ n, w' = w.drewN n := by
  have HC := hide (ohasCh b D vc vw ods R k w h rel ok)
  rw [hk] at HC
  obtain ⟨sl, ag⟩ := h.g.ag
  have c3 : w.cell? ⟨b, 3, none⟩ = some vw := by rw [ag.head.cell]; rfl
  have hk' := isCh_true hk
  have hc4 := ok.nc1
  have RM := hide (room_any b vw D.ws R.lims R.doses R.now k w c3 h.g.ws rel.fits hk'.1 (by omega) (by rw [rel.fits.1]; exact ok.nl))
  clear h rel ok hk ag c3 hk' hc4
  go_enter Tryz.func14, Tryz.ntmps14
  go_wp2_with fail
  refine (HC.out).mono ?_
  rintro e w' ⟨rfl, rfl⟩
  go_wp2_with fail
  refine (RM.out).mono ?_
  rintro e w2 ⟨rfl, n, rfl⟩
  go_wp2_with fail
  go_ret2
  exact ⟨rfl, n, rfl⟩

set_option maxRecDepth 100000 in
set_option maxHeartbeats 800000 in
theorem oWait_no (b : Nat) (D : GSt) (vc vw : Value) (ods : List OrdD) (R : RSt) (k a : Int) (w : World) (h : PAt w b D vc vw ods) (rel : ORel D ods R) (ok : R.Ok) (hk : isCh R k = false ∨ a < 0 ∨ 1000 < a) :
    Calls Tryz.prog 78 #[ptr b 0, I k, I a] w fun e w' => e = .returned (.tuple #[I 0, .bool false, I 1]) ∧ w' = w := by
  have HC := hide (ohasCh b D vc vw ods R k w h rel ok)
  have WI := hide (within_any a 0 1000 w)
  clear h rel ok
  cases hh : isCh R k with
  | false =>
    rw [hh] at HC
    go_enter Tryz.func78, Tryz.ntmps78
    go_wp2_with (go_at_call 29; refine (HC.out).mono ?_; rintro e w' ⟨rfl, rfl⟩)
    go_ret3
    exact ⟨rfl, rfl⟩
  | true =>
    rw [hh] at HC
    have ha : a < 0 ∨ 1000 < a := by
      rcases hk with h | h
      · rw [hh] at h; cases h
      · exact h
    rw [within_no ha] at WI
    go_enter Tryz.func78, Tryz.ntmps78
    go_wp2_with (first | (go_at_call 29; refine (HC.out).mono ?_; rintro e w' ⟨rfl, hw⟩; subst hw) | (go_at_call 60; refine (WI.out).mono ?_; rintro e w' ⟨rfl, hw⟩; subst hw))
    go_ret3
    exact ⟨rfl, rfl⟩

set_option maxRecDepth 100000 in
set_option maxHeartbeats 800000 in
theorem oWait_yes (b : Nat) (D : GSt) (vc vw : Value) (ods : List OrdD) (R : RSt) (k a : Int) (w : World) (h : PAt w b D vc vw ods) (rel : ORel D ods R) (ok : R.Ok) (hk : isCh R k = true) (a0 : 0 ≤ a) (a1 : a ≤ 1000) :
    Calls Tryz.prog 78 #[ptr b 0, I k, I a] w fun e w' => (∃ r, e = .returned (waitV r) ∧ WaitOk R k.toNat a r) ∧ ∃ n, w' = w.drewN n := by
  have HC := hide (ohasCh b D vc vw ods R k w h rel ok)
  rw [hk] at HC
  have WI := hide (within_any a 0 1000 w)
  rw [within_yes a0 a1] at WI
  obtain ⟨sl, ag⟩ := h.g.ag
  have c3 : w.cell? ⟨b, 3, none⟩ = some vw := by rw [ag.head.cell]; rfl
  have hk' := isCh_true hk
  have hc4 := ok.nc1
  have WT := hide (wait_any b vw D.ws R k a w c3 h.g.ws rel.fits ok (fun d hd => by have := rel.past d hd; omega) hk'.1 (by omega) a0 a1)
  clear h rel ok hk ag c3 hk' hc4
  go_enter Tryz.func78, Tryz.ntmps78
  go_wp2_with (first | (go_at_call 29; refine (HC.out).mono ?_; rintro e w' ⟨rfl, hw⟩; subst hw) | (go_at_call 60; refine (WI.out).mono ?_; rintro e w' ⟨rfl, hw⟩; subst hw) | fail)
  refine (WT.out).mono ?_
  rintro e w2 ⟨⟨r, rfl, hr⟩, n, rfl⟩
  have HR := hide hr
  clear hr
  cases r with
  | none =>
    simp only [wVal]
    go_wp2_with fail
    go_ret3
    exact ⟨⟨none, rfl, HR.out⟩, n, rfl⟩
  | some q =>
    simp only [wVal]
    go_wp2_with fail
    go_ret3
    exact ⟨⟨some q, rfl, HR.out⟩, n, rfl⟩

set_option maxRecDepth 100000 in
set_option maxHeartbeats 800000 in
theorem oBasal_no (b : Nat) (D : GSt) (vc vw : Value) (ods : List OrdD) (R : RSt) (k rate ticks : Int) (w : World) (h : PAt w b D vc vw ods) (rel : ORel D ods R) (ok : R.Ok) (hb : basalBad R k rate ticks = true) :
    Calls Tryz.prog 32 #[ptr b 0, I k, I rate, I ticks] w fun e w' => e = .returned (I 1) ∧ w' = w := by
  have HC := hide (ohasCh b D vc vw ods R k w h rel ok)
  have W1 := hide (within_any rate 0 1000 w)
  have W2 := hide (within_any ticks 0 400 w)
  clear h rel ok
  cases hh : isCh R k with
  | false =>
    rw [hh] at HC
    clear hb
    go_enter Tryz.func32, Tryz.ntmps32
    go_wp2_with (go_at_call 29; refine (HC.out).mono ?_; rintro e w' ⟨rfl, rfl⟩)
    go_ret
    exact ⟨rfl, rfl⟩
  | true =>
    rw [hh] at HC
    by_cases q1 : rate < 0 ∨ 1000 < rate
    · rw [within_no q1] at W1
      clear hb q1
      go_enter Tryz.func32, Tryz.ntmps32
      go_wp2_with (first | (go_at_call 29; refine (HC.out).mono ?_; rintro e w' ⟨rfl, hw⟩; subst hw) | (go_at_call 60; refine (W1.out).mono ?_; rintro e w' ⟨rfl, hw⟩; subst hw))
      go_ret
      exact ⟨rfl, rfl⟩
    · have q2 : ticks < 0 ∨ 400 < ticks := by
        simp [basalBad, hh] at hb
        omega
      rw [within_yes (by omega) (by omega)] at W1
      rw [within_no q2] at W2
      clear hb q1 q2
      go_enter Tryz.func32, Tryz.ntmps32
      go_wp2_with (go_at_call 29; refine (HC.out).mono ?_; rintro e w' ⟨rfl, hw⟩; subst hw)
      refine (W1.out).mono ?_
      rintro e w1 ⟨rfl, hw⟩
      subst hw
      go_wp2_with fail
      refine (W2.out).mono ?_
      rintro e w2 ⟨rfl, hw⟩
      subst hw
      go_wp2_with fail
      go_ret
      exact ⟨rfl, rfl⟩

/-- Cancel of a channel's end -/
theorem ocancel_ch (b : Nat) (D : GSt) (vc vw : Value) (w W : World) (h : GAt w b D vc vw) (nc : D.es.length ≤ 6604) (k : Nat) (c : GCh) (r : Int) (hk : D.chs[k]? = some c) (hW : Keep w W) (hh : W.heap = w.heap) :
    Calls Tryz.prog 63 #[ptr b 4, endV c.ent] W fun e w' => e = .returned (.tuple #[]) ∧ ∃ sl es', AgAt w' b 4 (gCells D.now D.lock vc vw sl D.num D.vo D.nv) 75 D.eb es' ∧ HeapN es'.length es' ∧ (∀ e ∈ es', e ∈ D.es) ∧ es'.Perm (gents (D.chs.set k { c with rate := r, ent := none }) ++ D.xt) ∧ Frm (AgF b D.eb D.es) w w' := by
  obtain ⟨sl, ag⟩ := h.ag
  have agW := ag.heapEq hh
  cases hent : c.ent with
  | none =>
    refine (cancel_nil b 4 W).mono ?_
    rintro e w' ⟨rfl, m, rfl⟩
    refine ⟨rfl, sl, D.es, agW.heapEq rfl, h.heap, fun _ he => he, by rw [gents_same { c with rate := r, ent := none } rfl D.chs k c hk hent]; exact h.perm, (hW.mono fun _ _ e => e.elim).drewN m⟩
  | some y =>
    obtain ⟨x, cb⟩ := y
    have hm : x ∈ D.es := h.perm.mem_iff.2 (List.mem_append_left _ (gents_in_mem hk hent))
    obtain ⟨i, hi⟩ := List.getElem?_of_mem hm
    refine (cancel_in b 4 _ 75 D.eb D.es i x W agW h.heap hi (by omega)).mono ?_
    rintro e w' ⟨rfl, e', -, sl', es', p, ag', pm, hp', hbx, hlp, fr⟩
    rw [gCells_sl] at ag'
    refine ⟨rfl, sl', es', ag', hp', fun e he => pm.mem_iff.2 (List.mem_cons_of_mem _ he), ?_, (hW.mono fun _ _ e => e.elim).trans fr⟩
    have q1 : (x :: es').Perm (x :: (gents (D.chs.set k { c with rate := r, ent := none }) ++ D.xt)) := (pm.symm.trans h.perm).trans ((gents_out (cb := cb) { c with rate := r, ent := none } rfl D.chs k c hk hent).append_right D.xt)
    exact q1.cons_inv

/-- a channel is another one -/
theorem ORel.setch {D D' : GSt} {ods : List OrdD} {R : RSt} {k : Nat} {c c' : RCh} {d' : GCh} (rel : ORel D ods R) (hc : R.chs[k]? = some c) (h1 : D'.now = D.now) (h2 : D'.lock = D.lock) (h3 : D'.ws = D.ws) (h4 : D'.chs = D.chs.set k d')
    (h5 : OChRel R.now R.lock d' c') : ORel D' ods { R with chs := R.chs.set k c' } := by
  have hkl : k < R.chs.length := (List.getElem?_eq_some_iff.1 hc).1
  have hn := rel.nch
  refine ⟨h1.trans rel.now, (congrArg Lk.v h2).trans rel.lock, rel.l0, rel.l1, rel.os, rel.trn, by rw [h3]; exact rel.fits, rel.past, by rw [h4]; simp [hn], ?_⟩
  intro j x y hx hy
  have hy : (R.chs.set k c')[j]? = some y := hy
  rw [h4] at hx
  by_cases q : k = j
  · subst q
    rw [List.getElem?_set_self (by omega)] at hx hy
    simp at hx hy
    subst hx; subst hy
    exact h5
  · rw [List.getElem?_set_ne q] at hx hy
    exact rel.ch j x y hx hy

/-- what a call leaves -/
def Goes (w : World) (b : Nat) (D : GSt) (vc vw : Value) (ods : List OrdD) (R : RSt) (w' : World) : Prop :=
  ∃ D' ods', PAt w' b D' vc vw ods' ∧ ORel D' ods' R ∧ (∀ x, PF b D' vc vw ods' x → PF b D vc vw ods x ∨ w.heap.size ≤ x) ∧ Frm (PF b D vc vw ods) w w' ∧ D'.lock = D.lock

theorem Goes.drewN {w w' : World} {b : Nat} {D : GSt} {vc vw : Value} {ods : List OrdD} {R : RSt} (h : Goes w b D vc vw ods R w') (n : Nat) : Goes w b D vc vw ods R (w'.drewN n) := by
  obtain ⟨D', ods', h1, h2, h3, h4, h5⟩ := h
  exact ⟨D', ods', h1.keep ((Frm.refl _ _).drewN n), h2, h3, h4.drewN n, h5⟩

end Go.Proofs.YtpilmkipbbengaaGreatDoor
