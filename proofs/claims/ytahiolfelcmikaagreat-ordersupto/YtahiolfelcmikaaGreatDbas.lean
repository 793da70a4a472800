/- Basal, Room, Wait. -/
import Derived.Test.YtahiolfelcmikaaGreatDrun
import Derived.Test.YtahiolfelcmikaaGreatRef7
namespace Go.Proofs.YtahiolfelcmikaaGreat
open Go.RowKit

set_option maxRecDepth 100000 in
set_option maxHeartbeats 800000 in
theorem hasCh_any (b : Nat) (a : Option Addr) (n cap : Nat) (k : Int) (w : World) (hc : w.cell? ⟨b, 2, none⟩ = some (.slice a n cap)) (hn : n ≤ 4) :
    Calls Tryz.prog 55 #[ptr b 0, I k] w fun e w' => e = .returned (.bool (decide (0 ≤ k) && decide (k ≤ (n : Int) - 1))) ∧ w' = w := by
  have WI := hide (within_any k 0 ((n : Int) - 1) w)
  go_enter Tryz.func55, Tryz.ntmps55
  go_wp2_with fail
  refine (WI.out).mono ?_
  rintro e w' ⟨rfl, rfl⟩
  go_wp2_with fail
  go_ret
  exact ⟨rfl, rfl⟩

theorem hasCh_rel (b : Nat) (D : DSt) (vc vw : Value) (R : RSt) (k : Int) (w : World) (h : DAt w b D vc vw) (rel : DRel D R) (ok : R.Ok) :
    Calls Tryz.prog 55 #[ptr b 0, I k] w fun e w' => e = .returned (.bool (isCh R k)) ∧ w' = w := by
  obtain ⟨sl, ag⟩ := h.ag
  obtain ⟨a, cp, hv⟩ := row_slice h.chs
  have c2 : w.cell? ⟨b, 2, none⟩ = some (.slice a D.chs.length cp) := by rw [ag.head.cell, ← hv]; rfl
  have hn : D.chs.length ≤ 4 := by rw [rel.nch]; exact ok.nc1
  have e : (decide (0 ≤ k) && decide (k ≤ (D.chs.length : Int) - 1)) = isCh R k := by
    unfold isCh
    rw [rel.nch]
    congr 1
    apply decide_eq_decide.2
    omega
  have := hasCh_any b a D.chs.length cp k w c2 hn
  rw [e] at this
  exact this

set_option maxRecDepth 100000 in
set_option maxHeartbeats 800000 in
theorem Room_no (b : Nat) (D : DSt) (vc vw : Value) (R : RSt) (k : Int) (w : World) (h : DAt w b D vc vw) (rel : DRel D R) (ok : R.Ok) (hk : isCh R k = false) :
    Calls Tryz.prog 27 #[ptr b 0, I k] w fun e w' => e = .returned (.tuple #[I 0, I 1]) ∧ w' = w := by
  have HC := hide (hasCh_rel b D vc vw R k w h rel ok)
  rw [hk] at HC
  clear h rel ok hk
  go_enter Tryz.func27, Tryz.ntmps27
  go_wp2_with fail
  refine (HC.out).mono ?_
  rintro e w' ⟨rfl, rfl⟩
  go_wp2_with fail
  go_ret2
  exact ⟨rfl, rfl⟩

set_option maxRecDepth 100000 in
set_option maxHeartbeats 800000 in
theorem Room_yes (b : Nat) (D : DSt) (vc vw : Value) (R : RSt) (k : Int) (w : World) (h : DAt w b D vc vw) (rel : DRel D R) (ok : R.Ok) (hk : isCh R k = true) :
    Calls Tryz.prog 27 #[ptr b 0, I k] w fun e w' => e = .returned (.tuple #[I (rroom R.doses R.lims k.toNat R.now), I 0]) ∧ ∃ n, w' = w.drewN n := by
  have HC := hide (hasCh_rel b D vc vw R k w h rel ok)
  rw [hk] at HC
  obtain ⟨sl, ag⟩ := h.ag
  have c3 : w.cell? ⟨b, 3, none⟩ = some vw := by rw [ag.head.cell]; rfl
  have hk' := isCh_true hk
  have hc4 := ok.nc1
  have RM := hide (room_any b vw D.ws R.lims R.doses R.now k w c3 h.ws rel.fits hk'.1 (by omega) (by rw [rel.fits.1]; exact ok.nl))
  clear h rel ok hk ag c3 hk' hc4
  go_enter Tryz.func27, Tryz.ntmps27
  go_wp2_with fail
  refine (HC.out).mono ?_
  rintro e w' ⟨rfl, rfl⟩
  go_wp2_with fail
  refine (RM.out).mono ?_
  rintro e w2 ⟨rfl, n, rfl⟩
  go_wp2_with fail
  go_ret2
  exact ⟨rfl, n, rfl⟩

theorem within_no {a n c : Int} (h : n < a ∨ c < n) : (decide (a ≤ n) && decide (n ≤ c)) = false := by
  rcases h with h | h
  · have : ¬ a ≤ n := by omega
    simp [this]
  · have : ¬ n ≤ c := by omega
    simp [this]

set_option maxRecDepth 100000 in
set_option maxHeartbeats 800000 in
theorem Wait_no (b : Nat) (D : DSt) (vc vw : Value) (R : RSt) (k a : Int) (w : World) (h : DAt w b D vc vw) (rel : DRel D R) (ok : R.Ok) (hk : isCh R k = false ∨ a < 0 ∨ 1000 < a) :
    Calls Tryz.prog 29 #[ptr b 0, I k, I a] w fun e w' => e = .returned (.tuple #[I 0, .bool false, I 1]) ∧ w' = w := by
  have HC := hide (hasCh_rel b D vc vw R k w h rel ok)
  have WI := hide (within_any a 0 1000 w)
  clear h rel ok
  cases hh : isCh R k with
  | false =>
    rw [hh] at HC
    go_enter Tryz.func29, Tryz.ntmps29
    go_wp2_with (go_at_call 55; refine (HC.out).mono ?_; rintro e w' ⟨rfl, rfl⟩)
    go_ret3
    exact ⟨rfl, rfl⟩
  | true =>
    rw [hh] at HC
    have ha : a < 0 ∨ 1000 < a := by
      rcases hk with h | h
      · rw [hh] at h; cases h
      · exact h
    rw [within_no ha] at WI
    go_enter Tryz.func29, Tryz.ntmps29
    go_wp2_with (first | (go_at_call 55; refine (HC.out).mono ?_; rintro e w' ⟨rfl, hw⟩; subst hw) | (go_at_call 51; refine (WI.out).mono ?_; rintro e w' ⟨rfl, hw⟩; subst hw))
    go_ret3
    exact ⟨rfl, rfl⟩

set_option maxRecDepth 100000 in
set_option maxHeartbeats 800000 in
theorem Wait_yes (b : Nat) (D : DSt) (vc vw : Value) (R : RSt) (k a : Int) (w : World) (h : DAt w b D vc vw) (rel : DRel D R) (ok : R.Ok) (hk : isCh R k = true) (a0 : 0 ≤ a) (a1 : a ≤ 1000) :
    Calls Tryz.prog 29 #[ptr b 0, I k, I a] w fun e w' => (∃ r, e = .returned (waitV r) ∧ WaitOk R k.toNat a r) ∧ ∃ n, w' = w.drewN n := by
  have HC := hide (hasCh_rel b D vc vw R k w h rel ok)
  rw [hk] at HC
  have WI := hide (within_any a 0 1000 w)
  rw [within_yes a0 a1] at WI
  obtain ⟨sl, ag⟩ := h.ag
  have c3 : w.cell? ⟨b, 3, none⟩ = some vw := by rw [ag.head.cell]; rfl
  have hk' := isCh_true hk
  have hc4 := ok.nc1
  have WT := hide (wait_any b vw D.ws R k a w c3 h.ws rel.fits ok (fun d hd => by have := rel.past d hd; omega) hk'.1 (by omega) a0 a1)
  clear h rel ok hk ag c3 hk' hc4
  go_enter Tryz.func29, Tryz.ntmps29
  go_wp2_with (first | (go_at_call 55; refine (HC.out).mono ?_; rintro e w' ⟨rfl, hw⟩; subst hw) | (go_at_call 51; refine (WI.out).mono ?_; rintro e w' ⟨rfl, hw⟩; subst hw) | fail)
  refine (WT.out).mono ?_
  rintro e w2 ⟨⟨r, rfl, hr⟩, n, rfl⟩
  have HR := hide hr
  clear hr
  cases r with
  | none =>
    simp only [wVal]
    go_wp2_with fail
    go_ret3
    exact ⟨⟨none, rfl, HR.out⟩, n, rfl⟩
  | some q =>
    simp only [wVal]
    go_wp2_with fail
    go_ret3
    exact ⟨⟨some q, rfl, HR.out⟩, n, rfl⟩

set_option maxRecDepth 100000 in
set_option maxHeartbeats 800000 in
theorem Basal_no (b : Nat) (D : DSt) (vc vw : Value) (R : RSt) (k rate ticks : Int) (w : World) (h : DAt w b D vc vw) (rel : DRel D R) (ok : R.Ok) (hb : basalBad R k rate ticks = true) :
    Calls Tryz.prog 34 #[ptr b 0, I k, I rate, I ticks] w fun e w' => e = .returned (I 1) ∧ w' = w := by
  have HC := hide (hasCh_rel b D vc vw R k w h rel ok)
  have W1 := hide (within_any rate 0 1000 w)
  have W2 := hide (within_any ticks 0 400 w)
  clear h rel ok
  cases hh : isCh R k with
  | false =>
    rw [hh] at HC
    clear hb
    go_enter Tryz.func34, Tryz.ntmps34
    go_wp2_with (go_at_call 55; refine (HC.out).mono ?_; rintro e w' ⟨rfl, rfl⟩)
    go_ret
    exact ⟨rfl, rfl⟩
  | true =>
    rw [hh] at HC
    by_cases q1 : rate < 0 ∨ 1000 < rate
    · rw [within_no q1] at W1
      clear hb q1
      go_enter Tryz.func34, Tryz.ntmps34
      go_wp2_with (first | (go_at_call 55; refine (HC.out).mono ?_; rintro e w' ⟨rfl, hw⟩; subst hw) | (go_at_call 51; refine (W1.out).mono ?_; rintro e w' ⟨rfl, hw⟩; subst hw))
      go_ret
      exact ⟨rfl, rfl⟩
    · have q2 : ticks < 0 ∨ 400 < ticks := by
        simp [basalBad, hh] at hb
        omega
      rw [within_yes (by omega) (by omega)] at W1
      rw [within_no q2] at W2
      clear hb q1 q2
      go_enter Tryz.func34, Tryz.ntmps34
      go_wp2_with (go_at_call 55; refine (HC.out).mono ?_; rintro e w' ⟨rfl, hw⟩; subst hw)
      refine (W1.out).mono ?_
      rintro e w1 ⟨rfl, hw⟩
      subst hw
      go_wp2_with fail
      refine (W2.out).mono ?_
      rintro e w2 ⟨rfl, hw⟩
      subst hw
      go_wp2_with fail
      go_ret
      exact ⟨rfl, rfl⟩

/-- Cancel of a channel's end -/
theorem cancel_ch (b : Nat) (D : DSt) (vc vw : Value) (w W : World) (h : DAt w b D vc vw) (nc : D.chs.length ≤ 4) (k : Nat) (c : DCh) (r : Int) (hk : D.chs[k]? = some c) (hW : Keep w W) (hh : W.heap = w.heap) :
    Calls Tryz.prog 59 #[ptr b 4, endV c.ent] W fun e w' => e = .returned (.tuple #[]) ∧ ∃ sl es', AgAt w' b 4 (dCells D.now D.lock vc vw sl D.num) 94 D.eb es' ∧ HeapN es'.length es' ∧ (∀ e ∈ es', e ∈ D.es) ∧ es'.Perm (entsOf (D.chs.set k ⟨r, none⟩)) ∧ Frm (AgF b D.eb D.es) w w' := by
  obtain ⟨sl, ag⟩ := h.ag
  have agW := ag.heapEq hh
  cases hent : c.ent with
  | none =>
    refine (cancel_nil b 4 W).mono ?_
    rintro e w' ⟨rfl, m, rfl⟩
    refine ⟨rfl, sl, D.es, agW.heapEq rfl, h.heap, fun _ he => he, by rw [ents_same r D.chs k c hk hent]; exact h.perm, (hW.mono fun _ _ e => e.elim).drewN m⟩
  | some y =>
    obtain ⟨x, cb⟩ := y
    have hm : x ∈ D.es := h.perm.mem_iff.2 (ents_in_mem hk hent)
    obtain ⟨i, hi⟩ := List.getElem?_of_mem hm
    have hlen : D.es.length ≤ 4 := by
      have := h.perm.length_eq
      have := ents_len D.chs
      omega
    refine (cancel_in b 4 _ 94 D.eb D.es i x W agW h.heap hi (by omega)).mono ?_
    rintro e w' ⟨rfl, e', -, sl', es', p, ag', pm, hp', hbx, hlp, fr⟩
    rw [dCells_sl] at ag'
    refine ⟨rfl, sl', es', ag', hp', fun e he => pm.mem_iff.2 (List.mem_cons_of_mem _ he), ?_, (hW.mono fun _ _ e => e.elim).trans fr⟩
    have q1 : (x :: es').Perm (x :: entsOf (D.chs.set k ⟨r, none⟩)) := (pm.symm.trans h.perm).trans (ents_out r D.chs k c hk hent)
    exact q1.cons_inv

end Go.Proofs.YtahiolfelcmikaaGreat
