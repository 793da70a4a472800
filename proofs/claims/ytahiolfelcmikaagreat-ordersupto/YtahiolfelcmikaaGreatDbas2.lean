/- Basal that is taken. -/
import Derived.Test.YtahiolfelcmikaaGreatDbas
namespace Go.Proofs.YtahiolfelcmikaaGreat
open Go.RowKit

/-- a channel's rate is set -/
theorem DRel.basal {D D' : DSt} {R : RSt} {k : Nat} {c : RCh} {d' : DCh} {rate ticks : Int} (rel : DRel D R) (hc : R.chs[k]? = some c) (h1 : D'.now = D.now) (h2 : D'.lock = D.lock) (h3 : D'.ws = D.ws) (h4 : D'.chs = D.chs.set k d')
    (h5 : ChRel R.now d' { c with rate := rate, til := if 0 < ticks then R.now + ticks else -1 }) : DRel D' (rbasal R k rate ticks) := by
  have e : rbasal R k rate ticks = { R with chs := R.chs.set k { c with rate := rate, til := if 0 < ticks then R.now + ticks else -1 } } := by simp [rbasal, hc]
  rw [e]
  have hkl : k < R.chs.length := (List.getElem?_eq_some_iff.1 hc).1
  have hn := rel.nch
  refine ⟨h1.trans rel.now, h2.trans rel.lock, rel.os, by rw [h3]; exact rel.fits, rel.past, by rw [h4]; simp [hn], ?_⟩
  intro j x y hx hy
  have hy : (R.chs.set k { c with rate := rate, til := if 0 < ticks then R.now + ticks else -1 })[j]? = some y := hy
  rw [h4] at hx
  by_cases q : k = j
  · subst q
    rw [List.getElem?_set_self (by omega)] at hx hy
    simp at hx hy
    subst hx; subst hy
    exact h5
  · rw [List.getElem?_set_ne q] at hx hy
    exact rel.ch j x y hx hy

/-- what Basal leaves -/
def BasEnd (w : World) (b : Nat) (D : DSt) (vc vw : Value) (R : RSt) (w' : World) : Prop :=
  ∃ D', DAt w' b D' vc vw ∧ DRel D' R ∧ (∀ x, DF b D' vc vw x → DF b D vc vw x ∨ w.heap.size ≤ x) ∧ Frm (DF b D vc vw) w w'

theorem BasEnd.drewN {w w' : World} {b : Nat} {D : DSt} {vc vw : Value} {R : RSt} (h : BasEnd w b D vc vw R w') (n : Nat) : BasEnd w b D vc vw R (w'.drewN n) := by
  obtain ⟨D', h1, h2, h3, h4⟩ := h
  exact ⟨D', h1.keep ((Frm.refl _ _).drewN n), h2, h3, h4.drewN n⟩

/-- the cells of the channel, the closure's cell ahead of it: what comes behind Cancel -/
def Mid (w : World) (b : Nat) (D : DSt) (vc vw : Value) (R : RSt) (g k : Nat) (rate ticks : Int) (w3 : World) : Prop :=
  w3.cell? ⟨w.heap.size, 0, none⟩ = some (ptr g (k * 5)) ∧ (∃ u, w3.cell? ⟨g, k * 5, none⟩ = some u) ∧ (∃ u, w3.cell? ⟨g, k * 5 + 1, none⟩ = some u) ∧ w3.frozen? ⟨g, k * 5, none⟩ = false ∧ w3.frozen? ⟨g, k * 5 + 1, none⟩ = false ∧ w3.cell? ⟨b, 0, none⟩ = some (I R.now) ∧ w.heap.size < w3.heap.size ∧
  (ticks = 0 → BasEnd w b D vc vw (rbasal R k rate ticks) ((w3.setCell ⟨g, k * 5, none⟩ (I rate)).setCell ⟨g, k * 5 + 1, none⟩ (.pointer none))) ∧
  (0 < ticks → ∀ W : World, W.heap = ((w3.setCell ⟨g, k * 5, none⟩ (I rate)).setCell ⟨g, k * 5 + 1, none⟩ (.pointer none)).heap → Keep ((w3.setCell ⟨g, k * 5, none⟩ (I rate)).setCell ⟨g, k * 5 + 1, none⟩ (.pointer none)) W →
    Calls Tryz.prog 60 #[ptr b 4, I (R.now + ticks), .func (.func 61) #[] #[ptr w.heap.size 0]] W fun e w5 => ∃ x : Nat, e = .returned (ptr x 0) ∧ w5.cell? ⟨w.heap.size, 0, none⟩ = some (ptr g (k * 5)) ∧ (∃ u, w5.cell? ⟨g, k * 5 + 1, none⟩ = some u) ∧ w5.frozen? ⟨g, k * 5 + 1, none⟩ = false ∧ BasEnd w b D vc vw (rbasal R k rate ticks) (w5.setCell ⟨g, k * 5 + 1, none⟩ (ptr x 0)))

theorem mid_of (b : Nat) (D : DSt) (vc vw : Value) (R : RSt) (k g cap : Nat) (d : DCh) (c : RCh) (rate ticks : Int) (w w3 : World) (h : DAt w b D vc vw) (rel : DRel D R) (ok : R.Ok) (hd : D.chs[k]? = some d) (hc : R.chs[k]? = some c) (hv : vc = .slice (some ⟨g, 0, none⟩) D.chs.length cap)
    {sl : Value} {es' : List Ent} (ag : AgAt w3 b 4 (dCells D.now D.lock vc vw sl D.num) 94 D.eb es') (hp : HeapN es'.length es') (sub : ∀ e ∈ es', e ∈ D.es) (pm : es'.Perm (entsOf (D.chs.set k ⟨rate, none⟩))) (fr : Frm (AgF b D.eb D.es) (w.alloc (.cells #[ptr g (k * 5)] 113)) w3)
    (_t0 : 0 ≤ ticks) : Mid w b D vc vw R g k rate ticks w3 := by
  have hlt := h.lt
  have lg := hlt g (Or.inr (Or.inl (by rw [hv]; rfl)))
  have hD1 : DAt (w.alloc (.cells #[ptr g (k * 5)] 113)) b D vc vw := h.keep ((Frm.refl _ _).alloc _)
  have hkl : k < D.chs.length := (List.getElem?_eq_some_iff.1 hd).1
  have ncb : ¬ AgF b D.eb D.es w.heap.size := fun e => by have := hlt _ (Or.inl e); omega
  have bcb : Blk w3 w.heap.size #[ptr g (k * 5)] 113 := (Blk.new w _ _).frm fr ncb
  have hr3 : w3.ownsRow 0 116 5 vc D.chs.length (D.chs.flatMap dchC) := row_frm hD1.chs fr fun x hx he => h.sep.ac x he hx
  obtain ⟨g', cap', v1, -, v2, v3⟩ := row_at hr3 (fun _ => rfl) hd (by decide)
  rw [hv] at v1; injection v1 with v1 v5 v6; injection v1 with v1; injection v1 with v1
  subst v1
  obtain ⟨o1, o2, o3⟩ := hD1.out hd hv rate ag hp sub pm fr
  have cgne : w.heap.size ≠ g := by omega
  have frw : Frm (DF b D vc vw) w ((w3.setCell ⟨g, k * 5, none⟩ (I rate)).setCell ⟨g, k * 5 + 1, none⟩ (.pointer none)) :=
    ((Frm.refl (DF b D vc vw) w).alloc _).trans o2
  have bcb4 : Blk ((w3.setCell ⟨g, k * 5, none⟩ (I rate)).setCell ⟨g, k * 5 + 1, none⟩ (.pointer none)) w.heap.size #[ptr g (k * 5)] 113 :=
    (bcb.other (p := ⟨g, k * 5, none⟩) cgne _).other (p := ⟨g, k * 5 + 1, none⟩) cgne _
  refine ⟨by rw [bcb.cell]; rfl, ⟨_, v2 0 (by decide)⟩, ⟨_, v2 1 (by decide)⟩, v3 _, v3 _, ?_, bcb.lt, ?_, ?_⟩
  · rw [ag.head.cell, ← rel.now]; rfl
  · intro ht
    refine ⟨_, o1, rel.basal hc rfl rfl rfl rfl ?_, fun x hx => Or.inl (o3 x hx), frw⟩
    have h1 := (rel.ch k d c hd hc).1
    refine ⟨h1, ?_, ?_, ?_⟩
    · simp [wbase, ht]
    · intro _; left; simp [ht]
    · intro e cb he; simp at he
  · intro ht W hW kW
    have oW := o1.keep kW
    obtain ⟨slW, agW⟩ := oW.ag
    have hlen : es'.length ≤ 1000 := by
      have q1 := pm.length_eq
      have q2 := ents_len (D.chs.set k ⟨rate, none⟩)
      have q3 := rel.nch
      have q4 := ok.nc1
      rw [List.length_set] at q2
      omega
    have hrow := oW.chs
    have ad := add_any b 4 _ 94 D.eb es' (R.now + ticks) D.num (.func 61) #[ptr w.heap.size 0] W agW hp (by omega) (by rfl)
    refine ad.mono ?_
    rintro e w5 ⟨x, rfl, x1, x2, x3, x4, sl5, eb5, es5, ag5, pm5, hp5, hb5, fr5⟩
    rw [dCells_num, dCells_sl] at ag5
    have hkl' : k < (D.chs.set k ⟨rate, none⟩).length := by simpa using hkl
    have hdk : (D.chs.set k ⟨rate, none⟩)[k]? = some ⟨rate, none⟩ := List.getElem?_set_self hkl
    have hv' : vc = .slice (some ⟨g, 0, none⟩) (D.chs.set k ⟨rate, none⟩).length cap := by simpa using hv
    have bW : Blk W w.heap.size #[ptr g (k * 5)] 113 := kW.blk bcb4
    have hno : ¬ DF b { D with chs := D.chs.set k ⟨rate, none⟩, es := es' } vc vw w.heap.size := fun e => by
      have := hlt _ (o3 _ e); omega
    obtain ⟨p1, p2, p3⟩ := oW.come hdk rfl hv' bW hno x3 x4 hb5 ag5 hp5 pm5 fr5
    have s5 : ¬ AgF b D.eb es' w.heap.size := fun e => hno (Or.inl e)
    have s6 : ¬ AgF b D.eb es' g := fun e => oW.sep.ac g e (by rw [hv]; rfl)
    have b5 : Blk w5 w.heap.size #[ptr g (k * 5)] 113 := bW.frm fr5 s5
    have r5 : w5.ownsRow 0 116 5 vc (D.chs.set k ⟨rate, none⟩).length ((D.chs.set k ⟨rate, none⟩).flatMap dchC) := row_frm hrow fr5 fun y hy he => oW.sep.ac y he hy
    obtain ⟨g'', cap'', y1, -, y2, y3⟩ := row_at r5 (fun _ => rfl) hdk (by decide)
    rw [hv] at y1; injection y1 with y1 y5 y6; injection y1 with y1; injection y1 with y1
    subst y1
    refine ⟨x.blk, rfl, by rw [b5.cell]; rfl, ⟨_, y2 1 (by decide)⟩, y3 _, _, p1, ?_, ?_, ?_⟩
    · refine rel.basal hc rfl rfl rfl (by simp [List.set_set]; rfl) ?_
      have h1 := (rel.ch k d c hd hc).1
      refine ⟨h1, ?_, ?_, ?_⟩
      · simp [wbase, ht]; intro _ _; omega
      · intro he; simp at he
      · intro e cb he; simp at he; obtain ⟨rfl, rfl⟩ := he
        simp [ht, x1]; omega
    · have hsz : w.heap.size ≤ W.heap.size := Nat.le_trans frw.size kW.size
      intro y hy
      rcases p3 y hy with e | e | e
      · exact Or.inl (o3 y e)
      · exact Or.inr (by omega)
      · exact Or.inr (by omega)
    · refine (frw.trans2 kW fun _ _ e => e.elim).trans2 p2 fun y _ hy => o3 y hy

set_option maxRecDepth 100000 in
set_option maxHeartbeats 1600000 in
theorem Basal_yes (b : Nat) (D : DSt) (vc vw : Value) (R : RSt) (k rate ticks : Int) (w : World) (h : DAt w b D vc vw) (rel : DRel D R) (ok : R.Ok) (hb : basalBad R k rate ticks = false) :
    Calls Tryz.prog 34 #[ptr b 0, I k, I rate, I ticks] w fun e w' => e = .returned (I 0) ∧ BasEnd w b D vc vw (rbasal R k.toNat rate ticks) w' := by
  have hh : isCh R k = true ∧ 0 ≤ rate ∧ rate ≤ 1000 ∧ 0 ≤ ticks ∧ ticks ≤ 400 := by
    simp [basalBad] at hb
    obtain ⟨⟨⟨⟨h1, h2⟩, h3⟩, h4⟩, h5⟩ := hb
    exact ⟨h1, h2, h3, h4, h5⟩
  obtain ⟨hk, r0, r1, t0, t1⟩ := hh
  have HC := hide (hasCh_rel b D vc vw R k w h rel ok)
  rw [hk] at HC
  have W1 := hide (within_any rate 0 1000 w)
  have W2 := hide (within_any ticks 0 400 w)
  rw [within_yes r0 r1] at W1
  rw [within_yes t0 t1] at W2
  obtain ⟨k0, k1⟩ := isCh_true hk
  obtain ⟨k, rfl⟩ := Int.eq_ofNat_of_zero_le k0
  simp only [Int.toNat_natCast] at *
  have hkl : k < D.chs.length := by rw [rel.nch]; omega
  have nc : D.chs.length ≤ 4 := by rw [rel.nch]; exact ok.nc1
  obtain ⟨d, hd⟩ : ∃ d, D.chs[k]? = some d := ⟨_, List.getElem?_eq_getElem hkl⟩
  obtain ⟨c, hc⟩ : ∃ c, R.chs[k]? = some c := ⟨_, List.getElem?_eq_getElem (by omega)⟩
  obtain ⟨g, cap, hv, -, hcell, hfz⟩ := row_at h.chs (fun _ => rfl) hd (by decide)
  obtain ⟨sl, ag⟩ := h.ag
  have c0 : w.cell? ⟨b, 0, none⟩ = some (I R.now) := by rw [ag.head.cell, ← rel.now]; rfl
  have c2 : w.cell? ⟨b, 2, none⟩ = some (.slice (some ⟨g, 0, none⟩) D.chs.length cap) := by rw [ag.head.cell, ← hv]; rfl
  have d0 := hcell 0 (by decide)
  have d1 := hcell 1 (by decide)
  simp [dchC] at d0 d1
  have g0 := hfz (k * 5)
  have g1 := hfz (k * 5 + 1)
  have hlt := h.lt
  have lg := hlt g (Or.inr (Or.inl (by rw [hv]; rfl)))
  have lb := hlt b (Or.inl (Or.inl rfl))
  have hbg : b ≠ g := fun e => h.sep.ac b (Or.inl rfl) (by rw [hv, e]; rfl)
  have n0 := ok.now0
  have n1 := ok.now1
  have hD1 : DAt (w.alloc (.cells #[ptr g (k * 5)] 113)) b D vc vw := h.keep ((Frm.refl _ _).alloc _)
  have cc := fun m => cancel_ch b D vc vw (w.alloc (.cells #[ptr g (k * 5)] 113)) ((w.alloc (.cells #[ptr g (k * 5)] 113)).drewN m) hD1 nc k d rate hd ((Frm.refl _ _).drewN m) rfl
  have CC := hide cc
  have H := hide (And.intro h (And.intro rel (And.intro ok (And.intro hD1 (And.intro hd (And.intro hc (And.intro hv hlt)))))))
  clear h rel ok hb cc hk hD1 hd hc hv hcell hfz ag hlt
  go_enter Tryz.func34, Tryz.ntmps34
  go_wp2_with (go_at_call 55; refine (HC.out).mono ?_; rintro e w' ⟨rfl, hw⟩; have hw' := hw.symm; subst hw')
  refine (W1.out).mono ?_
  rintro e w1 ⟨rfl, hw⟩
  have hw' := hw.symm
  subst hw'
  go_wp2_with fail
  refine (W2.out).mono ?_
  rintro e w2 ⟨rfl, hw⟩
  have hw' := hw.symm
  subst hw'
  go_wp2_with fail
  go_region_with (go_at_call 59; refine (CC.out _).mono ?_; rintro e w3 ⟨rfl, sl3, es3, a1, a2, a3, a4, a5⟩)
  all_goals (have M := hide (mid_of b D vc vw R k g cap d c rate ticks w w3 (H.out).1 (H.out).2.1 (H.out).2.2.1 (H.out).2.2.2.2.1 (H.out).2.2.2.2.2.1 (H.out).2.2.2.2.2.2.1 a1 a2 a3 a4 a5 t0))
  all_goals clear a1 a2 a3 a4 a5
  all_goals (obtain ⟨p1, ⟨u2, p2⟩, ⟨u3, p3⟩, p4, p5, p6, p7, -⟩ := M.out)
  all_goals (have q1 : w.heap.size ≠ g := by omega)
  all_goals (by_cases ht : ticks = 0)
  all_goals go_wp2_with fail
  all_goals go_region
  · go_wp2_with fail
    go_ret
    exact ⟨rfl, ((M.out).2.2.2.2.2.2.2.1 ht).drewN 1⟩
  · have ht' : 0 < ticks := by omega
    have fw : Frm (fun x => x = g) w3 ((w3.setCell ⟨g, k * 5, none⟩ (I rate)).setCell ⟨g, k * 5 + 1, none⟩ (.pointer none)).drew :=
      (((Frm.refl (fun x => x = g) w3).setCell (p := ⟨g, k * 5, none⟩) rfl (I rate)).setCell (p := ⟨g, k * 5 + 1, none⟩) rfl (.pointer none)).drew
    have z1 := fw.cell (p := ⟨w.heap.size, 0, none⟩) p1 q1
    have z6 := fw.cell (p := ⟨b, 0, none⟩) p6 hbg
    have ad : ∀ m, Calls Tryz.prog 60 #[ptr b 4, I (R.now + ticks), .func (.func 61) #[] #[ptr w.heap.size 0]] (((w3.setCell ⟨g, k * 5, none⟩ (I rate)).setCell ⟨g, k * 5 + 1, none⟩ (.pointer none)).drew.drewN m) fun e w5 => ∃ x : Nat, e = .returned (ptr x 0) ∧ w5.cell? ⟨w.heap.size, 0, none⟩ = some (ptr g (k * 5)) ∧ (∃ u, w5.cell? ⟨g, k * 5 + 1, none⟩ = some u) ∧ w5.frozen? ⟨g, k * 5 + 1, none⟩ = false ∧ BasEnd w b D vc vw (rbasal R k rate ticks) (w5.setCell ⟨g, k * 5 + 1, none⟩ (ptr x 0)) :=
      fun m => (M.out).2.2.2.2.2.2.2.2 ht' _ rfl (((Frm.refl _ _).drew).drewN m)
    generalize ((w3.setCell ⟨g, k * 5, none⟩ (I rate)).setCell ⟨g, k * 5 + 1, none⟩ (.pointer none)).drew = w4 at *
    have AD := hide ad
    clear ad fw p1 p2 p3 p4 p5 p6 p7 M
    have wr1 : IntKind.i64.wrap (R.now + ticks) = R.now + ticks := wrap_id _ (by omega) (by omega)
    go_wp2_with fail
    go_region_with (go_at_call 60; refine (AD.out _).mono ?_; rintro e w5 ⟨x, rfl, s1, ⟨u5, s2⟩, s3, hfin⟩; have HF := hide hfin; clear hfin)
    all_goals go_wp2_with fail
    all_goals go_ret
    all_goals exact ⟨rfl, HF.out⟩

end Go.Proofs.YtahiolfelcmikaaGreat
