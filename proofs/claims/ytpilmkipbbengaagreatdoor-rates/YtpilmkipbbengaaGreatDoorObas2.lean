/- Basal that is taken, with orders. -/
import Derived.Test.YtpilmkipbbengaaGreatDoorObas
namespace Go.Proofs.YtpilmkipbbengaaGreatDoor
open Go.RowKit

def OMid (w : World) (b : Nat) (D : GSt) (vc vw : Value) (ods : List OrdD) (R : RSt) (g k : Nat) (rate ticks : Int) (w3 : World) : Prop :=
  w3.cell? ⟨w.heap.size, 0, none⟩ = some (ptr g (k * 5)) ∧ (∃ u, w3.cell? ⟨g, k * 5, none⟩ = some u) ∧ (∃ u, w3.cell? ⟨g, k * 5 + 1, none⟩ = some u) ∧ w3.frozen? ⟨g, k * 5, none⟩ = false ∧ w3.frozen? ⟨g, k * 5 + 1, none⟩ = false ∧ w3.cell? ⟨b, 0, none⟩ = some (I R.now) ∧ w.heap.size < w3.heap.size ∧
  (ticks = 0 → Goes w b D vc vw ods (rbasal R k rate ticks) ((w3.setCell ⟨g, k * 5, none⟩ (I rate)).setCell ⟨g, k * 5 + 1, none⟩ (.pointer none))) ∧
  (0 < ticks → ∀ W : World, W.heap = ((w3.setCell ⟨g, k * 5, none⟩ (I rate)).setCell ⟨g, k * 5 + 1, none⟩ (.pointer none)).heap → Keep ((w3.setCell ⟨g, k * 5, none⟩ (I rate)).setCell ⟨g, k * 5 + 1, none⟩ (.pointer none)) W →
    Calls Tryz.prog 64 #[ptr b 4, I (R.now + ticks), .func (.func 65) #[] #[ptr w.heap.size 0]] W fun e w5 => ∃ x : Nat, e = .returned (ptr x 0) ∧ w5.cell? ⟨w.heap.size, 0, none⟩ = some (ptr g (k * 5)) ∧ (∃ u, w5.cell? ⟨g, k * 5 + 1, none⟩ = some u) ∧ w5.frozen? ⟨g, k * 5 + 1, none⟩ = false ∧ Goes w b D vc vw ods (rbasal R k rate ticks) (w5.setCell ⟨g, k * 5 + 1, none⟩ (ptr x 0)))

theorem rbasal_set {R : RSt} {k : Nat} {c : RCh} {rate ticks : Int} (hc : R.chs[k]? = some c) : rbasal R k rate ticks = { R with chs := R.chs.set k { c with rate := rate, til := if 0 < ticks then R.now + ticks else -1 } } := by simp [rbasal, hc]

theorem omid_of (b : Nat) (D : GSt) (vc vw : Value) (ods : List OrdD) (R : RSt) (k g cap : Nat) (d : GCh) (c : RCh) (rate ticks : Int) (w w3 : World) (h : PAt w b D vc vw ods) (rel : ORel D ods R) (hes : D.es.length ≤ 6604) (hd : D.chs[k]? = some d) (hc : R.chs[k]? = some c) (hv : vc = .slice (some ⟨g, 0, none⟩) D.chs.length cap)
    {sl : Value} {es' : List Ent} (ag : AgAt w3 b 4 (gCells D.now D.lock vc vw sl D.num D.vo D.nv) 75 D.eb es') (hp : HeapN es'.length es') (sub : ∀ e ∈ es', e ∈ D.es) (pm : es'.Perm (gents (D.chs.set k { d with rate := rate, ent := none }) ++ D.xt)) (fr : Frm (AgF b D.eb D.es) (w.alloc (.cells #[ptr g (k * 5)] 130)) w3)
    (hle : es'.length ≤ D.es.length) : OMid w b D vc vw ods R g k rate ticks w3 := by
  have hlt := h.g.lt
  have hltP := h.lt
  have lg := hlt g (Or.inr (Or.inl (by rw [hv]; rfl)))
  have hD1 : PAt (w.alloc (.cells #[ptr g (k * 5)] 130)) b D vc vw ods := h.keep ((Frm.refl _ _).alloc _)
  have hkl : k < D.chs.length := (List.getElem?_eq_some_iff.1 hd).1
  have ncb : ¬ AgF b D.eb D.es w.heap.size := fun e => by have := hlt _ (Or.inl e); omega
  have bcb : Blk w3 w.heap.size #[ptr g (k * 5)] 130 := (Blk.new w _ _).frm fr ncb
  have hr3 : w3.ownsRow 0 127 5 vc D.chs.length (D.chs.flatMap gchC) := row_frm hD1.g.chs fr fun x hx he => h.g.sep.ac x he hx
  obtain ⟨g', cap', v1, -, v2, v3⟩ := row_at hr3 (fun _ => rfl) hd (by decide)
  rw [hv] at v1; injection v1 with v1 v5 v6; injection v1 with v1; injection v1 with v1
  subst v1
  obtain ⟨o1, o2, o3⟩ := hD1.g.out hd hv rate ag hp sub pm fr
  have hss : sosOf (D.chs.set k { d with rate := rate, ent := none }) = sosOf D.chs := sosOf_same D.chs k d { d with rate := rate, ent := none } hd rfl
  have oo := hD1.o.frmG hD1.g o2
  have oP : PAt ((w3.setCell ⟨g, k * 5, none⟩ (I rate)).setCell ⟨g, k * 5 + 1, none⟩ (.pointer none)) b { D with chs := D.chs.set k { d with rate := rate, ent := none }, es := es' } vc vw ods := by
    refine ⟨o1, ?_⟩
    show OAt _ b vc (sosOf (D.chs.set k { d with rate := rate, ent := none })) D.vo D.xt D.nv ods
    rw [hss]; exact oo
  have pf1 : ∀ x, PF b { D with chs := D.chs.set k { d with rate := rate, ent := none }, es := es' } vc vw ods x → PF b D vc vw ods x := by
    rintro x (e | e)
    · exact Or.inl (o3 x e)
    · have e' : OF (sosOf (D.chs.set k { d with rate := rate, ent := none })) D.vo ods x := e
      rw [hss] at e'; exact Or.inr e'
  have cgne : w.heap.size ≠ g := by omega
  have frw : Frm (PF b D vc vw ods) w ((w3.setCell ⟨g, k * 5, none⟩ (I rate)).setCell ⟨g, k * 5 + 1, none⟩ (.pointer none)) :=
    ((Frm.refl (PF b D vc vw ods) w).alloc _).trans (o2.mono fun x _ e => Or.inl (GW_GF e))
  have bcb4 : Blk ((w3.setCell ⟨g, k * 5, none⟩ (I rate)).setCell ⟨g, k * 5 + 1, none⟩ (.pointer none)) w.heap.size #[ptr g (k * 5)] 130 :=
    (bcb.other (p := ⟨g, k * 5, none⟩) cgne _).other (p := ⟨g, k * 5 + 1, none⟩) cgne _
  obtain ⟨r1, r2, r3, r4, r5⟩ := rel.ch k d c hd hc
  refine ⟨by rw [bcb.cell]; rfl, ⟨_, v2 0 (by decide)⟩, ⟨_, v2 1 (by decide)⟩, v3 _, v3 _, ?_, bcb.lt, ?_, ?_⟩
  · rw [ag.head.cell, ← rel.now]; rfl
  · intro ht
    rw [rbasal_set hc]
    refine ⟨_, ods, oP, rel.setch hc rfl rfl rfl rfl ?_, fun x hx => Or.inl (pf1 x hx), frw, rfl⟩
    refine ⟨r1, ?_, ?_, ?_, r5⟩
    · simp [wbase, ht]
    · intro _; left; simp [ht]
    · intro e cb he; simp at he
  · intro ht W hW kW
    have oW := oP.keep kW
    obtain ⟨slW, agW⟩ := oW.g.ag
    have hrow := oW.g.chs
    have ad := add_any b 4 _ 75 D.eb es' (R.now + ticks) D.num (.func 65) #[ptr w.heap.size 0] W agW hp (by omega) (by rfl)
    refine ad.mono ?_
    rintro e w5 ⟨x, rfl, x1, x2, x3, x4, sl5, eb5, es5, ag5, pm5, hp5, hb5, fr5⟩
    rw [gCells_num, gCells_sl] at ag5
    have hdk : (D.chs.set k { d with rate := rate, ent := none })[k]? = some { d with rate := rate, ent := none } := List.getElem?_set_self hkl
    have hv' : vc = .slice (some ⟨g, 0, none⟩) (D.chs.set k { d with rate := rate, ent := none }).length cap := by simpa using hv
    have bW : Blk W w.heap.size #[ptr g (k * 5)] 130 := kW.blk bcb4
    have hno : ¬ GF b { D with chs := D.chs.set k { d with rate := rate, ent := none }, es := es' } vc vw w.heap.size := fun e => by
      have := hlt _ (o3 _ e); omega
    obtain ⟨p1, p2, p3⟩ := oW.g.come hdk rfl hv' bW hno x3 x4 hb5 ag5 hp5 pm5 fr5
    have oo5 := oW.o.frmG oW.g p2
    have s5 : ¬ AgF b D.eb es' w.heap.size := fun e => hno (Or.inl e)
    have b5 : Blk w5 w.heap.size #[ptr g (k * 5)] 130 := bW.frm fr5 s5
    have r5' : w5.ownsRow 0 127 5 vc (D.chs.set k { d with rate := rate, ent := none }).length ((D.chs.set k { d with rate := rate, ent := none }).flatMap gchC) := row_frm hrow fr5 fun y hy he => oW.g.sep.ac y he hy
    obtain ⟨g'', cap'', y1, -, y2, y3⟩ := row_at r5' (fun _ => rfl) hdk (by decide)
    rw [hv] at y1; injection y1 with y1 y5 y6; injection y1 with y1; injection y1 with y1
    subst y1
    have hss2 : sosOf ((D.chs.set k { d with rate := rate, ent := none }).set k { d with rate := rate, ent := some (x, w.heap.size) }) = sosOf (D.chs.set k { d with rate := rate, ent := none }) := sosOf_same _ k _ _ hdk rfl
    rw [rbasal_set hc]
    refine ⟨x.blk, rfl, by rw [b5.cell]; rfl, ⟨_, y2 1 (by decide)⟩, y3 _, _, ods, ⟨p1, ?_⟩, ?_, ?_, ?_, rfl⟩
    · show OAt _ b vc (sosOf ((D.chs.set k { d with rate := rate, ent := none }).set k { d with rate := rate, ent := some (x, w.heap.size) })) D.vo D.xt D.nv ods
      rw [hss2]; exact oo5
    · refine rel.setch (d' := { d with rate := rate, ent := some (x, w.heap.size) }) hc rfl rfl rfl (by simp [List.set_set]) ?_
      refine ⟨r1, ?_, ?_, ?_, r5⟩
      · simp [wbase, ht]; intro _ _; omega
      · intro he; simp at he
      · intro e cb he; simp at he; obtain ⟨rfl, rfl⟩ := he
        simp [ht, x1]; omega
    · have hsz : w.heap.size ≤ W.heap.size := Nat.le_trans frw.size kW.size
      rintro y (hy | hy)
      · rcases p3 y hy with e | e | e
        · exact Or.inl (Or.inl (o3 y e))
        · exact Or.inr (by omega)
        · exact Or.inr (by omega)
      · have e' : OF (sosOf ((D.chs.set k { d with rate := rate, ent := none }).set k { d with rate := rate, ent := some (x, w.heap.size) })) D.vo ods y := hy
        rw [hss2, hss] at e'; exact Or.inl (Or.inr e')
    · exact (frw.trans2 kW fun _ _ e => e.elim).trans2 p2 fun y _ hy => Or.inl (o3 y (GW_GF hy))

set_option maxRecDepth 100000 in
set_option maxHeartbeats 1600000 in
theorem oBasal_yes (b : Nat) (D : GSt) (vc vw : Value) (ods : List OrdD) (R : RSt) (k rate ticks : Int) (w : World) (h : PAt w b D vc vw ods) (rel : ORel D ods R) (ok : R.Ok) (full : R.Full) (hb : basalBad R k rate ticks = false) :
    Calls Tryz.prog 32 #[ptr b 0, I k, I rate, I ticks] w fun e w' => e = .returned (I 0) ∧ Goes w b D vc vw ods (rbasal R k.toNat rate ticks) w' := by
  have hh : isCh R k = true ∧ 0 ≤ rate ∧ rate ≤ 1000 ∧ 0 ≤ ticks ∧ ticks ≤ 400 := by
    simp [basalBad] at hb
    obtain ⟨⟨⟨⟨h1, h2⟩, h3⟩, h4⟩, h5⟩ := hb
    exact ⟨h1, h2, h3, h4, h5⟩
  obtain ⟨hk, r0, r1, t0, t1⟩ := hh
  have HC := hide (ohasCh b D vc vw ods R k w h rel ok)
  rw [hk] at HC
  have W1 := hide (within_any rate 0 1000 w)
  have W2 := hide (within_any ticks 0 400 w)
  rw [within_yes r0 r1] at W1
  rw [within_yes t0 t1] at W2
  obtain ⟨k0, k1⟩ := isCh_true hk
  obtain ⟨k, rfl⟩ := Int.eq_ofNat_of_zero_le k0
  simp only [Int.toNat_natCast] at *
  have hkl : k < D.chs.length := by rw [rel.nch]; omega
  have nc : D.chs.length ≤ 4 := by rw [rel.nch]; exact ok.nc1
  have hes := h.esLen nc (rel.olen ok full)
  obtain ⟨d, hd⟩ : ∃ d, D.chs[k]? = some d := ⟨_, List.getElem?_eq_getElem hkl⟩
  obtain ⟨c, hc⟩ : ∃ c, R.chs[k]? = some c := ⟨_, List.getElem?_eq_getElem (by omega)⟩
  obtain ⟨g, cap, hv, d0, d1, -, -, -, hfz, -⟩ := h.g.chan hd
  obtain ⟨sl, ag⟩ := h.g.ag
  have c0 : w.cell? ⟨b, 0, none⟩ = some (I R.now) := by rw [ag.head.cell, ← rel.now]; rfl
  have c2 : w.cell? ⟨b, 2, none⟩ = some (.slice (some ⟨g, 0, none⟩) D.chs.length cap) := by rw [ag.head.cell, ← hv]; rfl
  have g0 := hfz (k * 5)
  have g1 := hfz (k * 5 + 1)
  have hlt := h.g.lt
  have lg := hlt g (Or.inr (Or.inl (by rw [hv]; rfl)))
  have lb := hlt b (Or.inl (Or.inl rfl))
  have hbg : b ≠ g := fun e => h.g.sep.ac b (Or.inl rfl) (by rw [hv, e]; rfl)
  have n0 := ok.now0
  have n1 := ok.now1
  have hD1 : PAt (w.alloc (.cells #[ptr g (k * 5)] 130)) b D vc vw ods := h.keep ((Frm.refl _ _).alloc _)
  have cc : ∀ m, Calls Tryz.prog 63 #[ptr b 4, endV d.ent] ((w.alloc (.cells #[ptr g (k * 5)] 130)).drewN m) fun e w3 => e = .returned (.tuple #[]) ∧ Hid (OMid w b D vc vw ods R g k rate ticks w3) := by
    intro m
    refine (ocancel_ch b D vc vw (w.alloc (.cells #[ptr g (k * 5)] 130)) ((w.alloc (.cells #[ptr g (k * 5)] 130)).drewN m) hD1.g hes k d rate hd ((Frm.refl _ _).drewN m) rfl).mono ?_
    rintro e w3 ⟨rfl, sl3, es3, a1, a2, a3, a4, a5⟩
    have hle : es3.length ≤ D.es.length := by
      have q1 := a4.length_eq
      have q2 := h.g.perm.length_eq
      simp only [List.length_append] at q1 q2
      have q3 : (gents (D.chs.set k { d with rate := rate, ent := none })).length ≤ (gents D.chs).length := by
        cases hent : d.ent with
        | none => rw [gents_same { d with rate := rate, ent := none } rfl D.chs k d hd hent]; exact Nat.le_refl _
        | some y =>
          have := (gents_out (x := y.1) (cb := y.2) { d with rate := rate, ent := none } rfl D.chs k d hd hent).length_eq
          simp only [List.length_cons] at this
          omega
      omega
    exact ⟨rfl, omid_of b D vc vw ods R k g cap d c rate ticks w w3 h rel hes hd hc hv a1 a2 a3 a4 a5 hle⟩
  have CC := hide cc
  clear h rel ok hb cc hk hD1 hd hc hv hfz ag hlt full hes
  go_enter Tryz.func32, Tryz.ntmps32
  go_wp2_with (go_at_call 29; refine (HC.out).mono ?_; rintro e w' ⟨rfl, hw⟩; have hw' := hw.symm; subst hw')
  refine (W1.out).mono ?_
  rintro e w1 ⟨rfl, hw⟩
  have hw' := hw.symm
  subst hw'
  go_wp2_with fail
  refine (W2.out).mono ?_
  rintro e w2 ⟨rfl, hw⟩
  have hw' := hw.symm
  subst hw'
  go_wp2_with fail
  go_region_with (go_at_call 63; refine (CC.out _).mono ?_; rintro e w3 ⟨rfl, M⟩)
  all_goals (obtain ⟨p1, ⟨u2, p2⟩, ⟨u3, p3⟩, p4, p5, p6, p7, -⟩ := M.out)
  all_goals (have q1 : w.heap.size ≠ g := by omega)
  all_goals (by_cases ht : ticks = 0)
  all_goals go_wp2_with fail
  all_goals go_region
  · go_wp2_with fail
    go_ret
    exact ⟨rfl, ((M.out).2.2.2.2.2.2.2.1 ht).drewN 1⟩
  · have ht' : 0 < ticks := by omega
    have fw : Frm (fun x => x = g) w3 ((w3.setCell ⟨g, k * 5, none⟩ (I rate)).setCell ⟨g, k * 5 + 1, none⟩ (.pointer none)).drew :=
      (((Frm.refl (fun x => x = g) w3).setCell (p := ⟨g, k * 5, none⟩) rfl (I rate)).setCell (p := ⟨g, k * 5 + 1, none⟩) rfl (.pointer none)).drew
    have z1 := fw.cell (p := ⟨w.heap.size, 0, none⟩) p1 q1
    have z6 := fw.cell (p := ⟨b, 0, none⟩) p6 hbg
    have ad : ∀ m, Calls Tryz.prog 64 #[ptr b 4, I (R.now + ticks), .func (.func 65) #[] #[ptr w.heap.size 0]] (((w3.setCell ⟨g, k * 5, none⟩ (I rate)).setCell ⟨g, k * 5 + 1, none⟩ (.pointer none)).drew.drewN m) fun e w5 => ∃ x : Nat, e = .returned (ptr x 0) ∧ w5.cell? ⟨w.heap.size, 0, none⟩ = some (ptr g (k * 5)) ∧ (∃ u, w5.cell? ⟨g, k * 5 + 1, none⟩ = some u) ∧ w5.frozen? ⟨g, k * 5 + 1, none⟩ = false ∧ Goes w b D vc vw ods (rbasal R k rate ticks) (w5.setCell ⟨g, k * 5 + 1, none⟩ (ptr x 0)) :=
      fun m => (M.out).2.2.2.2.2.2.2.2 ht' _ rfl (((Frm.refl _ _).drew).drewN m)
    generalize ((w3.setCell ⟨g, k * 5, none⟩ (I rate)).setCell ⟨g, k * 5 + 1, none⟩ (.pointer none)).drew = w4 at *
    have AD := hide ad
    clear ad fw p1 p2 p3 p4 p5 p6 p7 M
    have wr1 : IntKind.i64.wrap (R.now + ticks) = R.now + ticks := wrap_id _ (by omega) (by omega)
    go_wp2_with fail
    go_region_with (go_at_call 64; refine (AD.out _).mono ?_; rintro e w5 ⟨x, rfl, s1, ⟨u5, s2⟩, s3, hfin⟩; have HF := hide hfin; clear hfin)
    all_goals go_wp2_with fail
    all_goals go_ret
    all_goals exact ⟨rfl, HF.out⟩

end Go.Proofs.YtpilmkipbbengaaGreatDoor
