/- giveTick. -/
import Derived.Test.YtahiolfelcmikaaGreatDpass2
import Derived.Test.YtahiolfelcmikaaGreatRef4
namespace Go.Proofs.YtahiolfelcmikaaGreat
open Go.RowKit

/-- a channel against the document's -/
def ChRel (now : Int) (d : DCh) (c : RCh) : Prop :=
  c.rests = false ∧ d.rate = wbase now c ∧ (d.ent = none → c.til < 0 ∨ c.til ≤ now) ∧ ∀ e cb, d.ent = some (e, cb) → e.tick = c.til ∧ now < c.til

structure DRel (D : DSt) (R : RSt) : Prop where
  now : D.now = R.now
  lock : D.lock = R.lock
  os : R.os = []
  fits : Fits D.ws R.lims R.doses R.now
  past : ∀ d ∈ R.doses, d.tick < R.now
  nch : D.chs.length = R.chs.length
  ch : ∀ (k : Nat) (d : DCh) (c : RCh), D.chs[k]? = some d → R.chs[k]? = some c → ChRel R.now d c

theorem tks_os {R : RSt} (h : R.os = []) (j : Nat) : (tks j R).os = [] := by
  have := (tks_same j R).2.2.2.2
  rw [h] at this
  exact List.eq_nil_of_length_eq_zero (by simpa using this)

theorem tks_past {R : RSt} (h : ∀ d ∈ R.doses, d.tick < R.now) : ∀ j, ∀ d ∈ (tks j R).doses, d.tick ≤ R.now := by
  intro j
  induction j with
  | zero => intro d hd; have := h d hd; omega
  | succ j ih =>
    intro d hd
    simp only [tks] at hd
    unfold tk1 at hd
    split at hd
    · exact ih d hd
    · split at hd
      · exact ih d hd
      · rcases List.mem_append.1 hd with h1 | h1
        · exact ih d h1
        · simp at h1; subst h1; simp [(tks_same j R).2.2.1]

theorem Fits.nonneg {ws : List Wd} {lims : List Lim} {ds : List Ds} {now : Int} (h : Fits ws lims ds now) : ∀ l ∈ lims, 0 ≤ lft ds l now := by
  intro l hl
  obtain ⟨i, hi⟩ := List.getElem?_of_mem hl
  have hli : i < lims.length := (List.getElem?_eq_some_iff.1 hi).1
  have hlw : i < ws.length := by rw [h.1]; exact hli
  have hx := List.getElem?_eq_getElem hlw
  have hf := h.2 i _ l hx hi
  rw [← hf.left0]
  have := hf.ok.sum1
  omega

/-- on the way through a tick -/
structure TickD (w wr : World) (B b : Nat) (D : DSt) (vc vw : Value) (ws' : List Wd) (R R' : RSt) (xs : List Ds) (vout : Value) : Prop where
  lie : DAt wr b { D with ws := ws' } vc vw
  foot : ∀ x, WsF vw ws' x ↔ WsF vw D.ws x
  fits : Fits ws' R.lims R'.doses R.now
  out : wr.ownsRow 0 57 3 vout (xs ++ R'.doses.drop R.doses.length).length ((xs ++ R'.doses.drop R.doses.length).flatMap dsC)
  new : ∀ x, vout.ownBlock = some x → B ≤ x
  frm : Frm (fun x => WsF vw D.ws x ∨ B ≤ x) w wr

theorem TickD.keep {w wr w2 : World} {B b : Nat} {D : DSt} {vc vw : Value} {ws' : List Wd} {R R' : RSt} {xs : List Ds} {vout : Value} (h : TickD w wr B b D vc vw ws' R R' xs vout) (k : Keep wr w2) : TickD w w2 B b D vc vw ws' R R' xs vout :=
  ⟨h.lie.keep k, h.foot, h.fits, row_frm h.out k fun _ _ e => e, h.new, h.frm.trans2 k fun _ _ e => e.elim⟩

theorem TickD.more {w wr w2 w3 W : World} {B b : Nat} {D : DSt} {vc vw : Value} {ws' ws2 : List Wd} {R R' R2 : RSt} {xs : List Ds} {vout v' : Value} {d : Ds} (h : TickD w wr B b D vc vw ws' R R' xs vout) (hB : ∀ x, DF b D vc vw x → x < B) (hBw : B ≤ w.heap.size) (hle : R.doses.length ≤ R'.doses.length)
    (g1 : WsAt w2 vw ws2) (g2 : Fits ws2 R.lims (R'.doses ++ [d]) R.now) (g3 : ∀ x, WsF vw ws2 x ↔ WsF vw ws' x) (g4 : Frm (WsF vw ws') wr w2) (hW : Keep w2 W)
    (hown : w3.ownsRow 0 57 3 v' ((xs ++ R'.doses.drop R.doses.length).length + 1) ((xs ++ R'.doses.drop R.doses.length).flatMap dsC ++ [I d.tick, I d.ch, I d.amt])) (hg : W.grownBy w3 vout.ownBlock) (hnew : v'.ownBlock = vout.ownBlock ∨ (v'.ownBlock = some W.heap.size ∧ W.grownBy w3 none))
    (h2 : R2.doses = R'.doses ++ [d]) : TickD w w3 B b D vc vw ws2 R R2 xs v' := by
  have l2 : DAt w2 b { D with ws := ws2 } vc vw := h.lie.turned (ws' := ws2) g1 g3 g4
  have foot2 : ∀ x, WsF vw ws2 x ↔ WsF vw D.ws x := fun x => (g3 x).trans (h.foot x)
  have l3 : DAt W b { D with ws := ws2 } vc vw := l2.keep hW
  have hs1 := h.frm.size
  have hs2 := g4.size
  have hs3 := hW.size
  refine ⟨l3.frm (grown_frm hg) ?_, foot2, by rw [h2]; exact g2, ?_, ?_, ?_⟩
  · intro x hx hv
    have h3 := h.new x hv
    have h4 : DF b D vc vw x := by
      rcases hx with e | e | e | e
      · exact Or.inl e
      · exact Or.inr (Or.inl e)
      · exact Or.inr (Or.inr (Or.inl ((foot2 x).1 e)))
      · exact Or.inr (Or.inr (Or.inr e))
    have := hB x h4
    omega
  · rw [h2, drop_snoc _ _ _ hle]
    have e1 : (xs ++ (R'.doses.drop R.doses.length ++ [d])).length = (xs ++ R'.doses.drop R.doses.length).length + 1 := by simp; omega
    have e2 : (xs ++ (R'.doses.drop R.doses.length ++ [d])).flatMap dsC = (xs ++ R'.doses.drop R.doses.length).flatMap dsC ++ [I d.tick, I d.ch, I d.amt] := by simp [dsC]
    rw [e1, e2]; exact hown
  · intro x hx
    rcases hnew with e | ⟨e, -⟩
    · rw [e] at hx; exact h.new x hx
    · rw [e] at hx; injection hx with hx; omega
  · refine ((h.frm.trans (g4.mono fun x _ hx => Or.inl ((h.foot x).1 hx))).trans2 hW fun _ _ e => e.elim).trans2 (grown_frm hg) ?_
    intro x _ hv
    exact Or.inr (h.new x hv)

set_option maxRecDepth 100000 in
set_option maxHeartbeats 1600000 in
theorem giveTick_all (B b : Nat) (D : DSt) (vc vw vin : Value) (R : RSt) (xs : List Ds) (w : World) (h : DAt w b D vc vw) (rel : DRel D R) (ok : R.Ok) (hn : R.now < 400) (hd : R.doses.length ≤ 1996)
    (hin : w.ownsRow 0 57 3 vin xs.length (xs.flatMap dsC)) (hB : ∀ x, DF b D vc vw x → x < B) (hBw : B ≤ w.heap.size) (hvB : ∀ x, vin.ownBlock = some x → B ≤ x) (hxs : xs.length ≤ 100000) :
    Calls Tryz.prog 52 #[ptr b 0, vin] w fun e w' => ∃ vout ws', e = .returned vout ∧ TickD w w' B b D vc vw ws' R (tks R.chs.length R) xs vout := by
  obtain ⟨i, hi, hz0, hz1, hz2⟩ := info_parts infoD
  obtain ⟨sl, ag⟩ := h.ag
  obtain ⟨ac, cp, hvc⟩ := row_slice h.chs
  have c2 : w.cell? ⟨b, 2, none⟩ = some (.slice ac D.chs.length cp) := by rw [ag.head.cell, ← hvc]; rfl
  have nc : D.chs.length ≤ 4 := by rw [rel.nch]; exact ok.nc1
  have n0 := ok.now0
  have hst0 : TickD w w B b D vc vw D.ws R (tks 0 R) xs vin := ⟨h, fun _ => Iff.rfl, rel.fits, by simpa [tks] using hin, hvB, Frm.refl _ _⟩
  have H := hide (And.intro h (And.intro rel (And.intro ok (And.intro hst0 (And.intro hB (And.intro hvc hd))))))
  clear h rel ok hin hst0 hB hvc ag hd hvB
  go_enter Tryz.func52, Tryz.ntmps52
  go_wp2_with fail
  go_loopg [1, 5, 6, 12] D.chs.length (fun q vo _ _ i wr => ∃ j : Nat, q + j = D.chs.length ∧ i = I j ∧ Hid (∃ ws', TickD w wr B b D vc vw ws' R (tks j R) xs vo))
  case atStart => exact ⟨0, by omega, rfl, D.ws, (H.out).2.2.2.1⟩
  case round =>
    obtain ⟨j, hkj, rfl, hst⟩ := hrel
    obtain ⟨ws', ht⟩ := hst.out
    by_cases hj : j < D.chs.length
    · obtain ⟨d, hdd⟩ : ∃ d, D.chs[j]? = some d := ⟨_, List.getElem?_eq_getElem hj⟩
      obtain ⟨c, hcc⟩ : ∃ c, R.chs[j]? = some c := ⟨_, List.getElem?_eq_getElem (by rw [← (H.out).2.1.nch]; exact hj)⟩
      obtain ⟨hrest, hrate, -, -⟩ := (H.out).2.1.ch j d c hdd hcc
      obtain ⟨g, cap, hv, -, hcell, -⟩ := row_at ht.lie.chs (fun _ => rfl) hdd (by decide)
      have hvv := (H.out).2.2.2.2.2.1
      rw [hv] at hvv
      injection hvv with hv1 hv2 hv3
      subst hv1
      obtain ⟨sl2, ag2⟩ := ht.lie.ag
      have e0 : wr.cell? ⟨b, 0, none⟩ = some (I R.now) := by rw [ag2.head.cell, ← (H.out).2.1.now]; rfl
      have e2 : wr.cell? ⟨b, 2, none⟩ = some (.slice (some ⟨g, 0, none⟩) D.chs.length cap) := by rw [ag2.head.cell, ← hv]; rfl
      have e3 : wr.cell? ⟨b, 3, none⟩ = some vw := by rw [ag2.head.cell]; rfl
      have d0 := hcell 0 (by decide)
      have d2 := hcell 2 (by decide)
      have d3 := hcell 3 (by decide)
      simp [dchC] at d0 d2 d3
      have okj := tks_ok (H.out).2.2.1 hn (H.out).2.2.2.2.2.2 j (by omega)
      have hosj := tks_os (H.out).2.1.os j
      have hsame := tks_same j R
      have nl : ws'.length ≤ 6 := by rw [ht.fits.1]; exact (H.out).2.2.1.nl
      have WN := hide (fun x => wants_none g (j * 5) R.now d.rate (wr.drewN x) d0 d2 d3)
      have rm := fun x => room_any b vw ws' R.lims (tks j R).doses R.now j (wr.drewN x) e3 (ht.lie.ws.drewN x) ht.fits (by omega) (by omega) nl
      simp only [Int.toNat_natCast] at rm
      have RM := hide rm
      have hm0 : 0 ≤ rroom (tks j R).doses R.lims j R.now := room_nonneg ht.fits.nonneg
      have hm1 : rroom (tks j R).doses R.lims j R.now ≤ 1000 := (fold_bd (k := j) (t := R.now) okj.doses okj.nd R.lims (H.out).2.2.1.lims 1000 (by omega) (by omega)).2
      have hrb := (H.out).2.2.1.chs c (List.mem_of_getElem? hcc)
      have hr0 : 0 ≤ d.rate := by rw [hrate]; unfold wbase; split <;> omega
      have hr1 : d.rate ≤ 1000 := by rw [hrate]; unfold wbase; split <;> omega
      have hA : amt (tks j R) j c = if rroom (tks j R).doses R.lims j R.now < d.rate then rroom (tks j R).doses R.lims j R.now else d.rate := by
        have e1 : wnt R.now j c [] = d.rate := by rw [hrate]; simp [wnt, hrest, wsum]
        unfold amt
        rw [hsame.2.1, hsame.2.2.1, hosj, e1]
      have hstep : tks (j + 1) R = if amt (tks j R) j c ≤ 0 then tks j R else { tks j R with doses := (tks j R).doses ++ [⟨R.now, j, amt (tks j R) j c⟩], os := dist R.now j (tks j R).os (amt (tks j R) j c) } := by
        show tk1 j (tks j R) = _
        have e : (tks j R).chs[j]? = some c := by rw [hsame.1]; exact hcc
        unfold tk1
        simp only [e, hsame.2.2.1]
      have hgive : ∀ (A : Int) (n : Nat), 0 ≤ A → A ≤ 1000 → A ≤ rroom (tks j R).doses R.lims j R.now → Calls Tryz.prog 72 #[ptr b 0, I j, I A] (wr.drewN n) fun e w' => e = .returned (.tuple #[]) ∧ ∃ ws2, WsAt w' vw ws2 ∧ Fits ws2 R.lims ((tks j R).doses ++ [⟨R.now, j, A⟩]) R.now ∧ (∀ x, WsF vw ws2 x ↔ WsF vw ws' x) ∧ Frm (WsF vw ws') (wr.drewN n) w' :=
        fun A n a0 a1 a2 => give_all b g D.chs.length cap vw ws' R.lims (tks j R).doses R.now A j (wr.drewN n) e0 e2 hj (by omega) e3 d2 (ht.lie.ws.drewN n) ht.fits (fun l hl => ((H.out).2.2.1.lims l hl).w0) a0 a1 a2 nl
      have hnd := okj.nd
      have hle : R.doses.length ≤ (tks j R).doses.length := (tks_pre j R).length_le
      have hln : (xs ++ (tks j R).doses.drop R.doses.length).length ≤ 102000 := by simp; omega
      have GV := hide hgive
      have T := hide (And.intro ht (And.intro hA (And.intro hstep hle)))
      have SKIP : Hid (∀ n : Nat, amt (tks j R) j c ≤ 0 → ∃ k' : Nat, k' < gk ∧ ∃ j' : Nat, k' + j' = D.chs.length ∧ I ((j : Int) + 1) = I j' ∧ Hid (∃ ws', TickD w (wr.drewN n) B b D vc vw ws' R (tks j' R) xs u1)) := by
        intro n hz
        refine ⟨gk - 1, by omega, j + 1, by omega, by simp, ws', ?_⟩
        rw [hstep, if_pos hz]
        exact ht.keep ((Frm.refl _ _).drewN n)
      have MORE : Hid (∀ (n : Nat) (A : Int) (w2 W w3 : World) (v' : Value) (ws2 : List Wd), 0 < A → amt (tks j R) j c = A → WsAt w2 vw ws2 → Fits ws2 R.lims ((tks j R).doses ++ [⟨R.now, j, A⟩]) R.now → (∀ x, WsF vw ws2 x ↔ WsF vw ws' x) → Frm (WsF vw ws') (wr.drewN n) w2 → Keep w2 W →
          w3.ownsRow 0 57 3 v' ((xs ++ (tks j R).doses.drop R.doses.length).length + 1) ((xs ++ (tks j R).doses.drop R.doses.length).flatMap dsC ++ [I R.now, I j, I A]) → W.grownBy w3 u1.ownBlock → (v'.ownBlock = u1.ownBlock ∨ (v'.ownBlock = some W.heap.size ∧ W.grownBy w3 none)) →
          ∃ k' : Nat, k' < gk ∧ ∃ j' : Nat, k' + j' = D.chs.length ∧ I ((j : Int) + 1) = I j' ∧ Hid (∃ ws', TickD w w3 B b D vc vw ws' R (tks j' R) xs v')) := by
        intro n A w2 W w3 v' ws2 h0 hAA g1 g2 g3 g4 hW hown hg hnew
        refine ⟨gk - 1, by omega, j + 1, by omega, by simp, ws2, ?_⟩
        rw [hstep, if_neg (by omega), hAA]
        exact (ht.keep ((Frm.refl _ _).drewN n)).more (H.out).2.2.2.2.1 hBw hle g1 g2 g3 g4 hW (d := ⟨R.now, j, A⟩) hown hg hnew rfl
      clear hst ht hA hstep hgive rm hcell hv hv2 hv3 ag2 hosj hsame okj hrest hrate hrb hdd hcc hnd hle d0 d2 d3
      generalize rroom (tks j R).doses R.lims j R.now = m at *
      generalize d.rate = r at *
      by_cases q : m < r
      · go_wp2_with fail
        go_quiet ((first | (go_at_call 71; exact Calls.quiet_of (WN.out _)) | (go_at_call 56; exact Calls.quiet_of (RM.out _))))
        have hAA : amt (tks j R) j c = m := by rw [(T.out).2.1, if_pos q]
        have HAA := hide hAA
        clear hAA
        by_cases z : m = 0
        · go_wp2_with fail
          obtain ⟨k', m1, m2⟩ := SKIP.out nq (by rw [HAA.out]; omega)
          go_roundg k'
          case measure => exact m1
          case rel => exact m2
        · have z' : 0 < m := by omega
          go_wp2_with fail
          refine (GV.out m nq hm0 hm1 (Int.le_refl _)).mono ?_
          rintro e w2 ⟨rfl, ws2, g1, g2, g3, g4⟩
          have e0' : w2.cell? ⟨b, 0, none⟩ = some (I R.now) := g4.cell (p := ⟨b, 0, none⟩) e0 ((T.out).1.lie.sep.av b (Or.inl rfl))
          have hrow : (w2.alloc (.cells #[I R.now, I j, I m] 57)).ownsRow 0 57 3 u1 (xs ++ (tks j R).doses.drop R.doses.length).length ((xs ++ (tks j R).doses.drop R.doses.length).flatMap dsC) := by
            refine row_frm (row_frm ((T.out).1.keep ((Frm.refl _ _).drewN nq)).out g4 ?_) (show Keep _ _ from (Frm.refl _ _).alloc _) (fun _ _ e => e)
            intro x hx hw
            have h1 := (T.out).1.new x hx
            have h2 := (H.out).2.2.2.2.1 x (Or.inr (Or.inr (Or.inl (((T.out).1.foot x).1 hw))))
            omega
          have HROW := hide hrow
          have G := hide (And.intro g1 (And.intro g2 (And.intro g3 g4)))
          clear hrow g1 g2 g3 g4
          go_wp2_with (at_builtin; refine wpList_append_row _ rfl _ _ 50 rfl 57 i (.agg #[I 0, I 0, I 0]) 3 24 Tryz.underlying50 hi hz0 hz1 hz2 rfl (by decide) _ _ _ rfl HROW.out ⟨w2.heap.size, 0, none⟩ 1 1 [I R.now, I j, I m] rfl rfl (cell_news _ [I R.now, I j, I m] _ _ (by simp)) (by intro u hu; simp at hu; rcases hu with rfl | rfl | rfl <;> rfl) (by unfold maxLen; omega) (by omega) ?_; intro v' w3 hown hgr hnew; have FI := hide (MORE.out nq m w2 _ w3 v' ws2 z' HAA.out (G.out).1 (G.out).2.1 (G.out).2.2.1 (G.out).2.2.2 ((Frm.refl _ _).alloc _) hown hgr hnew); clear hown hgr hnew)
          obtain ⟨k', m1, m2⟩ := FI.out
          go_roundg k'
          case measure => exact m1
          case rel => exact m2
      · go_wp2_with fail
        go_quiet ((first | (go_at_call 71; exact Calls.quiet_of (WN.out _)) | (go_at_call 56; exact Calls.quiet_of (RM.out _))))
        have hAA : amt (tks j R) j c = r := by rw [(T.out).2.1, if_neg (by omega)]
        have HAA := hide hAA
        clear hAA
        by_cases z : r = 0
        · go_wp2_with fail
          obtain ⟨k', m1, m2⟩ := SKIP.out nq (by rw [HAA.out]; omega)
          go_roundg k'
          case measure => exact m1
          case rel => exact m2
        · have z' : 0 < r := by omega
          go_wp2_with fail
          refine (GV.out r nq hr0 hr1 (by omega)).mono ?_
          rintro e w2 ⟨rfl, ws2, g1, g2, g3, g4⟩
          have e0' : w2.cell? ⟨b, 0, none⟩ = some (I R.now) := g4.cell (p := ⟨b, 0, none⟩) e0 ((T.out).1.lie.sep.av b (Or.inl rfl))
          have hrow : (w2.alloc (.cells #[I R.now, I j, I r] 57)).ownsRow 0 57 3 u1 (xs ++ (tks j R).doses.drop R.doses.length).length ((xs ++ (tks j R).doses.drop R.doses.length).flatMap dsC) := by
            refine row_frm (row_frm ((T.out).1.keep ((Frm.refl _ _).drewN nq)).out g4 ?_) (show Keep _ _ from (Frm.refl _ _).alloc _) (fun _ _ e => e)
            intro x hx hw
            have h1 := (T.out).1.new x hx
            have h2 := (H.out).2.2.2.2.1 x (Or.inr (Or.inr (Or.inl (((T.out).1.foot x).1 hw))))
            omega
          have HROW := hide hrow
          have G := hide (And.intro g1 (And.intro g2 (And.intro g3 g4)))
          clear hrow g1 g2 g3 g4
          go_wp2_with (at_builtin; refine wpList_append_row _ rfl _ _ 50 rfl 57 i (.agg #[I 0, I 0, I 0]) 3 24 Tryz.underlying50 hi hz0 hz1 hz2 rfl (by decide) _ _ _ rfl HROW.out ⟨w2.heap.size, 0, none⟩ 1 1 [I R.now, I j, I r] rfl rfl (cell_news _ [I R.now, I j, I r] _ _ (by simp)) (by intro u hu; simp at hu; rcases hu with rfl | rfl | rfl <;> rfl) (by unfold maxLen; omega) (by omega) ?_; intro v' w3 hown hgr hnew; have FI := hide (MORE.out nq r w2 _ w3 v' ws2 z' HAA.out (G.out).1 (G.out).2.1 (G.out).2.2.1 (G.out).2.2.2 ((Frm.refl _ _).alloc _) hown hgr hnew); clear hown hgr hnew)
          obtain ⟨k', m1, m2⟩ := FI.out
          go_roundg k'
          case measure => exact m1
          case rel => exact m2
    · have hje : j = D.chs.length := by omega
      have HK := hide (And.intro hje (And.intro (H.out).2.1.nch ht))
      clear hkj hst hje ht
      go_wp2_with fail
      go_ret
      have e := HK.out
      rw [e.1] at e
      exact ⟨u1, ws', rfl, by rw [← e.2.1]; exact e.2.2⟩

end Go.Proofs.YtahiolfelcmikaaGreat
