/- pass. -/
import Derived.Test.YtahiolfelcmikaaGreatDpass
namespace Go.Proofs.YtahiolfelcmikaaGreat
open Go.RowKit

/-- what a tick leaves of the pump -/
structure PassEnd (w w' : World) (b : Nat) (D D' : DSt) (vc vw : Value) (lims : List Lim) (ds : List Ds) : Prop where
  lie : DAt w' b D' vc vw
  now : D'.now = D.now + 1
  lock : D'.lock = D.lock
  fits : Fits D'.ws lims ds (D.now + 1)
  nch : D'.chs.length = D.chs.length
  chs : ∀ (k : Nat) (d : DCh), D'.chs[k]? = some d → ∃ d0, D.chs[k]? = some d0 ∧ (d = d0 ∨ (d = ⟨0, none⟩ ∧ ∃ e cb, d0.ent = some (e, cb) ∧ e.tick ≤ D.now + 1))
  late : ∀ (k : Nat) (d : DCh) (e : Ent) (cb : Nat), D'.chs[k]? = some d → d.ent = some (e, cb) → D.now + 1 < e.tick
  foot : ∀ x, DF b D' vc vw x → DF b D vc vw x
  frm : Frm (DF b D vc vw) w w'

theorem ents_in_mem {chs : List DCh} {k : Nat} {c : DCh} {e : Ent} {cb : Nat} (hk : chs[k]? = some c) (he : c.ent = some (e, cb)) : e ∈ entsOf chs :=
  List.mem_filterMap.2 ⟨c, List.mem_of_getElem? hk, by rw [he]; rfl⟩

theorem reached (w0 w' : World) (b : Nat) (D0 : DSt) (vc vw : Value) (e : Ending) (h : ReachEnd (RInv w0 b D0 vc vw D0.now) b 4 D0.now e w') :
    e = .returned (.tuple #[]) ∧ ∃ D : DSt, DAt w' b D vc vw ∧ D.now = D0.now ∧ D.lock = D0.lock ∧ D.ws = D0.ws ∧ D.chs.length = D0.chs.length ∧
    (∀ (k : Nat) (d : DCh), D.chs[k]? = some d → ∃ d0, D0.chs[k]? = some d0 ∧ (d = d0 ∨ (d = ⟨0, none⟩ ∧ ∃ e cb, d0.ent = some (e, cb) ∧ e.tick ≤ D0.now))) ∧
    (∀ (k : Nat) (d : DCh) (e : Ent) (cb : Nat), D.chs[k]? = some d → d.ent = some (e, cb) → D0.now < e.tick) ∧
    (∀ x, DF b D vc vw x → DF b D0 vc vw x) ∧ Frm (DF b D0 vc vw) w0 w' := by
  obtain ⟨rfl, n, c, T, eb, es, ⟨D, h, hn, h1, h2, h3, h4, h5, h6, h7, h8⟩, hdue, hend⟩ := h
  refine ⟨rfl, D, h, h1, h2, h3, h5, h6, ?_, h7, h8⟩
  intro k d e cb hk he
  have hm : e ∈ D.es := h.perm.mem_iff.2 (ents_in_mem hk he)
  obtain ⟨sl, ag⟩ := h.ag
  have heq := hdue.1.unique ag
  subst heq
  rcases hend with hend | hend
  · rw [hend] at hm; cases hm
  · obtain ⟨i, hi⟩ := List.getElem?_of_mem hm
    have hil := (List.getElem?_eq_some_iff.1 hi).1
    have := hdue.2.1.root i hil
    have e1 : ix D.es i = e := by simp [ix, hi]
    rw [e1] at this
    unfold le at this
    omega

set_option maxRecDepth 100000 in
set_option maxHeartbeats 1600000 in
theorem pass_all (b : Nat) (D : DSt) (vc vw : Value) (lims : List Lim) (ds : List Ds) (w : World) (h : DAt w b D vc vw) (hf : Fits D.ws lims ds D.now) (hl : ∀ l ∈ lims, 1 ≤ l.win) (hd : ∀ d ∈ ds, d.tick ≤ D.now)
    (nl : D.ws.length ≤ 6) (nc : D.chs.length ≤ 4) (n0 : 0 ≤ D.now) (n1 : D.now ≤ 400) :
    Calls Tryz.prog 53 #[ptr b 0] w fun e w' => e = .returned (.tuple #[]) ∧ ∃ D', PassEnd w w' b D D' vc vw lims ds := by
  obtain ⟨av, cp, rfl⟩ := row_slice h.ws.row
  obtain ⟨sl, ag⟩ := h.ag
  have c0 : w.cell? ⟨b, 0, none⟩ = some (I D.now) := by rw [ag.head.cell]; rfl
  have c3 : w.cell? ⟨b, 3, none⟩ = some (.slice av D.ws.length cp) := by rw [ag.head.cell]; rfl
  have f0 : w.frozen? ⟨b, 0, none⟩ = false := ag.head.frozen 0
  obtain ⟨hs, hsf⟩ := h.setNow (D.now + 1)
  have H := hide (And.intro h (And.intro hf (And.intro hl (And.intro hd (And.intro hs hsf)))))
  clear h hf hl hd hs hsf ag
  go_enter Tryz.func53, Tryz.ntmps53
  go_wp2_with fail
  go_loopg [3, 16] D.ws.length (fun q _ i wr => ∃ j : Nat, q + j = D.ws.length ∧ i = I j ∧ Hid (∃ ws', Turn (w.setCell ⟨b, 0, none⟩ (I (D.now + 1))) wr (.slice av D.ws.length cp) D.ws ws' lims j fun W l => Fit W l ds (D.now + 1)))
  case atStart => exact ⟨0, by omega, rfl, D.ws, Turn.start _ _ (H.out).2.2.2.2.1.ws (Frm.refl _ _)⟩
  case round =>
    obtain ⟨j, hkj, rfl, hst⟩ := hrel
    obtain ⟨ws', ht⟩ := hst.out
    have hlen := ht.len
    by_cases hj : j < D.ws.length
    · obtain ⟨x, hx⟩ : ∃ x, ws'[j]? = some x := ⟨_, List.getElem?_eq_getElem (by omega)⟩
      have hx0 : D.ws[j]? = some x := by rw [← ht.rest j (Nat.le_refl _)]; exact hx
      obtain ⟨l, hl, hfit⟩ := (H.out).2.1.fit hx0
      obtain ⟨g', cap', hv, -, hcell⟩ := ht.lie.cell hx
      injection hv with hv1 hv2 hv3
      subst hv1
      have hwin := ht.lie.each j x hx
      have GG := hide (pass_any x.1 x.2.1 x.2.2 wr hwin hfit.ok)
      have hwl := (H.out).2.2.1 l (List.mem_of_getElem? hl)
      have NX : Hid (∀ w2, Frm (fun b => b = x.1 ∨ b = x.2.1) wr w2 → WinAt w2 x.1 x.2.1 x.2.2.pass → ∃ k' : Nat, k' < gk ∧ ∃ j' : Nat, k' + j' = D.ws.length ∧ I ((j : Int) + 1) = I j' ∧ Hid (∃ ws', Turn (w.setCell ⟨b, 0, none⟩ (I (D.now + 1))) w2 (.slice (some ⟨g', 0, none⟩) D.ws.length cp) D.ws ws' lims j' fun W l => Fit W l ds (D.now + 1))) := by
        intro w2 hf2 hw2
        exact ⟨gk - 1, by omega, j + 1, by omega, by simp, _, ht.next hx hl hf2 hw2 (hfit.pass hwl (H.out).2.2.2.1)⟩
      clear hwin hfit hx hx0 hl hwl hst ht hv2 hv3 hlen
      go_wp2_with fail
      refine (GG.out).mono ?_
      rintro e w2 ⟨rfl, f2, hw2⟩
      obtain ⟨k', m1, m2⟩ := NX.out w2 f2 hw2
      have M1 := hide m1
      have M2 := hide m2
      clear m1 m2 f2 hw2
      go_wp2_with fail
      go_roundg k'
      case measure => exact M1.out
      case rel => exact M2.out
    · have hje : j = D.ws.length := by omega
      rw [hje] at ht
      have hD := (H.out).2.2.2.2.1.turned ht.lie ht.foot ht.frm
      have hfits := ht.fits (H.out).2.1.1
      have fD : Frm (DF b D (vc) (.slice av D.ws.length cp)) w wr := (H.out).2.2.2.2.2.trans (ht.frm.mono fun x _ hx => Or.inr (Or.inr (Or.inl hx)))
      obtain ⟨sl2, ag2⟩ := hD.ag
      have d0 : wr.cell? ⟨b, 0, none⟩ = some (I (D.now + 1)) := by rw [ag2.head.cell]; rfl
      have footD : ∀ x, DF b { D with now := D.now + 1, ws := ws' } vc (.slice av D.ws.length cp) x → DF b D vc (.slice av D.ws.length cp) x := by
        rintro x (e | e | e | e)
        · exact Or.inl e
        · exact Or.inr (Or.inl e)
        · exact Or.inr (Or.inr (Or.inl ((ht.foot x).1 e)))
        · exact Or.inr (Or.inr (Or.inr e))
      have RE : Hid (∀ m, Calls Tryz.prog 74 #[ptr b 4, I (D.now + 1)] (wr.drewN m) fun e w' => e = .returned (.tuple #[]) ∧ ∃ D', PassEnd w w' b D D' vc (.slice av D.ws.length cp) lims ds) := by
        intro m
        have hi : RInv wr b { D with now := D.now + 1, ws := ws' } vc (.slice av D.ws.length cp) (D.now + 1) (wr.drewN m) D.es.length :=
          ⟨_, hD.keep ((Frm.refl _ _).drewN _), rfl, rfl, rfl, rfl, rfl, rfl, fun k d hk => ⟨d, hk, Or.inl rfl⟩, fun _ hx => hx, (Frm.refl _ _).drewN _⟩
        refine (reach_any _ b 4 (D.now + 1) (rinv_due wr b { D with now := D.now + 1, ws := ws' } vc _ (D.now + 1) nc) D.es.length (wr.drewN m) hi).mono ?_
        intro e w' he
        obtain ⟨rfl, D', r1, r2, r3, r4, r5, r6, r7, r8, r9⟩ := reached wr w' b { D with now := D.now + 1, ws := ws' } vc _ e he
        exact ⟨rfl, D', r1, r2, r3, by rw [r4]; exact hfits, r5, r6, r7, fun x hx => footD x (r8 x hx), fD.trans (r9.mono fun x _ hx => footD x hx)⟩
      clear hkj hst hje ht hlen hD hfits fD ag2 footD
      go_wp2_with fail
      go_region_with (go_at_call 74; refine (RE.out _).mono ?_; rintro e w' ⟨rfl, he⟩)
      all_goals go_wp2_with fail
      all_goals go_end0
      all_goals exact ⟨rfl, he⟩

end Go.Proofs.YtahiolfelcmikaaGreat
