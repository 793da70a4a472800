/- The program's pump is one. -/
import Derived.Test.YtahiolfelcmikaaGreatDnew
import Derived.Test.YtahiolfelcmikaaGreatIface
namespace Go.Proofs.YtahiolfelcmikaaGreat
open Go.RowKit

/-- the program's pump in memory -/
def pd : Rep := fun w F b R => ∃ D vc vw, DAt w b D vc vw ∧ DRel D R ∧ F = DF b D vc vw

theorem pd_keep {w w' : World} {F : Nat → Prop} {b : Nat} {R : RSt} (h : pd w F b R) (k : Keep w w') : Moved pd w F b R w' := by
  obtain ⟨D, vc, vw, h, rel, rfl⟩ := h
  exact ⟨k.mono (fun _ _ e => e.elim), _, ⟨D, vc, vw, h.keep k, rel, rfl⟩, fun x hx => Or.inl hx⟩

theorem ents_none (n : Nat) : entsOf (List.replicate n ⟨0, none⟩) = [] := by
  induction n with
  | zero => rfl
  | succ n ih => rw [List.replicate_succ]; unfold entsOf at ih ⊢; rw [List.filterMap_cons]; simp

theorem new_pd {w w' : World} {b : Nat} {c lock : Int} {a : Option Addr} {cap : Nat} {lims : List Lim} {vc vw : Value} {ws : List Wd} (h : DNewSt w w' b c lock a cap lims vc vw ws lims.length) (_hc : 1 ≤ c) :
    ∃ F, pd w' F b (rnew c.toNat lims lock) ∧ ∀ x, F x → w.heap.size ≤ x := by
  have hnoK : ∀ x, ¬ KsF (List.replicate c.toNat (⟨0, none⟩ : DCh)) x := by
    rintro x ⟨k, d, e, h1, h2⟩
    have := List.eq_of_mem_replicate (List.mem_of_getElem? h1)
    subst this
    simp at h2
  have hA : ∀ x, AgF b none [] x → x = b := by
    rintro x (e | e | ⟨e, he, -⟩)
    · exact e
    · simp at e
    · simp at he
  have hlt := h.lt
  refine ⟨_, ⟨⟨0, lock, List.replicate c.toNat ⟨0, none⟩, ws, 0, none, []⟩, vc, vw, ⟨⟨.slice none 0 0, ?_⟩, ?_, by simpa using h.chs, h.lie, ?_, ?_, ?_⟩, ?_, rfl⟩, ?_⟩
  · exact ⟨h.head, ⟨.slice none 0 0, rfl, World.ownsRow_nil .., rfl⟩, by simp, by simp, by simp, by simp⟩
  · intro k _ hk; simp at hk
  · intro k d e cb h1 h2
    exact absurd ⟨k, d, e, h1, h2⟩ (hnoK cb)
  · rw [ents_none]
  · refine ⟨?_, ?_, fun x _ => hnoK x, h.cv, fun x _ => hnoK x, fun x _ => hnoK x⟩
    · intro x hx hc'; exact (h.nw x (Or.inl hc')).2 (hA x hx)
    · intro x hx hw; exact (h.nw x (Or.inr hw)).2 (hA x hx)
  · have hf := h.fits
    rw [List.take_length] at hf
    refine ⟨rfl, rfl, rfl, hf, by simp [rnew], by simp [rnew], ?_⟩
    intro k d r hd hr
    have e1 := List.eq_of_mem_replicate (List.mem_of_getElem? hd)
    have e2 := List.eq_of_mem_replicate (List.mem_of_getElem? hr)
    subst e1; subst e2
    refine ⟨rfl, by simp [wbase, ch0], fun _ => Or.inl (by simp [ch0]), fun e cb he => by simp at he⟩
  · rintro x (e | e | e | e)
    · have := hA x e; omega
    · have := (h.nw x (Or.inl e)).1; omega
    · have := (h.nw x (Or.inr e)).1; omega
    · exact absurd e (hnoK x)

theorem drip_pumpy : Pumpy 17 34 23 27 29 pd where
  frm := by
    rintro S w w' F b R ⟨D, vc, vw, h, rel, rfl⟩ f hs
    exact ⟨D, vc, vw, h.frm f hs, rel, rfl⟩
  lt := by
    rintro w F b R ⟨D, vc, vw, h, rel, rfl⟩
    exact h.lt
  new := by
    intro c a lims cap lock w hs hn hl
    refine (New_any c a lims cap lock w hs hn hl).mono ?_
    rintro e w' ⟨k, ⟨hf, rfl⟩ | ⟨hf, b, vc, vw, ws, rfl, hst⟩⟩
    · exact ⟨k, Or.inl ⟨hf, rfl⟩⟩
    · have hc : 1 ≤ c := by
        simp [fineB, badHead] at hf
        omega
      obtain ⟨F, h1, h2⟩ := new_pd hst hc
      exact ⟨k, Or.inr ⟨hf, b, F, rfl, h1, h2⟩⟩
  basal := by
    rintro k rate ticks w F b R hpd ok _
    obtain ⟨D, vc, vw, h, rel, hF⟩ := id hpd
    cases hb : basalBad R k rate ticks with
    | true =>
      refine (Basal_no b D vc vw R k rate ticks w h rel ok hb).mono ?_
      rintro e w' ⟨rfl, rfl⟩
      refine ⟨by simp [basalErr, hb], ?_⟩
      simp only [basalR, hb, if_true]
      exact pd_keep hpd (Frm.refl _ _)
    | false =>
      refine (Basal_yes b D vc vw R k rate ticks w h rel ok hb).mono ?_
      rintro e w' ⟨rfl, D', h1, h2, h3, h4⟩
      subst hF
      refine ⟨by simp [basalErr, hb], h4, _, ⟨D', vc, vw, h1, ?_, rfl⟩, h3⟩
      simpa [basalR, hb] using h2
  run := by
    rintro t w F b R ⟨D, vc, vw, h, rel, rfl⟩ ok full
    obtain ⟨sl, ag⟩ := h.ag
    have c0 : w.cell? ⟨b, 0, none⟩ = some (I R.now) := by rw [ag.head.cell, ← rel.now]; rfl
    by_cases h1 : t < 1 ∨ 100 < t
    · refine (run_arg b t w h1).mono ?_
      rintro e w' ⟨rfl, rfl⟩
      have e1 : runErr R t = 1 := by rw [runErr, if_pos h1]
      refine ⟨.slice none 0 0, by rw [e1], by simp [runDs, e1]; exact World.ownsRow_nil .., Frm.refl _ _, _, ⟨D, vc, vw, h, by simpa [runR, e1] using rel, rfl⟩, fun x hx => Or.inl hx, fun x hx => by simp [Value.ownBlock] at hx⟩
    · by_cases h2 : 400 < R.now + t
      · refine (run_many b t R.now w c0 ok.now0 ok.now1 (by omega) (by omega) h2).mono ?_
        rintro e w' ⟨rfl, rfl⟩
        have e1 : runErr R t = 2 := by rw [runErr, if_neg h1, if_pos h2]
        refine ⟨.slice none 0 0, by rw [e1], by simp [runDs, e1]; exact World.ownsRow_nil .., Frm.refl _ _, _, ⟨D, vc, vw, h, by simpa [runR, e1] using rel, rfl⟩, fun x hx => Or.inl hx, fun x hx => by simp [Value.ownBlock] at hx⟩
      · have e1 : runErr R t = 0 := by rw [runErr, if_neg h1, if_neg h2]
        obtain ⟨n, rfl⟩ := Int.eq_ofNat_of_zero_le (show 0 ≤ t by omega)
        have h0 := h.lt
        refine (run_all b D vc vw R n w h rel ok full (by omega) (by omega) (by omega)).mono ?_
        rintro e w' ⟨vout, D', rfl, hs⟩
        refine ⟨vout, by rw [e1], ?_, hs.frm.mono fun x hx hh => ?_, _, ⟨D', vc, vw, hs.lie, ?_, rfl⟩, fun x hx => Or.inl (hs.foot x hx), ?_⟩
        · simp only [runDs, e1, if_true, Int.toNat_natCast]
          exact hs.out
        · rcases hh with e | e
          · exact e
          · omega
        · simpa [runR, e1] using hs.rel
        · intro x hx
          have hn := hs.new x hx
          refine ⟨hn, fun e => ?_⟩
          have := h0 x (hs.foot x e); omega
  room := by
    rintro k w F b R hpd ok _
    obtain ⟨D, vc, vw, h, rel, hF⟩ := id hpd
    cases hk : isCh R k with
    | true =>
      refine (Room_yes b D vc vw R k w h rel ok hk).mono ?_
      rintro e w' ⟨rfl, n, rfl⟩
      exact ⟨by simp [roomV, hk], pd_keep hpd ((Frm.refl _ _).drewN n)⟩
    | false =>
      refine (Room_no b D vc vw R k w h rel ok hk).mono ?_
      rintro e w' ⟨rfl, rfl⟩
      exact ⟨by simp [roomV, hk], pd_keep hpd (Frm.refl _ _)⟩
  wait := by
    rintro k a w F b R hpd ok _
    obtain ⟨D, vc, vw, h, rel, hF⟩ := id hpd
    by_cases hb : isCh R k = false ∨ a < 0 ∨ 1000 < a
    · refine (Wait_no b D vc vw R k a w h rel ok hb).mono ?_
      rintro e w' ⟨rfl, rfl⟩
      exact ⟨Or.inl ⟨hb, rfl⟩, pd_keep hpd (Frm.refl _ _)⟩
    · have hk : isCh R k = true := by
        cases hh : isCh R k with
        | true => rfl
        | false => exact absurd (Or.inl hh) hb
      have a0 : 0 ≤ a := by omega
      have a1 : a ≤ 1000 := by omega
      refine (Wait_yes b D vc vw R k a w h rel ok hk a0 a1).mono ?_
      rintro e w' ⟨⟨r, rfl, hr⟩, n, rfl⟩
      exact ⟨Or.inr ⟨hk, a0, a1, r, rfl, hr⟩, pd_keep hpd ((Frm.refl _ _).drewN n)⟩

end Go.Proofs.YtahiolfelcmikaaGreat
