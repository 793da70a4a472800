/- What both pumps are to the law: one machine (RSt), two ways to hold it in memory. -/
import Derived.Test.YtpilmkipbbengaaGreatDoorLaw4
namespace Go.Proofs.YtpilmkipbbengaaGreatDoor
open Go.RowKit

/-- the document's pump in memory -/
def ra : Rep := fun w F b R => ∃ vl vd vc vo, RefAt w b R vl vd vc vo ∧ F = RefF b vl vd vc vo

theorem ra_keep {w w' : World} {F : Nat → Prop} {b : Nat} {R : RSt} (h : ra w F b R) (k : Keep w w') : Moved ra w F b R w' := by
  obtain ⟨vl, vd, vc, vo, h, rfl⟩ := h
  exact ⟨k.mono (fun _ _ e => e.elim), _, ⟨vl, vd, vc, vo, h.keep k, rfl⟩, fun x hx => Or.inl hx⟩

theorem ref_pumpy : Pumpy 70 81 74 77 79 ra where
  frm := by
    rintro S w w' F b R ⟨vl, vd, vc, vo, h, rfl⟩ f hs
    exact ⟨vl, vd, vc, vo, h.frm f hs, rfl⟩
  lt := by
    rintro w F b R ⟨vl, vd, vc, vo, h, rfl⟩
    exact h.lt
  new := by
    intro c a lims cap lock w hs hn _
    refine (rNew_any c a lims cap lock w hs hn).mono ?_
    rintro e w' ⟨k, h | ⟨hf, b, vl, vc, rfl, hr, hx⟩⟩
    · exact ⟨k, Or.inl h⟩
    · exact ⟨k, Or.inr ⟨hf, b, _, rfl, ⟨vl, _, vc, _, hr, rfl⟩, hx⟩⟩
  basal := by
    rintro k rate ticks w F b R ⟨vl, vd, vc, vo, h, rfl⟩ ok _
    cases hb : basalBad R k rate ticks with
    | true =>
      refine (rBasal_no b R vl vd vc vo k rate ticks w h hb).mono ?_
      rintro e w' ⟨rfl, rfl⟩
      refine ⟨by simp [basalErr, hb], ?_⟩
      simp only [basalR, hb, if_true]
      exact ra_keep ⟨vl, vd, vc, vo, h, rfl⟩ (Frm.refl _ _)
    | false =>
      refine (rBasal_yes b R vl vd vc vo k rate ticks w h ok hb).mono ?_
      rintro e w' ⟨rfl, hr, hf⟩
      refine ⟨by simp [basalErr, hb], hf, _, ⟨vl, vd, vc, vo, ?_, rfl⟩, fun x hx => Or.inl hx⟩
      simpa [basalR, hb] using hr
  run := by
    rintro t w F b R ⟨vl, vd, vc, vo, h, rfl⟩ ok full
    by_cases h1 : t < 1 ∨ 100 < t
    · refine (rrun_arg b t w h1).mono ?_
      rintro e w' ⟨rfl, rfl⟩
      have e1 : runErr R t = 1 := by rw [runErr, if_pos h1]
      refine ⟨.slice none 0 0, by rw [e1], by simp [runDs, e1]; exact World.ownsRow_nil .., Frm.refl _ _, _, ⟨vl, vd, vc, vo, by simpa [runR, e1] using h, rfl⟩, fun x hx => Or.inl hx, fun x hx => by simp [Value.ownBlock] at hx⟩
    · by_cases h2 : 400 < R.now + t
      · refine (rrun_many b R vl vd vc vo t w h ok.now0 ok.now1 (by omega) (by omega) h2).mono ?_
        rintro e w' ⟨rfl, rfl⟩
        have e1 : runErr R t = 2 := by rw [runErr, if_neg h1, if_pos h2]
        refine ⟨.slice none 0 0, by rw [e1], by simp [runDs, e1]; exact World.ownsRow_nil .., Frm.refl _ _, _, ⟨vl, vd, vc, vo, by simpa [runR, e1] using h, rfl⟩, fun x hx => Or.inl hx, fun x hx => by simp [Value.ownBlock] at hx⟩
      · have e1 : runErr R t = 0 := by rw [runErr, if_neg h1, if_neg h2]
        obtain ⟨n, rfl⟩ := Int.eq_ofNat_of_zero_le (show 0 ≤ t by omega)
        have h0 := h.lt
        refine (rrun_any b R vl vd vc vo n w h ok full (by omega) (by omega) (by omega)).mono ?_
        rintro e w' ⟨vd', vout, rfl, hs⟩
        refine ⟨vout, by rw [e1], ?_, hs.frm, RefF b vl vd' vc vo, ⟨vl, vd', vc, vo, ?_, rfl⟩, ?_, ?_⟩
        · simp only [runDs, e1, if_true, Int.toNat_natCast]
          have := hs.out
          simpa using this
        · simpa [runR, e1] using hs.lie
        · rintro x (e | e | e | e | e)
          · exact Or.inl (Or.inl e)
          · exact Or.inl (Or.inr (Or.inl e))
          · rcases hs.nd with e' | ⟨g, e', hg⟩
            · exact Or.inl (Or.inr (Or.inr (Or.inl (by rw [← e', e]))))
            · rw [e'] at e; injection e with e; exact Or.inr (by omega)
          · exact Or.inl (Or.inr (Or.inr (Or.inr (Or.inl e))))
          · exact Or.inl (Or.inr (Or.inr (Or.inr (Or.inr e))))
        · intro x hx
          have hn := hs.no x hx
          refine ⟨hn, ?_⟩
          rintro (e | e | e | e | e)
          · have := h0 x (Or.inl e); omega
          · have := h0 x (Or.inr (Or.inl e)); omega
          · exact hs.sep x hx e
          · have := h0 x (Or.inr (Or.inr (Or.inr (Or.inl e)))); omega
          · have := h0 x (Or.inr (Or.inr (Or.inr (Or.inr e)))); omega
  room := by
    rintro k w F b R hra ok _
    obtain ⟨vl, vd, vc, vo, h, hF⟩ := id hra
    cases hk : isCh R k with
    | true =>
      refine (rRoom_yes b R vl vd vc vo k w h ok hk).mono ?_
      rintro e w' ⟨rfl, kk⟩
      exact ⟨by simp [roomV, hk], ra_keep hra kk⟩
    | false =>
      refine (rRoom_no b R vl vd vc vo k w h hk).mono ?_
      rintro e w' ⟨rfl, rfl⟩
      exact ⟨by simp [roomV, hk], ra_keep hra (Frm.refl _ _)⟩
  wait := by
    rintro k a w F b R hra ok _
    obtain ⟨vl, vd, vc, vo, h, hF⟩ := id hra
    by_cases hb : isCh R k = false ∨ a < 0 ∨ 1000 < a
    · refine (rWait_no b R vl vd vc vo k a w h hb).mono ?_
      rintro e w' ⟨rfl, rfl⟩
      exact ⟨Or.inl ⟨hb, rfl⟩, ra_keep hra (Frm.refl _ _)⟩
    · have hk : isCh R k = true := by
        cases hh : isCh R k with
        | true => rfl
        | false => exact absurd (Or.inl hh) hb
      have a0 : 0 ≤ a := by omega
      have a1 : a ≤ 1000 := by omega
      refine (rWait_yes b R vl vd vc vo k a w h ok hk a0 a1).mono ?_
      rintro e w' ⟨r, rfl, hr, kk⟩
      exact ⟨Or.inr ⟨hk, a0, a1, r, rfl, hr⟩, ra_keep hra kk⟩

end Go.Proofs.YtpilmkipbbengaaGreatDoor
