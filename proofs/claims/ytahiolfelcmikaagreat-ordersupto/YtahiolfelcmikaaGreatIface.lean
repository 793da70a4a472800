/- What both pumps are to the law: one machine (RSt), two ways to hold it in memory. -/
import Derived.Test.YtahiolfelcmikaaGreatLaw4
namespace Go.Proofs.YtahiolfelcmikaaGreat
open Go.RowKit

/-- how a pump lies in memory: its blocks, its first block, what it is -/
abbrev Rep := World → (Nat → Prop) → Nat → RSt → Prop

/-- a call has changed the pump's own blocks alone -/
def Moved (pa : Rep) (w : World) (F : Nat → Prop) (b : Nat) (R' : RSt) (w' : World) : Prop := Frm F w w' ∧ ∃ F', pa w' F' b R' ∧ ∀ x, F' x → F x ∨ w.heap.size ≤ x

def runErr (R : RSt) (t : Int) : Int := if t < 1 ∨ 100 < t then 1 else if 400 < R.now + t then 2 else 0
def runR (R : RSt) (t : Int) : RSt := if runErr R t = 0 then rticks t.toNat R else R
def runDs (R : RSt) (t : Int) : List Ds := if runErr R t = 0 then (rticks t.toNat R).doses.drop R.doses.length else []

def RunOut (pa : Rep) (w : World) (F : Nat → Prop) (b : Nat) (R : RSt) (t : Int) (e : Ending) (w' : World) : Prop :=
  ∃ vout, e = .returned (.tuple #[vout, I (runErr R t)]) ∧ w'.ownsRow 0 57 3 vout (runDs R t).length ((runDs R t).flatMap dsC) ∧ Frm F w w' ∧
    ∃ F', pa w' F' b (runR R t) ∧ (∀ x, F' x → F x ∨ w.heap.size ≤ x) ∧ (∀ x, vout.ownBlock = some x → w.heap.size ≤ x ∧ ¬ F' x)

def NewOut (pa : Rep) (w : World) (c : Int) (lims : List Lim) (lock : Int) (e : Ending) (w' : World) : Prop := Keep w w' ∧
  ((fineB c lims lock = false ∧ e = .returned (.tuple #[.pointer none, I 1])) ∨
   (fineB c lims lock = true ∧ ∃ b F, e = .returned (.tuple #[.pointer (some ⟨b, 0, none⟩), I 0]) ∧ pa w' F b (rnew c.toNat lims lock) ∧ (∀ x, F x → w.heap.size ≤ x)))

def basalErr (R : RSt) (k rate ticks : Int) : Int := if basalBad R k rate ticks = true then 1 else 0
def basalR (R : RSt) (k rate ticks : Int) : RSt := if basalBad R k rate ticks = true then R else rbasal R k.toNat rate ticks

def roomV (R : RSt) (k : Int) : Value := if isCh R k = true then .tuple #[I (rroom R.doses R.lims k.toNat R.now), I 0] else .tuple #[I 0, I 1]
/-- Wait's answer -/
def WaitOut (R : RSt) (k a : Int) (e : Ending) : Prop :=
  ((isCh R k = false ∨ a < 0 ∨ 1000 < a) ∧ e = .returned (.tuple #[I 0, .bool false, I 1])) ∨ (isCh R k = true ∧ 0 ≤ a ∧ a ≤ 1000 ∧ ∃ r, e = .returned (waitV r) ∧ WaitOk R k.toNat a r)

/-- what the law asks of a pump: stage 1's calls -/
structure Pumpy (fNew fBasal fRun fRoom fWait : FuncId) (pa : Rep) : Prop where
  frm : ∀ {S : Nat → Prop} {w w' : World} {F : Nat → Prop} {b : Nat} {R : RSt}, pa w F b R → Frm S w w' → (∀ x, F x → ¬ S x) → pa w' F b R
  lt : ∀ {w : World} {F : Nat → Prop} {b : Nat} {R : RSt}, pa w F b R → ∀ x, F x → x < w.heap.size
  new : ∀ (c : Int) (a : Option Addr) (lims : List Lim) (cap : Nat) (lock : Int) (w : World), SeeL w a lims → (a = none → lims.length = 0 ∧ cap = 0) → lims.length ≤ 10000000 →
    Calls Tryz.prog fNew #[cfgV c a lims.length cap lock] w fun e w' => NewOut pa w c lims lock e w'
  basal : ∀ (k rate ticks : Int) (w : World) (F : Nat → Prop) (b : Nat) (R : RSt), pa w F b R → R.Ok → R.Full →
    Calls Tryz.prog fBasal #[.pointer (some ⟨b, 0, none⟩), I k, I rate, I ticks] w fun e w' => e = .returned (I (basalErr R k rate ticks)) ∧ Moved pa w F b (basalR R k rate ticks) w'
  run : ∀ (t : Int) (w : World) (F : Nat → Prop) (b : Nat) (R : RSt), pa w F b R → R.Ok → R.Full →
    Calls Tryz.prog fRun #[.pointer (some ⟨b, 0, none⟩), I t] w fun e w' => RunOut pa w F b R t e w'
  room : ∀ (k : Int) (w : World) (F : Nat → Prop) (b : Nat) (R : RSt), pa w F b R → R.Ok → R.Full →
    Calls Tryz.prog fRoom #[.pointer (some ⟨b, 0, none⟩), I k] w fun e w' => e = .returned (roomV R k) ∧ Moved pa w F b R w'
  wait : ∀ (k a : Int) (w : World) (F : Nat → Prop) (b : Nat) (R : RSt), pa w F b R → R.Ok → R.Full →
    Calls Tryz.prog fWait #[.pointer (some ⟨b, 0, none⟩), I k, I a] w fun e w' => WaitOut R k a e ∧ Moved pa w F b R w'

theorem waitOk_unique {R : RSt} {k : Nat} {a : Int} {r s : Option Nat} (h1 : WaitOk R k a r) (h2 : WaitOk R k a s) : r = s := by
  cases r with
  | none =>
    cases s with
    | none => rfl
    | some n => have := h1 n h2.1; have := h2.2.1; omega
  | some m =>
    cases s with
    | none => have := h2 m h1.1; have := h1.2.1; omega
    | some n =>
      rcases Nat.lt_trichotomy m n with h | h | h
      · have := h2.2.2 m h; have := h1.2.1; omega
      · rw [h]
      · have := h1.2.2 n h; have := h2.2.1; omega

theorem waitOut_unique {R : RSt} {k a : Int} {e f : Ending} (h1 : WaitOut R k a e) (h2 : WaitOut R k a f) : e = f := by
  rcases h1 with ⟨h, rfl⟩ | ⟨c1, c2, c3, r, rfl, hr⟩
  · rcases h2 with ⟨_, rfl⟩ | ⟨c1, c2, c3, _⟩
    · rfl
    · exfalso; rcases h with h | h | h
      · rw [c1] at h; cases h
      · omega
      · omega
  · rcases h2 with ⟨h, _⟩ | ⟨_, _, _, s, rfl, hs⟩
    · exfalso; rcases h with h | h | h
      · rw [c1] at h; cases h
      · omega
      · omega
    · rw [waitOk_unique hr hs]

/-- the document's pump in memory -/
def ra : Rep := fun w F b R => ∃ vl vd vc vo, RefAt w b R vl vd vc vo ∧ F = RefF b vl vd vc vo

theorem ra_keep {w w' : World} {F : Nat → Prop} {b : Nat} {R : RSt} (h : ra w F b R) (k : Keep w w') : Moved ra w F b R w' := by
  obtain ⟨vl, vd, vc, vo, h, rfl⟩ := h
  exact ⟨k.mono (fun _ _ e => e.elim), _, ⟨vl, vd, vc, vo, h.keep k, rfl⟩, fun x hx => Or.inl hx⟩

theorem ref_pumpy : Pumpy 18 35 24 28 30 ra where
  frm := by
    rintro S w w' F b R ⟨vl, vd, vc, vo, h, rfl⟩ f hs
    exact ⟨vl, vd, vc, vo, h.frm f hs, rfl⟩
  lt := by
    rintro w F b R ⟨vl, vd, vc, vo, h, rfl⟩
    exact h.lt
  new := by
    intro c a lims cap lock w hs hn _
    refine (rNew_any c a lims cap lock w hs hn).mono ?_
    rintro e w' ⟨k, h | ⟨hf, b, vl, vc, rfl, hr, hx⟩⟩
    · exact ⟨k, Or.inl h⟩
    · exact ⟨k, Or.inr ⟨hf, b, _, rfl, ⟨vl, _, vc, _, hr, rfl⟩, hx⟩⟩
  basal := by
    rintro k rate ticks w F b R ⟨vl, vd, vc, vo, h, rfl⟩ ok _
    cases hb : basalBad R k rate ticks with
    | true =>
      refine (rBasal_no b R vl vd vc vo k rate ticks w h hb).mono ?_
      rintro e w' ⟨rfl, rfl⟩
      refine ⟨by simp [basalErr, hb], ?_⟩
      simp only [basalR, hb, if_true]
      exact ra_keep ⟨vl, vd, vc, vo, h, rfl⟩ (Frm.refl _ _)
    | false =>
      refine (rBasal_yes b R vl vd vc vo k rate ticks w h ok hb).mono ?_
      rintro e w' ⟨rfl, hr, hf⟩
      refine ⟨by simp [basalErr, hb], hf, _, ⟨vl, vd, vc, vo, ?_, rfl⟩, fun x hx => Or.inl hx⟩
      simpa [basalR, hb] using hr
  run := by
    rintro t w F b R ⟨vl, vd, vc, vo, h, rfl⟩ ok full
    by_cases h1 : t < 1 ∨ 100 < t
    · refine (rrun_arg b t w h1).mono ?_
      rintro e w' ⟨rfl, rfl⟩
      have e1 : runErr R t = 1 := by rw [runErr, if_pos h1]
      refine ⟨.slice none 0 0, by rw [e1], by simp [runDs, e1]; exact World.ownsRow_nil .., Frm.refl _ _, _, ⟨vl, vd, vc, vo, by simpa [runR, e1] using h, rfl⟩, fun x hx => Or.inl hx, fun x hx => by simp [Value.ownBlock] at hx⟩
    · by_cases h2 : 400 < R.now + t
      · refine (rrun_many b R vl vd vc vo t w h ok.now0 ok.now1 (by omega) (by omega) h2).mono ?_
        rintro e w' ⟨rfl, rfl⟩
        have e1 : runErr R t = 2 := by rw [runErr, if_neg h1, if_pos h2]
        refine ⟨.slice none 0 0, by rw [e1], by simp [runDs, e1]; exact World.ownsRow_nil .., Frm.refl _ _, _, ⟨vl, vd, vc, vo, by simpa [runR, e1] using h, rfl⟩, fun x hx => Or.inl hx, fun x hx => by simp [Value.ownBlock] at hx⟩
      · have e1 : runErr R t = 0 := by rw [runErr, if_neg h1, if_neg h2]
        obtain ⟨n, rfl⟩ := Int.eq_ofNat_of_zero_le (show 0 ≤ t by omega)
        have h0 := h.lt
        refine (rrun_any b R vl vd vc vo n w h ok full (by omega) (by omega) (by omega)).mono ?_
        rintro e w' ⟨vd', vout, rfl, hs⟩
        refine ⟨vout, by rw [e1], ?_, hs.frm, RefF b vl vd' vc vo, ⟨vl, vd', vc, vo, ?_, rfl⟩, ?_, ?_⟩
        · simp only [runDs, e1, if_true, Int.toNat_natCast]
          have := hs.out
          simpa using this
        · simpa [runR, e1] using hs.lie
        · rintro x (e | e | e | e | e)
          · exact Or.inl (Or.inl e)
          · exact Or.inl (Or.inr (Or.inl e))
          · rcases hs.nd with e' | ⟨g, e', hg⟩
            · exact Or.inl (Or.inr (Or.inr (Or.inl (by rw [← e', e]))))
            · rw [e'] at e; injection e with e; exact Or.inr (by omega)
          · exact Or.inl (Or.inr (Or.inr (Or.inr (Or.inl e))))
          · exact Or.inl (Or.inr (Or.inr (Or.inr (Or.inr e))))
        · intro x hx
          have hn := hs.no x hx
          refine ⟨hn, ?_⟩
          rintro (e | e | e | e | e)
          · have := h0 x (Or.inl e); omega
          · have := h0 x (Or.inr (Or.inl e)); omega
          · exact hs.sep x hx e
          · have := h0 x (Or.inr (Or.inr (Or.inr (Or.inl e)))); omega
          · have := h0 x (Or.inr (Or.inr (Or.inr (Or.inr e)))); omega
  room := by
    rintro k w F b R hra ok _
    obtain ⟨vl, vd, vc, vo, h, hF⟩ := id hra
    cases hk : isCh R k with
    | true =>
      refine (rRoom_yes b R vl vd vc vo k w h ok hk).mono ?_
      rintro e w' ⟨rfl, kk⟩
      exact ⟨by simp [roomV, hk], ra_keep hra kk⟩
    | false =>
      refine (rRoom_no b R vl vd vc vo k w h hk).mono ?_
      rintro e w' ⟨rfl, rfl⟩
      exact ⟨by simp [roomV, hk], ra_keep hra (Frm.refl _ _)⟩
  wait := by
    rintro k a w F b R hra ok _
    obtain ⟨vl, vd, vc, vo, h, hF⟩ := id hra
    by_cases hb : isCh R k = false ∨ a < 0 ∨ 1000 < a
    · refine (rWait_no b R vl vd vc vo k a w h hb).mono ?_
      rintro e w' ⟨rfl, rfl⟩
      exact ⟨Or.inl ⟨hb, rfl⟩, ra_keep hra (Frm.refl _ _)⟩
    · have hk : isCh R k = true := by
        cases hh : isCh R k with
        | true => rfl
        | false => exact absurd (Or.inl hh) hb
      have a0 : 0 ≤ a := by omega
      have a1 : a ≤ 1000 := by omega
      refine (rWait_yes b R vl vd vc vo k a w h ok hk a0 a1).mono ?_
      rintro e w' ⟨r, rfl, hr, kk⟩
      exact ⟨Or.inr ⟨hk, a0, a1, r, rfl, hr⟩, ra_keep hra kk⟩

end Go.Proofs.YtahiolfelcmikaaGreat
