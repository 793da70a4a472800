/- Facts of the machine for Greatest: rates alone. -/
import Derived.Test.YtpilmkipbbengaaK4
namespace Go.Proofs.Ytpilmkipbbengaa
open Go.RowKit

def gCh (r : Int) : RCh := ⟨r, -1, false, -1⟩
def gS (lims : List Lim) (lk : Int) (ρ : Nat → Int) (t : Int) (D : List Ds) : RSt := ⟨lims, lk, t, D, [gCh (ρ 0), gCh (ρ 1), gCh (ρ 2)], []⟩

/-- what channel k is given -/
def gA (lims : List Lim) (ρ : Nat → Int) (t : Int) (D : List Ds) (k : Nat) : Int := if rroom D lims k t < ρ k then rroom D lims k t else ρ k
/-- all doses behind the turns of the first k channels -/
def gD (lims : List Lim) (ρ : Nat → Int) (t : Int) (D : List Ds) : Nat → List Ds
  | 0 => D
  | k + 1 => if gA lims ρ t (gD lims ρ t D k) k ≤ 0 then gD lims ρ t D k else gD lims ρ t D k ++ [⟨t, k, gA lims ρ t (gD lims ρ t D k) k⟩]

theorem gtk1 (lims : List Lim) (lk : Int) (ρ : Nat → Int) (t : Int) (D : List Ds) (k : Nat) (hk : k < 3) : tk1 k (gS lims lk ρ t D) = gS lims lk ρ t (if gA lims ρ t D k ≤ 0 then D else D ++ [⟨t, k, gA lims ρ t D k⟩]) := by
  have hc : (gS lims lk ρ t D).chs[k]? = some (gCh (ρ k)) := by
    have : k = 0 ∨ k = 1 ∨ k = 2 := by omega
    rcases this with rfl | rfl | rfl <;> rfl
  have hw : wnt t k (gCh (ρ k)) [] = ρ k := by simp [wnt, gCh, wbase, wsum]
  have ha : amt (gS lims lk ρ t D) k (gCh (ρ k)) = gA lims ρ t D k := by
    show (if rroom D lims k t < wnt t k (gCh (ρ k)) [] then rroom D lims k t else wnt t k (gCh (ρ k)) []) = _
    rw [hw]; rfl
  unfold tk1
  rw [hc]
  simp only [ha]
  split
  · rfl
  · rfl

theorem gtks (lims : List Lim) (lk : Int) (ρ : Nat → Int) (t : Int) (D : List Ds) : ∀ k : Nat, k ≤ 3 → tks k (gS lims lk ρ t D) = gS lims lk ρ t (gD lims ρ t D k) := by
  intro k
  induction k with
  | zero => intro _; rfl
  | succ k ih =>
    intro hk
    show tk1 k (tks k (gS lims lk ρ t D)) = _
    rw [ih (by omega), gtk1 lims lk ρ t _ k (by omega)]
    rfl

theorem gtick (lims : List Lim) (lk : Int) (ρ : Nat → Int) (t : Int) (D : List Ds) : rtick (gS lims lk ρ t D) = gS lims lk ρ (t + 1) (gD lims ρ t D 3) := by
  have hlen : (gS lims lk ρ t D).chs.length = 3 := rfl
  unfold rtick
  rw [hlen, gtks lims lk ρ t D 3 (by omega)]
  rfl

theorem gD_pre (lims : List Lim) (ρ : Nat → Int) (t : Int) (D : List Ds) (k : Nat) : D <+: gD lims ρ t D k := by
  induction k with
  | zero => exact List.prefix_refl _
  | succ k ih =>
    simp only [gD]
    split
    · exact ih
    · exact ih.trans (List.prefix_append _ _)

theorem gD_mono (lims : List Lim) (ρ : Nat → Int) (t : Int) (D : List Ds) (k m : Nat) : gD lims ρ t D k <+: gD lims ρ t D (k + m) := by
  induction m with
  | zero => exact List.prefix_refl _
  | succ m ih =>
    refine ih.trans ?_
    show gD lims ρ t D (k + m) <+: gD lims ρ t D (k + m + 1)
    simp only [gD]
    split
    · exact List.prefix_refl _
    · exact List.prefix_append _ _

/-- the next dose stands in the run's answer -/
theorem g_next {lims : List Lim} {ρ : Nat → Int} {t : Int} {D : List Ds} {k : Nat} (hk : k < 3) (ha : ¬ gA lims ρ t (gD lims ρ t D k) k ≤ 0) :
    ((gD lims ρ t D 3).drop D.length)[(gD lims ρ t D k).length - D.length]? = some ⟨t, k, gA lims ρ t (gD lims ρ t D k) k⟩ := by
  have h1 : gD lims ρ t D (k + 1) = gD lims ρ t D k ++ [⟨t, k, gA lims ρ t (gD lims ρ t D k) k⟩] := by
    simp only [gD]; rw [if_neg ha]
  obtain ⟨m, hm⟩ : ∃ m, 3 = k + 1 + m := ⟨3 - (k + 1), by omega⟩
  obtain ⟨s, hs⟩ := gD_mono lims ρ t D (k + 1) m
  rw [← hm] at hs
  have hl := (gD_pre lims ρ t D k).length_le
  rw [List.getElem?_drop, ← hs, h1]
  have e : D.length + ((gD lims ρ t D k).length - D.length) = (gD lims ρ t D k).length := by omega
  rw [e, List.append_assoc, List.getElem?_append_right (Nat.le_refl _)]
  simp

theorem gbasal (lims : List Lim) (lk : Int) (ρ : Nat → Int) (h : ∀ k, 0 ≤ ρ k ∧ ρ k ≤ 1000) : basalR (basalR (basalR (rnew 3 lims lk) 0 (ρ 0) 0) 1 (ρ 1) 0) 2 (ρ 2) 0 = gS lims lk ρ 0 [] := by
  have e1 : basalR (rnew 3 lims lk) 0 (ρ 0) 0 = ⟨lims, lk, 0, [], [gCh (ρ 0), ch0, ch0], []⟩ := by
    have hb : basalBad (rnew 3 lims lk) 0 (ρ 0) 0 = false := by
      have := h 0
      simp [basalBad, isCh, rnew]; omega
    unfold basalR
    rw [hb]
    rfl
  have e2 : basalR ⟨lims, lk, 0, [], [gCh (ρ 0), ch0, ch0], []⟩ 1 (ρ 1) 0 = ⟨lims, lk, 0, [], [gCh (ρ 0), gCh (ρ 1), ch0], []⟩ := by
    have hb : basalBad ⟨lims, lk, 0, [], [gCh (ρ 0), ch0, ch0], []⟩ 1 (ρ 1) 0 = false := by
      have := h 1
      simp [basalBad, isCh]; omega
    unfold basalR
    rw [hb]
    rfl
  have e3 : basalR ⟨lims, lk, 0, [], [gCh (ρ 0), gCh (ρ 1), ch0], []⟩ 2 (ρ 2) 0 = gS lims lk ρ 0 [] := by
    have hb : basalBad ⟨lims, lk, 0, [], [gCh (ρ 0), gCh (ρ 1), ch0], []⟩ 2 (ρ 2) 0 = false := by
      have := h 2
      simp [basalBad, isCh]; omega
    unfold basalR
    rw [hb]
    rfl
  rw [e1, e2, e3]

end Go.Proofs.Ytpilmkipbbengaa
