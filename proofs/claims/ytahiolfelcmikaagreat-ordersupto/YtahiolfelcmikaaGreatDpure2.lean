/- Wait, limit by limit: nothing of the program. -/
import Derived.Test.YtahiolfelcmikaaGreatDpure
import Derived.Test.YtahiolfelcmikaaGreatRef6
namespace Go.Proofs.YtahiolfelcmikaaGreat
open Go.RowKit

/-- wait, limit by limit -/
structure WaitSt (R : RSt) (k : Nat) (a : Int) (lims : List Lim) (n : Nat) : Prop where
  top : n ≤ 100
  there : ∀ l ∈ lims, cnt l.ch k = true → a ≤ lft R.doses l (R.now + n)
  first : ∀ m : Nat, m < n → ∃ l ∈ lims, cnt l.ch k = true ∧ lft R.doses l (R.now + m) < a

theorem WaitSt.done {R : RSt} {k : Nat} {a : Int} {n : Nat} (ha : a ≤ 1000) (h : WaitSt R k a R.lims n) : WaitOk R k a (some n) := by
  refine ⟨h.top, (room_ge _ _).2 ⟨ha, h.there⟩, fun m hm => ?_⟩
  obtain ⟨l, hl, hc, hlt⟩ := h.first m hm
  have := room_le (ds := R.doses) (t := R.now + m) hl hc
  omega

theorem WaitSt.never {R : RSt} {k : Nat} {a : Int} {l : Lim} (ok : R.Ok) (hl : l ∈ R.lims) (hc : cnt l.ch k = true) (ha : l.cap < a) : WaitOk R k a none := by
  intro m _
  have h1 := room_le (ds := R.doses) (t := R.now + m) hl hc
  have := (gv_bd (l := l) (f := R.now + m - l.win + 1) (t := R.now + m) ok.doses).1
  unfold lft at h1; omega

theorem WaitSt.skip {R : RSt} {k : Nat} {a : Int} {lims : List Lim} {n : Nat} (h : WaitSt R k a lims n) (l : Lim) (hc : cnt l.ch k = false) : WaitSt R k a (lims ++ [l]) n := by
  refine ⟨h.top, fun x hx hcx => ?_, fun m hm => ?_⟩
  · rcases List.mem_append.1 hx with hx | hx
    · exact h.there x hx hcx
    · simp at hx; subst hx; rw [hc] at hcx; cases hcx
  · obtain ⟨x, hx, r⟩ := h.first m hm
    exact ⟨x, List.mem_append_left _ hx, r⟩

theorem WaitSt.more {R : RSt} {k : Nat} {a : Int} {lims : List Lim} {n : Nat} (ok : R.Ok) (hd : ∀ d ∈ R.doses, d.tick ≤ R.now) (h : WaitSt R k a lims n) (l : Lim) (hc : cnt l.ch k = true) (q : Nat) (hq : q ≤ 100)
    (h1 : a ≤ lft R.doses l (R.now + q)) (h2 : ∀ m : Nat, m < q → lft R.doses l (R.now + m) < a) : WaitSt R k a (lims ++ [l]) (max n q) := by
  have ht := h.top
  refine ⟨by omega, fun x hx hcx => ?_, fun m hm => ?_⟩
  · rcases List.mem_append.1 hx with hx | hx
    · exact Int.le_trans (h.there x hx hcx) (lft_mono ok.doses hd _ _ (by omega))
    · simp at hx; subst hx; exact Int.le_trans h1 (lft_mono ok.doses hd _ _ (by omega))
  · by_cases e : m < n
    · obtain ⟨x, hx, r⟩ := h.first m e
      exact ⟨x, List.mem_append_left _ hx, r⟩
    · exact ⟨l, by simp, hc, h2 m (by omega)⟩

end Go.Proofs.YtahiolfelcmikaaGreat
