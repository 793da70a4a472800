/- dripref's numbers against jnow, jdose. -/
import Derived.Test.YtpilmkipbbengaaGreatDoorJcM
namespace Go.Proofs.YtpilmkipbbengaaGreatDoor
open Go.Lib

theorem jcut_none {s : UInt8} : ∀ {l : List UInt8}, jcut s l = none → s ∉ l := by
  intro l
  induction l with
  | nil => intro _ h; cases h
  | cons b l ih =>
    intro h
    simp only [jcut] at h
    split at h
    · cases h
    · rename_i hb
      split at h
      · cases h
      · rename_i hp
        simp only [List.mem_cons, not_or]
        exact ⟨fun e => hb e.symm, ih hp⟩

theorem digits_len4 {u : Nat} (h : u < 10000) : (decDigits u).length ≤ 4 := by
  by_cases h1 : u < 10
  · rw [decDigits_one h1]; simp
  · rw [decDigits_big h1]
    by_cases h2 : u / 10 < 10
    · rw [decDigits_one h2]; simp
    · rw [decDigits_big h2]
      by_cases h3 : u / 10 / 10 < 10
      · rw [decDigits_one h3]; simp
      · rw [decDigits_big h3]
        rw [decDigits_one (show u / 10 / 10 / 10 < 10 by omega)]
        simp

theorem jnm_last {l : List UInt8} (h : jcut 32 l = none) (out : List Nat) : jnm l 0 0 out = if jok l = true ∧ l.length ≤ 4 then some (out ++ [jval l]) else none := by
  have := jnm_first (p := l) (t := []) (Or.inl rfl) (jcut_none h) out
  rw [List.append_nil] at this
  exact this

theorem jnm_next {l a r : List UInt8} (h : jcut 32 l = some (a, r)) (out : List Nat) : jnm l 0 0 out = if jok a = true ∧ a.length ≤ 4 then jnm r 0 0 (out ++ [jval a]) else none := by
  obtain ⟨e1, e2⟩ := jcut_eq h
  rw [e1]
  exact jnm_first (Or.inr ⟨r, rfl⟩) e2 out

theorem jnm_more : ∀ (n : Nat) (l : List UInt8), l.length ≤ n → ∀ {out ns : List Nat}, jnm l 0 0 out = some ns → out.length + 1 ≤ ns.length := by
  intro n
  induction n with
  | zero =>
    intro l hl out ns h
    have : l = [] := List.eq_nil_of_length_eq_zero (by omega)
    subst this
    simp [jnm] at h
  | succ n ih =>
    intro l hl out ns h
    cases hc : jcut 32 l with
    | none =>
      rw [jnm_last hc] at h
      split at h
      · injection h with h
        rw [← h]; simp
      · cases h
    | some p =>
      obtain ⟨a, r⟩ := p
      rw [jnm_next hc] at h
      have := jcut_lt hc
      split at h
      · have := ih r (by omega) h
        simp at this
        omega
      · cases h

theorem jnum_iff {l : List UInt8} {n : Nat} : jnum l = some n ↔ jok l = true ∧ jval l = n := by
  unfold jnum
  constructor
  · intro h
    split at h
    · rename_i hk
      injection h with h
      exact ⟨hk, h⟩
    · cases h
  · rintro ⟨h1, h2⟩
    rw [if_pos h1, h2]

/-- one number -/
theorem jnm_one {l : List UInt8} {n : Nat} (hn : n < 10000) : jnm l 0 0 [] = some [n] ↔ jnum l = some n := by
  cases hc : jcut 32 l with
  | none =>
    rw [jnm_last hc]
    constructor
    · intro h
      split at h
      · rename_i hk
        simp only [List.nil_append, Option.some.injEq, List.cons.injEq, and_true] at h
        exact jnum_iff.2 ⟨hk.1, h⟩
      · cases h
    · intro h
      obtain ⟨h1, h2⟩ := jnum_iff.1 h
      have h3 : l.length ≤ 4 := by
        rw [jnum_some h]; exact digits_len4 hn
      rw [if_pos ⟨h1, h3⟩, h2]
      rfl
  | some p =>
    obtain ⟨a, r⟩ := p
    rw [jnm_next hc]
    constructor
    · intro h
      split at h
      · have := jnm_more _ r (Nat.le_refl _) h
        simp at this
      · cases h
    · intro h
      exfalso
      have e := jnum_some h
      rw [(jcut_eq hc).1] at e
      have := List.all_eq_true.1 (decDigits_all n) 32 (by rw [← e]; simp)
      revert this; decide

/-- three numbers -/
theorem jnm_three {l : List UInt8} {x y z : Nat} (hx : x < 10000) (hy : y < 10000) (hz : z < 10000) : jnm l 0 0 [] = some [x, y, z] ↔ ∃ a b c r, jcut 32 l = some (a, r) ∧ jcut 32 r = some (b, c) ∧ jnum a = some x ∧ jnum b = some y ∧ jnum c = some z := by
  constructor
  · intro h
    cases hc : jcut 32 l with
    | none =>
      rw [jnm_last hc] at h
      split at h
      · simp at h
      · cases h
    | some p =>
      obtain ⟨a, r⟩ := p
      rw [jnm_next hc] at h
      split at h
      · rename_i ha
        cases hr : jcut 32 r with
        | none =>
          rw [jnm_last hr] at h
          split at h
          · simp at h
          · cases h
        | some p2 =>
          obtain ⟨b, c⟩ := p2
          rw [jnm_next hr] at h
          split at h
          · rename_i hb
            cases hcc : jcut 32 c with
            | none =>
              rw [jnm_last hcc] at h
              split at h
              · rename_i hk
                simp only [List.nil_append, List.cons_append, Option.some.injEq, List.cons.injEq, and_true] at h
                exact ⟨a, b, c, r, rfl, hr, jnum_iff.2 ⟨ha.1, h.1⟩, jnum_iff.2 ⟨hb.1, h.2.1⟩, jnum_iff.2 ⟨hk.1, h.2.2⟩⟩
              · cases h
            | some p3 =>
              obtain ⟨c1, c2⟩ := p3
              rw [jnm_next hcc] at h
              split at h
              · have := jnm_more _ c2 (Nat.le_refl _) h
                simp at this
              · cases h
          · cases h
      · cases h
  · rintro ⟨a, b, c, r, h1, h2, ha, hb, hc⟩
    obtain ⟨a1, a2⟩ := jnum_iff.1 ha
    obtain ⟨b1, b2⟩ := jnum_iff.1 hb
    obtain ⟨c1, c2⟩ := jnum_iff.1 hc
    have l1 : a.length ≤ 4 := by rw [jnum_some ha]; exact digits_len4 hx
    have l2 : b.length ≤ 4 := by rw [jnum_some hb]; exact digits_len4 hy
    have l3 : c.length ≤ 4 := by rw [jnum_some hc]; exact digits_len4 hz
    have hcc : jcut 32 c = none := by
      cases h : jcut 32 c with
      | none => rfl
      | some p =>
        exfalso
        have e := jnum_some hc
        rw [(jcut_eq (a := p.1) (r := p.2) h).1] at e
        have := List.all_eq_true.1 (decDigits_all z) 32 (by rw [← e]; simp)
        revert this; decide
    rw [jnm_next h1, if_pos ⟨a1, l1⟩, jnm_next h2, if_pos ⟨b1, l2⟩, jnm_last hcc, if_pos ⟨c1, l3⟩, a2, b2, c2]
    rfl

end Go.Proofs.YtpilmkipbbengaaGreatDoor
