/- dripref: read: what a line tells. -/
import Derived.Test.YtpilmkipbbengaaGreatDoorJnm2
import Derived.Test.YtpilmkipbbengaaGreatDoorJdM
namespace Go.Proofs.YtpilmkipbbengaaGreatDoor
open Go.RowKit Go.Lib

/-- a line with the last one's mark is no dose -/
theorem jdose_mark {nch : Int} {l : List UInt8} (h : l.take 2 = [61, 32]) : jdose nch l = none := by
  have e : l = 61 :: 32 :: l.drop 2 := by
    have := List.take_append_drop 2 l
    rw [h] at this
    exact this.symm
  have hc : jcut 32 l = some ([61], l.drop 2) := by
    rw [e]
    simp [jcut]
  unfold jdose
  rw [hc]
  simp only
  have hn : jnum [61] = none := by decide
  cases jcut 32 (l.drop 2) with
  | none => rfl
  | some p =>
    obtain ⟨b, c⟩ := p
    simp only [hn]

theorem jnow_nomark {t : Int} {l : List UInt8} (h : ¬ (2 < l.length ∧ l.take 2 = [61, 32])) : jnow t l = none := by
  unfold jnow
  split
  · rename_i h2
    have hl : l.length ≤ 2 := by
      rcases Nat.lt_or_ge 2 l.length with q | q
      · exact absurd ⟨q, h2⟩ h
      · exact q
    rw [List.drop_eq_nil_of_le hl, jnum_nil]
  · rfl

/-- the last line, as numbers tells it -/
theorem jnow_of {t : Int} {l : List UInt8} (h : l.take 2 = [61, 32]) (m : Nat) (hm : m ≤ 400) : jnow t l = some (m : Int) ↔ jnm (l.drop 2) 0 0 [] = some [m] ∧ t < m := by
  rw [jnm_one (by omega)]
  unfold jnow
  rw [if_pos h]
  constructor
  · intro e
    split at e
    · rename_i k hk
      split at e
      · rename_i hb
        injection e with e
        have : k = m := by omega
        subst this
        exact ⟨hk, hb.1⟩
      · cases e
    · cases e
  · rintro ⟨e, ht⟩
    rw [e]
    simp only
    rw [if_pos ⟨ht, by omega⟩]

theorem jnow_no {t : Int} {l : List UInt8} (h : ∀ m : Nat, jnm (l.drop 2) 0 0 [] = some [m] → ¬ (t < m ∧ (m : Int) ≤ 400)) : jnow t l = none := by
  unfold jnow
  split
  · split
    · rename_i m hm
      rw [if_neg]
      rintro ⟨h1, h2⟩
      exact h m ((jnm_one (by omega)).2 hm) ⟨h1, h2⟩
    · rfl
  · rfl

theorem jdose_of {nch : Int} {l : List UInt8} {x y z : Nat} (hj : jnm l 0 0 [] = some [x, y, z]) (h : (x : Int) ≤ 399 ∧ (y : Int) < nch ∧ 1 ≤ z ∧ z ≤ 1000) (hn : nch ≤ 4) : jdose nch l = some ⟨x, y, z⟩ := by
  obtain ⟨a, b, c, r, h1, h2, h3, h4, h5⟩ := (jnm_three (by omega) (by omega) (by omega)).1 hj
  unfold jdose
  rw [h1]
  simp only
  rw [h2]
  simp only
  rw [h3, h4, h5]
  simp only
  rw [if_pos h]

theorem jdose_no {nch : Int} {l : List UInt8} (hn : nch ≤ 4) (h : ∀ x y z : Nat, jnm l 0 0 [] = some [x, y, z] → ¬ ((x : Int) ≤ 399 ∧ (y : Int) < nch ∧ 1 ≤ z ∧ z ≤ 1000)) : jdose nch l = none := by
  cases hd : jdose nch l with
  | none => rfl
  | some d =>
    exfalso
    unfold jdose at hd
    split at hd
    · cases hd
    · rename_i a r h1
      split at hd
      · cases hd
      · rename_i b c h2
        split at hd
        · cases hd
        · rename_i t ht
          split at hd
          · cases hd
          · rename_i k hk
            split at hd
            · cases hd
            · rename_i m hm
              split at hd
              · rename_i hb
                exact h t k m ((jnm_three (by omega) (by omega) (by omega)).2 ⟨a, b, c, r, h1, h2, ht, hk, hm⟩) hb
              · cases hd

theorem extr_mid (s : List UInt8) (a e : Nat) : ({ data := s.toArray } : ByteArray).extract a e = ⟨((s.drop a).take (e - a)).toArray⟩ := by
  apply ByteArray.ext
  simp [ByteArray.data_extract]

end Go.Proofs.YtpilmkipbbengaaGreatDoor
