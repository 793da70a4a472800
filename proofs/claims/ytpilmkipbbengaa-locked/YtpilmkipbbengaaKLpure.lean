/- Facts of the machine for Locked: demands of one tick. -/
import Derived.Test.YtpilmkipbbengaaK4
namespace Go.Proofs.Ytpilmkipbbengaa
open Go.RowKit

theorem rticks_stops (n : Nat) (R : RSt) : (rticks n R).os.map (·.stop) = R.os.map (·.stop) := by
  induction n with
  | zero => rfl
  | succ n ih =>
    show (tks (rticks n R).chs.length (rticks n R)).os.map (·.stop) = _
    rw [tks_stops, ih]

structure LInv (R : RSt) : Prop where
  stops : ∀ o ∈ R.os, o.stop ≤ R.now + 1
  few : nov R.now R.os ≤ R.chs.countP fun c => decide (c.asked = R.now)

theorem LInv.lt {R : RSt} (h : LInv R) (hn : R.chs.length = 3) : nov R.now R.os ≤ 3 := by
  have := h.few
  have := List.countP_le_length (l := R.chs) (p := fun c => decide (c.asked = R.now))
  omega

theorem LInv.new (lims : List Lim) (lock : Int) : LInv (rnew 3 lims lock) := ⟨by simp [rnew], by simp [rnew, nov]⟩

theorem nov_zero {now : Int} {os : List ROrd} (h : ∀ o ∈ os, o.stop ≤ now) : nov now os = 0 := by
  unfold nov
  rw [List.countP_eq_zero]
  intro o ho
  have := h o ho
  simp; omega

theorem LInv.run {R : RSt} (h : LInv R) (n : Int) (h1 : 1 ≤ n) : LInv (runR R n) := by
  unfold runR
  split
  · obtain ⟨N, rfl⟩ := Int.eq_ofNat_of_zero_le (show 0 ≤ n by omega)
    rw [Int.toNat_natCast]
    have hs : ∀ o ∈ (rticks N R).os, o.stop ≤ R.now + 1 := by
      intro o ho
      have : o.stop ∈ (rticks N R).os.map (·.stop) := List.mem_map.2 ⟨o, ho, rfl⟩
      rw [rticks_stops] at this
      obtain ⟨o', ho', e⟩ := List.mem_map.1 this
      rw [← e]; exact h.stops o' ho'
    have hn := (rticks_same N R).2.2.1
    refine ⟨fun o ho => ?_, ?_⟩
    · have := hs o ho; rw [hn]; omega
    · rw [nov_zero fun o ho => by have := hs o ho; rw [hn]; omega]
      exact Nat.zero_le _
  · exact h

theorem countP_set {l : List RCh} {k : Nat} {c c' : RCh} {p : RCh → Bool} (hk : l[k]? = some c) (h1 : p c = false) (h2 : p c' = true) : (l.set k c').countP p = l.countP p + 1 := by
  induction l generalizing k with
  | nil => simp at hk
  | cons x r ih =>
    cases k with
    | zero =>
      simp at hk; subst hk
      simp [h1, h2]
    | succ k =>
      simp at hk
      simp only [List.set_cons_succ, List.countP_cons]
      rw [ih hk]
      omega

/-- a demand that is taken -/
theorem LInv.demand {R : RSt} (h : LInv R) {k : Nat} {c : RCh} (hc : R.chs[k]? = some c) {a : Int} (he : demandErr R k a = 0) (hl : 1 ≤ R.lock) (n0 : 0 ≤ R.now) : LInv (demandR R k a) ∧ (demandR R k a).chs = R.chs.set k { c with asked := R.now } := by
  have hbad : demandBad R k a = false := by
    unfold demandErr at he
    cases hb : demandBad R k a with
    | false => rfl
    | true => rw [hb] at he; simp at he
  have hlk : lockedB R k = false := by
    unfold demandErr at he
    rw [hbad, Int.toNat_natCast] at he
    cases hb : lockedB R k with
    | false => rfl
    | true => rw [hb] at he; simp at he
  have hm : ¬ 8 ≤ nov R.now R.os := by
    intro q
    unfold demandErr at he
    rw [hbad, Int.toNat_natCast, hlk] at he
    simp [q] at he
  have ho : orderErr R k a 0 1 = 0 := by
    have hob : orderBad R k a 0 1 = false := by
      simp only [demandBad, Bool.or_eq_false_iff] at hbad
      simp [orderBad, hbad]
    simp [orderErr, hob, hm]
  have e1 : orderR R k a 0 1 = { R with os := R.os ++ [⟨k, R.now + 0, R.now + 0 + 1, a⟩] } := by simp [orderR, ho]
  have e2 : demandR R k a = { R with os := R.os ++ [⟨k, R.now + 0, R.now + 0 + 1, a⟩], chs := R.chs.set k { c with asked := R.now } } := by
    unfold demandR
    rw [if_pos he, e1, Int.toNat_natCast]
    simp [askedR, hc]
  rw [e2]
  refine ⟨⟨?_, ?_⟩, rfl⟩
  · intro o ho'
    rcases List.mem_append.1 ho' with q | q
    · exact h.stops o q
    · simp at q; subst q
      show R.now + 1 ≤ R.now + 1
      omega
  · show nov R.now (R.os ++ [_]) ≤ (R.chs.set k { c with asked := R.now }).countP fun c => decide (c.asked = R.now)
    rw [nov_snoc]
    have hne : c.asked ≠ R.now := by
      intro e
      have : lockedB R k = true := by simp [lockedB, hc, e]; omega
      rw [hlk] at this; cases this
    rw [countP_set hc (by simp [hne]) (by simp)]
    have := h.few
    split <;> omega

theorem lockedB_iff {R : RSt} {k : Nat} {c : RCh} (hc : R.chs[k]? = some c) (n0 : 0 ≤ R.now) (hl : R.lock ≤ 400) : lockedB R k = decide (R.now - (if c.asked < 0 then -1000 else c.asked) < R.lock) := by
  unfold lockedB
  rw [hc]
  by_cases q : c.asked < 0
  · rw [if_pos q]
    have h1 : decide (0 ≤ c.asked) = false := decide_eq_false (by omega)
    have h2 : decide (R.now - -1000 < R.lock) = false := decide_eq_false (by omega)
    rw [h2]
    show (decide (0 ≤ c.asked) && _) = false
    rw [h1]; rfl
  · rw [if_neg q]
    have h1 : decide (0 ≤ c.asked) = true := decide_eq_true (by omega)
    simp [h1]

end Go.Proofs.Ytpilmkipbbengaa
