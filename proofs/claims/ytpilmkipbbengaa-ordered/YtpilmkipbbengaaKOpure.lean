/- Facts of the machine for Ordered: one order, no limit, no rate. -/
import Derived.Test.YtpilmkipbbengaaK4
namespace Go.Proofs.Ytpilmkipbbengaa
open Go.RowKit

def oSt (D : List Ds) (t : Int) (k : Nat) (s e r : Int) : RSt := ⟨[], 0, t, D, [ch0, ch0, ch0], [⟨k, s, e, r⟩]⟩

/-- the order's part -/
def opt (t s e r : Int) : Int := if t < s ∨ e ≤ t then 0 else (r + (e - t) - 1) / (e - t)
theorem opt_prt (t : Int) (k : Nat) (s e r : Int) : prt t ⟨k, s, e, r⟩ = opt t s e r := rfl

theorem opt_bd {t s e r : Int} (h0 : 0 ≤ r) : 0 ≤ opt t s e r ∧ opt t s e r ≤ r := by
  unfold opt
  split
  · omega
  · have hl : 0 < e - t := by omega
    refine ⟨Int.ediv_nonneg (by omega) (by omega), ?_⟩
    apply Int.lt_add_one_iff.1
    apply Int.ediv_lt_of_lt_mul hl
    have : r + 1 ≤ (r + 1) * (e - t) := by
      have := Int.mul_le_mul_of_nonneg_left (show 1 ≤ e - t by omega) (show 0 ≤ r + 1 by omega)
      omega
    have e2 : (r + 1) * (e - t) = r * (e - t) + (e - t) := by rw [Int.add_mul, Int.one_mul]
    have e3 : r ≤ r * (e - t) := by
      have := Int.mul_le_mul_of_nonneg_left (show 1 ≤ e - t by omega) h0
      omega
    omega

theorem tk_other (D : List Ds) (t : Int) (k j : Nat) (s e r : Int) (hj : j ≠ k) : tk1 j (oSt D t k s e r) = oSt D t k s e r := by
  unfold tk1
  split
  · rfl
  · rename_i c hc
    have hcm : c ∈ ([ch0, ch0, ch0] : List RCh) := List.mem_of_getElem? hc
    have hc0 : c = ch0 := by simpa using hcm
    have hw : wnt t j c [⟨k, s, e, r⟩] = 0 := by
      subst hc0
      have hne : ((k : Int) == (j : Int)) = false := by
        rw [beq_eq_false_iff_ne]; omega
      simp [wnt, ch0, wbase, wsum, wpart, hne]
    have ha : amt (oSt D t k s e r) j c = 0 := by
      show (if rroom D [] j t < wnt t j c [⟨k, s, e, r⟩] then rroom D [] j t else wnt t j c [⟨k, s, e, r⟩]) = 0
      rw [hw]
      have : rroom D [] j t = 1000 := rfl
      rw [this]
      rfl
    rw [ha]
    rfl

theorem tk_own (D : List Ds) (t : Int) (k : Nat) (s e r : Int) (hk : k < 3) (h0 : 0 ≤ r) (h1 : r ≤ 1000) : tk1 k (oSt D t k s e r) = oSt (if opt t s e r ≤ 0 then D else D ++ [⟨t, k, opt t s e r⟩]) t k s e (r - opt t s e r) := by
  obtain ⟨b0, b1⟩ := opt_bd (t := t) (s := s) (e := e) h0
  have hc : (oSt D t k s e r).chs[k]? = some ch0 := by
    have : k = 0 ∨ k = 1 ∨ k = 2 := by omega
    rcases this with rfl | rfl | rfl <;> rfl
  have hw : wnt t k ch0 [⟨k, s, e, r⟩] = opt t s e r := by
    simp [wnt, ch0, wbase, wsum, wpart, opt_prt]
  have ha : amt (oSt D t k s e r) k ch0 = opt t s e r := by
    show (if rroom D [] k t < wnt t k ch0 [⟨k, s, e, r⟩] then rroom D [] k t else wnt t k ch0 [⟨k, s, e, r⟩]) = _
    rw [hw]
    have : rroom D [] k t = 1000 := rfl
    rw [this, if_neg (by omega)]
  unfold tk1
  rw [hc]
  simp only [ha]
  by_cases q : opt t s e r ≤ 0
  · have z : opt t s e r = 0 := by omega
    rw [if_pos q, if_pos q, z]
    simp [oSt]
  · rw [if_neg q, if_neg q]
    have hd : dist t k [⟨k, s, e, r⟩] (opt t s e r) = [⟨k, s, e, r - opt t s e r⟩] := by
      have hn : ((k : Int) != (k : Int)) = false := by simp
      simp only [dist, if_neg q, hn, opt_prt]
      simp
    show ({ oSt D t k s e r with doses := D ++ [⟨t, k, opt t s e r⟩], os := dist t k [⟨k, s, e, r⟩] (opt t s e r) } : RSt) = _
    rw [hd]
    rfl

theorem otick (D : List Ds) (t : Int) (k : Nat) (s e r : Int) (hk : k < 3) (h0 : 0 ≤ r) (h1 : r ≤ 1000) : rtick (oSt D t k s e r) = oSt (if opt t s e r ≤ 0 then D else D ++ [⟨t, k, opt t s e r⟩]) (t + 1) k s e (r - opt t s e r) := by
  have : k = 0 ∨ k = 1 ∨ k = 2 := by omega
  have hlen : (oSt D t k s e r).chs.length = 3 := rfl
  unfold rtick
  rw [hlen]
  show ({ tk1 2 (tk1 1 (tk1 0 (oSt D t k s e r))) with now := t + 1 } : RSt) = _
  rcases this with rfl | rfl | rfl
  · rw [tk_own D t 0 s e r (by omega) h0 h1, tk_other _ t 0 1 s e _ (by omega), tk_other _ t 0 2 s e _ (by omega)]
    rfl
  · rw [tk_other _ t 1 0 s e _ (by omega), tk_own D t 1 s e r (by omega) h0 h1, tk_other _ t 1 2 s e _ (by omega)]
    rfl
  · rw [tk_other _ t 2 0 s e _ (by omega), tk_other _ t 2 1 s e _ (by omega), tk_own D t 2 s e r (by omega) h0 h1]
    rfl

/-- what was given of an order of a, from s to e, up to t; q: the greatest part -/
structure OInv (a s e q : Int) (k : Nat) (t : Int) (D : List Ds) (r : Int) : Prop where
  r0 : 0 ≤ r
  r1 : r ≤ a
  sum : (D.map (·.amt)).sum + r = a
  each : ∀ x ∈ D, x.ch = k ∧ s ≤ x.tick ∧ x.tick < e ∧ q - 1 ≤ x.amt ∧ x.amt ≤ q ∧ 1 ≤ x.amt
  falls : D.Pairwise fun x y => y.amt ≤ x.amt
  early : t ≤ s → D = [] ∧ r = a
  mid : s ≤ t → t ≤ e → (q - 1) * (e - t) ≤ r ∧ r ≤ q * (e - t)
  low : (∃ x ∈ D, x.amt < q) → t ≤ e → r = (q - 1) * (e - t)
  late : e ≤ t → r = 0
  head : s < t → ∃ rest, D = ⟨s, k, q⟩ :: rest

theorem ceil_bd {r q L : Int} (hL : 0 < L) (h1 : (q - 1) * L ≤ r) (h2 : r ≤ q * L) : q - 1 ≤ (r + L - 1) / L ∧ (r + L - 1) / L ≤ q := by
  constructor
  · apply (Int.le_ediv_iff_mul_le hL).2
    omega
  · apply Int.lt_add_one_iff.1
    apply Int.ediv_lt_of_lt_mul hL
    rw [Int.add_mul, Int.one_mul]
    omega

theorem ceil_eq {q L : Int} (hL : 0 < L) : (q * L + L - 1) / L = q := by
  have h := ceil_bd (r := q * L) (q := q) hL (by rw [Int.sub_mul, Int.one_mul]; omega) (Int.le_refl _)
  have h2 : q ≤ (q * L + L - 1) / L := by
    apply (Int.le_ediv_iff_mul_le hL).2
    omega
  omega

theorem ceil_mul {r L : Int} (hL : 0 < L) : r ≤ (r + L - 1) / L * L ∧ ((r + L - 1) / L - 1) * L < r := by
  have h1 := Int.mul_ediv_add_emod (r + L - 1) L
  have h2 := Int.emod_nonneg (r + L - 1) (show L ≠ 0 by omega)
  have h3 := Int.emod_lt_of_pos (r + L - 1) hL
  have h4 : L * ((r + L - 1) / L) = (r + L - 1) / L * L := Int.mul_comm _ _
  rw [Int.sub_mul, Int.one_mul]
  omega

theorem OInv.start {a s e : Int} {k : Nat} (ha : 1 ≤ a) (hs : 0 ≤ s) (he : s < e) : OInv a s e ((a + (e - s) - 1) / (e - s)) k 0 [] a := by
  have hm := ceil_mul (r := a) (L := e - s) (by omega)
  refine ⟨by omega, Int.le_refl _, by simp, by simp, by simp, fun _ => ⟨rfl, rfl⟩, ?_, by simp, fun h => by omega, fun h => by omega⟩
  intro h1 h2
  have : s = 0 := by omega
  subst this
  omega

theorem OInv.tick {a s e q : Int} {k : Nat} {t : Int} {D : List Ds} {r : Int} (hq : q = (a + (e - s) - 1) / (e - s)) (ha : 1 ≤ a) (he : s < e) (h : OInv a s e q k t D r) : OInv a s e q k (t + 1) (if opt t s e r ≤ 0 then D else D ++ [⟨t, k, opt t s e r⟩]) (r - opt t s e r) := by
  obtain ⟨b0, b1⟩ := opt_bd (t := t) (s := s) (e := e) h.r0
  have hqm := ceil_mul (r := a) (L := e - s) (by omega)
  rw [← hq] at hqm
  have hq1 : 1 ≤ q := by
    rcases Int.lt_or_le q 1 with z | z
    · have : q * (e - s) ≤ 0 := by
        have := Int.mul_le_mul_of_nonneg_right (show q ≤ 0 by omega) (show 0 ≤ e - s by omega)
        omega
      omega
    · exact z
  by_cases h1 : t < s
  · have hz : opt t s e r = 0 := by unfold opt; rw [if_pos (Or.inl h1)]
    obtain ⟨rfl, rfl⟩ := h.early (by omega)
    rw [hz, if_pos (by omega)]
    refine ⟨by omega, by omega, by simp, by simp, by simp, fun _ => ⟨rfl, by omega⟩, ?_, by simp, fun z => by omega, fun z => by omega⟩
    intro z1 z2
    have : t + 1 = s := by omega
    rw [this]
    omega
  · by_cases h2 : e ≤ t
    · have hz : opt t s e r = 0 := by unfold opt; rw [if_pos (Or.inr h2)]
      have hr := h.late h2
      rw [hz, if_pos (by omega)]
      refine ⟨by omega, by omega, by have := h.sum; omega, h.each, h.falls, fun z => by omega, fun _ z => by omega, fun _ z => by omega, fun _ => by omega, fun _ => h.head (by omega)⟩
    · have hL : 0 < e - t := by omega
      have ho : opt t s e r = (r + (e - t) - 1) / (e - t) := by unfold opt; rw [if_neg (by omega)]
      obtain ⟨m1, m2⟩ := h.mid (by omega) (by omega)
      obtain ⟨c1, c2⟩ := ceil_bd hL m1 m2
      obtain ⟨d1, d2⟩ := ceil_mul (r := r) hL
      rw [← ho] at c1 c2 d1 d2
      have hsplit : ∀ x : Int, x * (e - (t + 1)) = x * (e - t) - x := fun x => by
        have : e - (t + 1) = (e - t) - 1 := by omega
        rw [this, Int.mul_sub, Int.mul_one]
      have hlow : (∃ x ∈ D, x.amt < q) → opt t s e r = q - 1 := fun z => by
        have := h.low z (by omega)
        rw [ho, this, ceil_eq hL]
      generalize opt t s e r = p at *
      have e1 := hsplit q
      have e2 := hsplit (q - 1)
      have pm : p = q ∨ p = q - 1 := by omega
      have hexact : p = q - 1 → r = (q - 1) * (e - t) := fun z => by rw [z] at d1; omega
      have hfirst : t = s → p = q := fun z => by
        rcases pm with z2 | z2
        · exact z2
        · have hr : r = a := (h.early (by omega)).2
          have := hexact z2
          rw [hr, z] at this
          rw [z2, hr, z] at d2
          omega
      by_cases hz : p ≤ 0
      · rw [if_pos hz]
        have hp : p = 0 := by omega
        have hq' : q = 1 := by omega
        have hr := hexact (by omega)
        rw [hp] at *
        subst hq'
        refine ⟨by omega, by have := h.r1; omega, by have := h.sum; omega, h.each, h.falls, fun z => by omega, fun _ _ => by omega, fun z _ => by omega, fun z => by
          have : r = 0 := by rw [hr]; simp
          omega, fun z => ?_⟩
        rcases Int.lt_or_le s t with y | y
        · exact h.head y
        · have := hfirst (by omega); omega
      · rw [if_neg hz]
        refine ⟨by omega, by have := h.r1; omega, ?_, ?_, ?_, fun z => by omega, fun _ _ => ?_, fun z _ => ?_, fun z => ?_, fun z => ?_⟩
        · have := h.sum
          simp only [List.map_append, List.sum_append, List.map_cons, List.map_nil, List.sum_cons, List.sum_nil]
          omega
        · intro x hx
          rcases List.mem_append.1 hx with y | y
          · exact h.each x y
          · simp at y; subst y
            exact ⟨rfl, by show s ≤ t; omega, by show t < e; omega, by show q - 1 ≤ p; omega, by show p ≤ q; omega, by show 1 ≤ p; omega⟩
        · rw [List.pairwise_append]
          refine ⟨h.falls, by simp, ?_⟩
          intro x hx y hy
          simp at hy; subst hy
          show p ≤ x.amt
          have hb := h.each x hx
          by_cases y : x.amt < q
          · have := hlow ⟨x, hx, y⟩; omega
          · omega
        · rcases pm with y | y
          · subst y; omega
          · have := hexact y
            have e3 : (q - 1) * (e - t) = q * (e - t) - (e - t) := by rw [Int.sub_mul, Int.one_mul]
            omega
        · have hpq : p = q - 1 := by
            obtain ⟨x, hx, hlt⟩ := z
            rcases List.mem_append.1 hx with y | y
            · exact hlow ⟨x, y, hlt⟩
            · simp at y; subst y
              have hlt : p < q := hlt
              omega
          have := hexact hpq
          subst hpq; omega
        · have h1' : e - t = 1 := by omega
          rw [h1', Int.mul_one] at m2 d1
          omega
        · rcases Int.lt_or_le s t with y | y
          · obtain ⟨rest, hrest⟩ := h.head y
            exact ⟨rest ++ [⟨t, k, p⟩], by rw [hrest]; rfl⟩
          · have hts : t = s := by omega
            have hpq := hfirst hts
            obtain ⟨hD, -⟩ := h.early (by omega)
            exact ⟨[], by rw [hD, hpq, hts]; rfl⟩

theorem oticks {a s e q : Int} {k : Nat} (hk : k < 3) (hq : q = (a + (e - s) - 1) / (e - s)) (ha : 1 ≤ a) (ha1 : a ≤ 1000) (he : s < e) : ∀ (n : Nat) (t : Int) (D : List Ds) (r : Int), OInv a s e q k t D r → ∃ D' r', rticks n (oSt D t k s e r) = oSt D' (t + n) k s e r' ∧ OInv a s e q k (t + n) D' r' := by
  intro n
  induction n with
  | zero => intro t D r h; exact ⟨D, r, by simp [rticks], by simpa using h⟩
  | succ n ih =>
    intro t D r h
    obtain ⟨D', r', h1, h2⟩ := ih t D r h
    refine ⟨if opt (t + n) s e r' ≤ 0 then D' else D' ++ [⟨t + n, k, opt (t + n) s e r'⟩], r' - opt (t + n) s e r', ?_, ?_⟩
    · show rtick (rticks n (oSt D t k s e r)) = _
      rw [h1, otick D' (t + n) k s e r' hk h2.r0 (by have := h2.r1; omega)]
      have e1 : t + (n : Int) + 1 = t + ((n + 1 : Nat) : Int) := by omega
      rw [e1]
    · have := h2.tick hq ha he
      have e1 : t + (n : Int) + 1 = t + ((n + 1 : Nat) : Int) := by omega
      rw [e1] at this
      exact this

end Go.Proofs.Ytpilmkipbbengaa
