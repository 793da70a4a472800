/- A limit's window against the doses: nothing of the program. -/
import Derived.Test.YtpilmkipbbengaaGreatDoorMach
namespace Go.Proofs.YtpilmkipbbengaaGreatDoor
open Go.RowKit

theorem gv_split (ds : List Ds) (l : Lim) (f t : Int) (h : f ≤ t) : gv ds l f t = gv ds l f f + gv ds l (f + 1) t := by
  induction ds with
  | nil => simp [gv]
  | cons d ds ih =>
    have e : gd l f t d = gd l f f d + gd l (f + 1) t d := by
      unfold gd
      cases cnt l.ch d.ch.toNat with
      | false => simp
      | true =>
        by_cases h1 : f = d.tick
        · subst h1
          have h2 : ¬ d.tick + 1 ≤ d.tick := by omega
          simp [h, h2]
        · by_cases h2 : f ≤ d.tick
          · have h3 : f + 1 ≤ d.tick := by omega
            have h4 : ¬ d.tick ≤ f := by omega
            simp [h2, h3, h4]
          · have h3 : ¬ f + 1 ≤ d.tick := by omega
            simp [h2, h3]
    simp only [gv, List.map_cons, List.sum_cons] at ih ⊢
    rw [e, ih]; omega

theorem gv_late (ds : List Ds) (l : Lim) (f t u : Int) (h : ∀ d ∈ ds, d.tick ≤ t) (hu : t ≤ u) : gv ds l f u = gv ds l f t := by
  unfold gv
  congr 1
  apply List.map_congr_left
  intro d hd
  have h1 := h d hd
  have h2 : d.tick ≤ u := by omega
  simp [gd, h1, h2]

theorem gv_none (ds : List Ds) (l : Lim) (f t : Int) (h : ∀ d ∈ ds, d.tick < f) : gv ds l f t = 0 := by
  induction ds with
  | nil => rfl
  | cons d ds ih =>
    have h1 := h d (by simp)
    have h2 : ¬ f ≤ d.tick := by omega
    have := ih fun x hx => h x (List.mem_cons_of_mem _ hx)
    simp only [gv, List.map_cons, List.sum_cons] at this ⊢
    rw [this]
    simp [gd, h2]

theorem gv_not (ds : List Ds) (d : Ds) (l : Lim) (f t : Int) (h : cnt l.ch d.ch.toNat = false) : gv (ds ++ [d]) l f t = gv ds l f t := by
  rw [gv_snoc]; simp [gd, h]
theorem gv_in (ds : List Ds) (d : Ds) (l : Lim) (f t : Int) (h : cnt l.ch d.ch.toNat = true) (h1 : f ≤ d.tick) (h2 : d.tick ≤ t) : gv (ds ++ [d]) l f t = gv ds l f t + d.amt := by
  rw [gv_snoc]; simp [gd, h, h1, h2]
theorem gv_out (ds : List Ds) (d : Ds) (l : Lim) (f t : Int) (h1 : t < d.tick) : gv (ds ++ [d]) l f t = gv ds l f t := by
  rw [gv_snoc]
  have : ¬ d.tick ≤ t := by omega
  simp [gd, this]

/-- the ring, from the tick that comes next on -/
def Win.at (W : Win) (i : Nat) : Int := W.ring[(W.pos + i) % W.ring.length]?.getD 0

/-- a window stands as the limit and the doses ask -/
structure Fit (W : Win) (l : Lim) (ds : List Ds) (now : Int) : Prop where
  ok : W.Ok
  ch : W.ch = l.ch
  win : W.win = l.win
  cap : W.cap = l.cap
  len : (W.ring.length : Int) = l.win
  sum : W.sum = gv ds l (now - l.win + 1) now
  at_ : ∀ i : Nat, 1 ≤ i → i ≤ W.ring.length → W.at i = gv ds l (now - l.win + i) (now - l.win + i)

theorem Fit.not {W : Win} {l : Lim} {ds : List Ds} {now : Int} (h : Fit W l ds now) (d : Ds) (hc : cnt l.ch d.ch.toNat = false) : Fit W l (ds ++ [d]) now :=
  ⟨h.ok, h.ch, h.win, h.cap, h.len, by rw [gv_not _ _ _ _ _ hc]; exact h.sum, fun i h1 h2 => by rw [gv_not _ _ _ _ _ hc]; exact h.at_ i h1 h2⟩

theorem mod_ne {p i n : Nat} (hp : p < n) (h0 : 0 < i) (h1 : i < n) : (p + i) % n ≠ p := by
  intro e
  by_cases h : p + i < n
  · rw [Nat.mod_eq_of_lt h] at e; omega
  · rw [Nat.mod_eq_sub_mod (by omega), Nat.mod_eq_of_lt (by omega)] at e; omega

theorem Fit.give {W : Win} {l : Lim} {ds : List Ds} {now : Int} (h : Fit W l ds now) (k : Nat) (a : Int) (hl : 1 ≤ l.win) (hc : cnt l.ch k = true) (h0 : 0 ≤ a) (h1 : a ≤ W.cap - W.sum) : Fit (W.give a) l (ds ++ [⟨now, k, a⟩]) now := by
  have hpos := h.ok.pos
  obtain ⟨v, hv⟩ := h.ok.some hpos
  have hlen : (W.give a).ring.length = W.ring.length := by simp [Win.give]
  refine ⟨h.ok.give h0 h1, h.ch, h.win, h.cap, by rw [hlen]; exact h.len, ?_, ?_⟩
  · rw [gv_in _ _ _ _ _ (by simpa using hc) (by simp; omega) (by simp), ← h.sum]; rfl
  · intro i h2 h3
    rw [hlen] at h3
    have e := h.at_ i h2 h3
    have hL := h.len
    by_cases hi : i = W.ring.length
    · have e0 : (W.pos + i) % W.ring.length = W.pos := by rw [hi, Nat.add_mod_right, Nat.mod_eq_of_lt hpos]
      rw [gv_in _ _ _ _ _ (by simpa using hc) (by simp; omega) (by simp; omega), ← e]
      have hp : W.pos < W.ring.length := hpos
      simp only [Win.at, Win.give, hv, Option.getD_some, List.length_set, e0, List.getElem?_set_self hp]
    · rw [gv_out _ _ _ _ _ (by simp; omega), ← e]
      have := mod_ne hpos (show 0 < i by omega) (show i < W.ring.length by omega)
      simp only [Win.at, Win.give, List.length_set]
      rw [List.getElem?_set_ne (Ne.symm this)]

theorem Fit.pass {W : Win} {l : Lim} {ds : List Ds} {now : Int} (h : Fit W l ds now) (hl : 1 ≤ l.win) (hd : ∀ d ∈ ds, d.tick ≤ now) : Fit W.pass l ds (now + 1) := by
  have hpos := h.ok.pos
  have hL := h.len
  have hn := h.ok.next
  have hlen : W.pass.ring.length = W.ring.length := by simp [Win.pass]
  have e1 := h.at_ 1 (by omega) (by omega)
  refine ⟨h.ok.pass, h.ch, h.win, h.cap, by rw [hlen]; exact h.len, ?_, ?_⟩
  · show W.sum - W.ring[W.next]?.getD 0 = _
    have e2 : W.ring[W.next]?.getD 0 = W.at 1 := rfl
    have e3 := gv_split ds l (now - l.win + 1) now (by omega)
    rw [e2, e1, h.sum, e3]
    rw [gv_late ds l _ now (now + 1) hd (by omega)]
    have e4 : now + 1 - l.win + 1 = now - l.win + 1 + 1 := by omega
    have e5 : now - l.win + (1 : Nat) = now - l.win + 1 := by omega
    rw [e4, e5]; omega
  · intro i h2 h3
    rw [hlen] at h3
    have e0 : (W.next + i) % W.ring.length = (W.pos + (i + 1)) % W.ring.length := by
      simp only [Win.next, Nat.mod_add_mod]; congr 1; omega
    by_cases hi : i = W.ring.length
    · have e3 : (W.next + i) % W.ring.length = W.next := by rw [hi, Nat.add_mod_right, Nat.mod_eq_of_lt hn]
      rw [gv_none ds l _ _ fun d hd' => by have := hd d hd'; omega]
      simp only [Win.at, Win.pass, List.length_set, e3, List.getElem?_set_self hn, Option.getD_some]
    · have e := h.at_ (i + 1) (by omega) (by omega)
      have e6 : now + 1 - l.win + i = now - l.win + (i + 1 : Nat) := by omega
      rw [e6, ← e]
      have hne := mod_ne hn (show 0 < i by omega) (show i < W.ring.length by omega)
      simp only [Win.at, Win.pass, List.length_set]
      rw [List.getElem?_set_ne (Ne.symm hne), e0]

theorem Fit.lefts {W : Win} {l : Lim} {ds : List Ds} {now : Int} (h : Fit W l ds now) (hd : ∀ d ∈ ds, d.tick ≤ now) : ∀ n : Nat, n ≤ W.ring.length → W.lefts n = lft ds l (now + n) := by
  intro n
  have hL := h.len
  induction n with
  | zero => intro _; simp only [Win.lefts, lft, h.cap, h.sum]; simp
  | succ n ih =>
    intro hn
    have i1 := ih (by omega)
    have e := h.at_ (n + 1) (by omega) hn
    simp only [Win.lefts]
    have e2 : W.ring[(W.pos + (n + 1)) % W.ring.length]?.getD 0 = W.at (n + 1) := rfl
    rw [e2, e, i1]
    unfold lft
    have e3 := gv_split ds l (now + n - l.win + 1) (now + n) (by omega)
    have e4 : now + ((n + 1 : Nat) : Int) = now + n + 1 := by omega
    have e5 : now - l.win + ((n + 1 : Nat) : Int) = now + n - l.win + 1 := by omega
    have e6 : now + n + 1 - l.win + 1 = now + n - l.win + 1 + 1 := by omega
    rw [e4, e5, e6, e3, gv_late ds l _ (now + n) (now + n + 1) (fun d h => by have := hd d h; omega) (by omega)]
    omega

theorem Fit.left0 {W : Win} {l : Lim} {ds : List Ds} {now : Int} (h : Fit W l ds now) : W.cap - W.sum = lft ds l now := by
  rw [h.cap, h.sum]; rfl

theorem lft_mono {ds : List Ds} {l : Lim} {now : Int} (hok : ∀ d ∈ ds, d.Ok) (hd : ∀ d ∈ ds, d.tick ≤ now) (n m : Nat) (h : n ≤ m) : lft ds l (now + n) ≤ lft ds l (now + m) := by
  induction m with
  | zero => have : n = 0 := by omega
            subst this; exact Int.le_refl _
  | succ m ih =>
    by_cases e : n = m + 1
    · subst e; exact Int.le_refl _
    · have h1 := ih (by omega)
      refine Int.le_trans h1 ?_
      unfold lft
      have e4 : now + ((m + 1 : Nat) : Int) = now + m + 1 := by omega
      have e6 : now + m + 1 - l.win + 1 = now + m - l.win + 1 + 1 := by omega
      rw [e4, e6, gv_late ds l _ (now + m) (now + m + 1) (fun d h => by have := hd d h; omega) (by omega)]
      by_cases hw : now + m - l.win + 1 ≤ now + m
      · have e3 := gv_split ds l (now + m - l.win + 1) (now + m) hw
        have := (gv_bd (l := l) (f := now + m - l.win + 1) (t := now + m - l.win + 1) hok).1
        rw [e3]; omega
      · rw [gv_none ds l _ _ fun d h => by have := hd d h; omega, gv_none ds l _ _ fun d h => by have := hd d h; omega]
        omega

/-- the room, said otherwise -/
theorem room_ge {ds : List Ds} {k : Nat} {t a : Int} : ∀ (lims : List Lim) (n : Int), a ≤ lims.foldl (rstep ds k t) n ↔ a ≤ n ∧ ∀ l ∈ lims, cnt l.ch k = true → a ≤ lft ds l t := by
  intro lims
  induction lims with
  | nil => intro n; simp
  | cons l lims ih =>
    intro n
    rw [List.foldl_cons, ih]
    unfold rstep
    constructor
    · rintro ⟨h1, h2⟩
      split at h1
      · rename_i e; simp at e
        refine ⟨by omega, fun x hx hc => ?_⟩
        rcases List.mem_cons.1 hx with rfl | hx
        · exact h1
        · exact h2 x hx hc
      · rename_i e; simp at e
        refine ⟨h1, fun x hx hc => ?_⟩
        rcases List.mem_cons.1 hx with rfl | hx
        · have := e hc; omega
        · exact h2 x hx hc
    · rintro ⟨h1, h2⟩
      refine ⟨?_, fun x hx hc => h2 x (List.mem_cons_of_mem _ hx) hc⟩
      split
      · rename_i e; simp at e; exact h2 l (by simp) e.1
      · exact h1

theorem room_le {ds : List Ds} {lims : List Lim} {k : Nat} {t : Int} {l : Lim} (h : l ∈ lims) (hc : cnt l.ch k = true) : rroom ds lims k t ≤ lft ds l t :=
  ((room_ge (a := rroom ds lims k t) lims 1000).1 (Int.le_refl _)).2 l h hc

theorem room_nonneg {ds : List Ds} {lims : List Lim} {k : Nat} {t : Int} (h : ∀ l ∈ lims, 0 ≤ lft ds l t) : 0 ≤ rroom ds lims k t :=
  (room_ge lims 1000).2 ⟨by omega, fun l hl _ => h l hl⟩

end Go.Proofs.YtpilmkipbbengaaGreatDoor
