/- A limit's window against the doses: nothing of the program. -/
import Derived.Test.YtpilmkipbbengaaGreatDoorMach
import Derived.Test.YtpilmkipbbengaaGreatDoorMach2
import Derived.Test.YtpilmkipbbengaaGreatDoorAgd
import Derived.Deep.RegionLaw
namespace Go.Proofs.YtpilmkipbbengaaGreatDoor
open Go.RowKit

theorem gv_split (ds : List Ds) (l : Lim) (f t : Int) (h : f ≤ t) : gv ds l f t = gv ds l f f + gv ds l (f + 1) t := by
  induction ds with
  | nil => simp [gv]
  | cons d ds ih =>
    have e : gd l f t d = gd l f f d + gd l (f + 1) t d := by
      unfold gd
      cases cnt l.ch d.ch.toNat with
      | false => simp
      | true =>
        by_cases h1 : f = d.tick
        · subst h1
          have h2 : ¬ d.tick + 1 ≤ d.tick := by omega
          simp [h, h2]
        · by_cases h2 : f ≤ d.tick
          · have h3 : f + 1 ≤ d.tick := by omega
            have h4 : ¬ d.tick ≤ f := by omega
            simp [h2, h3, h4]
          · have h3 : ¬ f + 1 ≤ d.tick := by omega
            simp [h2, h3]
    simp only [gv, List.map_cons, List.sum_cons] at ih ⊢
    rw [e, ih]; omega

theorem gv_late (ds : List Ds) (l : Lim) (f t u : Int) (h : ∀ d ∈ ds, d.tick ≤ t) (hu : t ≤ u) : gv ds l f u = gv ds l f t := by
  unfold gv
  congr 1
  apply List.map_congr_left
  intro d hd
  have h1 := h d hd
  have h2 : d.tick ≤ u := by omega
  simp [gd, h1, h2]

theorem gv_none (ds : List Ds) (l : Lim) (f t : Int) (h : ∀ d ∈ ds, d.tick < f) : gv ds l f t = 0 := by
  induction ds with
  | nil => rfl
  | cons d ds ih =>
    have h1 := h d (by simp)
    have h2 : ¬ f ≤ d.tick := by omega
    have := ih fun x hx => h x (List.mem_cons_of_mem _ hx)
    simp only [gv, List.map_cons, List.sum_cons] at this ⊢
    rw [this]
    simp [gd, h2]

theorem gv_not (ds : List Ds) (d : Ds) (l : Lim) (f t : Int) (h : cnt l.ch d.ch.toNat = false) : gv (ds ++ [d]) l f t = gv ds l f t := by
  rw [gv_snoc]; simp [gd, h]
theorem gv_in (ds : List Ds) (d : Ds) (l : Lim) (f t : Int) (h : cnt l.ch d.ch.toNat = true) (h1 : f ≤ d.tick) (h2 : d.tick ≤ t) : gv (ds ++ [d]) l f t = gv ds l f t + d.amt := by
  rw [gv_snoc]; simp [gd, h, h1, h2]
theorem gv_out (ds : List Ds) (d : Ds) (l : Lim) (f t : Int) (h1 : t < d.tick) : gv (ds ++ [d]) l f t = gv ds l f t := by
  rw [gv_snoc]
  have : ¬ d.tick ≤ t := by omega
  simp [gd, this]

/-- the ring, from the tick that comes next on -/
def Win.at (W : Win) (i : Nat) : Int := W.ring[(W.pos + i) % W.ring.length]?.getD 0

/-- a window stands as the limit and the doses ask -/
structure Fit (W : Win) (l : Lim) (ds : List Ds) (now : Int) : Prop where
  ok : W.Ok
  ch : W.ch = l.ch
  win : W.win = l.win
  cap : W.cap = l.cap
  len : (W.ring.length : Int) = l.win
  sum : W.sum = gv ds l (now - l.win + 1) now
  at_ : ∀ i : Nat, 1 ≤ i → i ≤ W.ring.length → W.at i = gv ds l (now - l.win + i) (now - l.win + i)

theorem Fit.not {W : Win} {l : Lim} {ds : List Ds} {now : Int} (h : Fit W l ds now) (d : Ds) (hc : cnt l.ch d.ch.toNat = false) : Fit W l (ds ++ [d]) now :=
  ⟨h.ok, h.ch, h.win, h.cap, h.len, by rw [gv_not _ _ _ _ _ hc]; exact h.sum, fun i h1 h2 => by rw [gv_not _ _ _ _ _ hc]; exact h.at_ i h1 h2⟩

theorem mod_ne {p i n : Nat} (hp : p < n) (h0 : 0 < i) (h1 : i < n) : (p + i) % n ≠ p := by
  intro e
  by_cases h : p + i < n
  · rw [Nat.mod_eq_of_lt h] at e; omega
  · rw [Nat.mod_eq_sub_mod (by omega), Nat.mod_eq_of_lt (by omega)] at e; omega

theorem Fit.give {W : Win} {l : Lim} {ds : List Ds} {now : Int} (h : Fit W l ds now) (k : Nat) (a : Int) (hl : 1 ≤ l.win) (hc : cnt l.ch k = true) (h0 : 0 ≤ a) (h1 : a ≤ W.cap - W.sum) : Fit (W.give a) l (ds ++ [⟨now, k, a⟩]) now := by
  have hpos := h.ok.pos
  obtain ⟨v, hv⟩ := h.ok.some hpos
  have hlen : (W.give a).ring.length = W.ring.length := by simp [Win.give]
  refine ⟨h.ok.give h0 h1, h.ch, h.win, h.cap, by rw [hlen]; exact h.len, ?_, ?_⟩
  · rw [gv_in _ _ _ _ _ (by simpa using hc) (by simp; omega) (by simp), ← h.sum]; rfl
  · intro i h2 h3
    rw [hlen] at h3
    have e := h.at_ i h2 h3
    have hL := h.len
    by_cases hi : i = W.ring.length
    · have e0 : (W.pos + i) % W.ring.length = W.pos := by rw [hi, Nat.add_mod_right, Nat.mod_eq_of_lt hpos]
      rw [gv_in _ _ _ _ _ (by simpa using hc) (by simp; omega) (by simp; omega), ← e]
      have hp : W.pos < W.ring.length := hpos
      simp only [Win.at, Win.give, hv, Option.getD_some, List.length_set, e0, List.getElem?_set_self hp]
    · rw [gv_out _ _ _ _ _ (by simp; omega), ← e]
      have := mod_ne hpos (show 0 < i by omega) (show i < W.ring.length by omega)
      simp only [Win.at, Win.give, List.length_set]
      rw [List.getElem?_set_ne (Ne.symm this)]

theorem Fit.pass {W : Win} {l : Lim} {ds : List Ds} {now : Int} (h : Fit W l ds now) (hl : 1 ≤ l.win) (hd : ∀ d ∈ ds, d.tick ≤ now) : Fit W.pass l ds (now + 1) := by
  have hpos := h.ok.pos
  have hL := h.len
  have hn := h.ok.next
  have hlen : W.pass.ring.length = W.ring.length := by simp [Win.pass]
  have e1 := h.at_ 1 (by omega) (by omega)
  refine ⟨h.ok.pass, h.ch, h.win, h.cap, by rw [hlen]; exact h.len, ?_, ?_⟩
  · show W.sum - W.ring[W.next]?.getD 0 = _
    have e2 : W.ring[W.next]?.getD 0 = W.at 1 := rfl
    have e3 := gv_split ds l (now - l.win + 1) now (by omega)
    rw [e2, e1, h.sum, e3]
    rw [gv_late ds l _ now (now + 1) hd (by omega)]
    have e4 : now + 1 - l.win + 1 = now - l.win + 1 + 1 := by omega
    have e5 : now - l.win + (1 : Nat) = now - l.win + 1 := by omega
    rw [e4, e5]; omega
  · intro i h2 h3
    rw [hlen] at h3
    have e0 : (W.next + i) % W.ring.length = (W.pos + (i + 1)) % W.ring.length := by
      simp only [Win.next, Nat.mod_add_mod]; congr 1; omega
    by_cases hi : i = W.ring.length
    · have e3 : (W.next + i) % W.ring.length = W.next := by rw [hi, Nat.add_mod_right, Nat.mod_eq_of_lt hn]
      rw [gv_none ds l _ _ fun d hd' => by have := hd d hd'; omega]
      simp only [Win.at, Win.pass, List.length_set, e3, List.getElem?_set_self hn, Option.getD_some]
    · have e := h.at_ (i + 1) (by omega) (by omega)
      have e6 : now + 1 - l.win + i = now - l.win + (i + 1 : Nat) := by omega
      rw [e6, ← e]
      have hne := mod_ne hn (show 0 < i by omega) (show i < W.ring.length by omega)
      simp only [Win.at, Win.pass, List.length_set]
      rw [List.getElem?_set_ne (Ne.symm hne), e0]

theorem Fit.lefts {W : Win} {l : Lim} {ds : List Ds} {now : Int} (h : Fit W l ds now) (hd : ∀ d ∈ ds, d.tick ≤ now) : ∀ n : Nat, n ≤ W.ring.length → W.lefts n = lft ds l (now + n) := by
  intro n
  have hL := h.len
  induction n with
  | zero => intro _; simp only [Win.lefts, lft, h.cap, h.sum]; simp
  | succ n ih =>
    intro hn
    have i1 := ih (by omega)
    have e := h.at_ (n + 1) (by omega) hn
    simp only [Win.lefts]
    have e2 : W.ring[(W.pos + (n + 1)) % W.ring.length]?.getD 0 = W.at (n + 1) := rfl
    rw [e2, e, i1]
    unfold lft
    have e3 := gv_split ds l (now + n - l.win + 1) (now + n) (by omega)
    have e4 : now + ((n + 1 : Nat) : Int) = now + n + 1 := by omega
    have e5 : now - l.win + ((n + 1 : Nat) : Int) = now + n - l.win + 1 := by omega
    have e6 : now + n + 1 - l.win + 1 = now + n - l.win + 1 + 1 := by omega
    rw [e4, e5, e6, e3, gv_late ds l _ (now + n) (now + n + 1) (fun d h => by have := hd d h; omega) (by omega)]
    omega

theorem Fit.left0 {W : Win} {l : Lim} {ds : List Ds} {now : Int} (h : Fit W l ds now) : W.cap - W.sum = lft ds l now := by
  rw [h.cap, h.sum]; rfl

theorem lft_mono {ds : List Ds} {l : Lim} {now : Int} (hok : ∀ d ∈ ds, d.Ok) (hd : ∀ d ∈ ds, d.tick ≤ now) (n m : Nat) (h : n ≤ m) : lft ds l (now + n) ≤ lft ds l (now + m) := by
  induction m with
  | zero => have : n = 0 := by omega
            subst this; exact Int.le_refl _
  | succ m ih =>
    by_cases e : n = m + 1
    · subst e; exact Int.le_refl _
    · have h1 := ih (by omega)
      refine Int.le_trans h1 ?_
      unfold lft
      have e4 : now + ((m + 1 : Nat) : Int) = now + m + 1 := by omega
      have e6 : now + m + 1 - l.win + 1 = now + m - l.win + 1 + 1 := by omega
      rw [e4, e6, gv_late ds l _ (now + m) (now + m + 1) (fun d h => by have := hd d h; omega) (by omega)]
      by_cases hw : now + m - l.win + 1 ≤ now + m
      · have e3 := gv_split ds l (now + m - l.win + 1) (now + m) hw
        have := (gv_bd (l := l) (f := now + m - l.win + 1) (t := now + m - l.win + 1) hok).1
        rw [e3]; omega
      · rw [gv_none ds l _ _ fun d h => by have := hd d h; omega, gv_none ds l _ _ fun d h => by have := hd d h; omega]
        omega

/-- the room, said otherwise -/
theorem room_ge {ds : List Ds} {k : Nat} {t a : Int} : ∀ (lims : List Lim) (n : Int), a ≤ lims.foldl (rstep ds k t) n ↔ a ≤ n ∧ ∀ l ∈ lims, cnt l.ch k = true → a ≤ lft ds l t := by
  intro lims
  induction lims with
  | nil => intro n; simp
  | cons l lims ih =>
    intro n
    rw [List.foldl_cons, ih]
    unfold rstep
    constructor
    · rintro ⟨h1, h2⟩
      split at h1
      · rename_i e; simp at e
        refine ⟨by omega, fun x hx hc => ?_⟩
        rcases List.mem_cons.1 hx with rfl | hx
        · exact h1
        · exact h2 x hx hc
      · rename_i e; simp at e
        refine ⟨h1, fun x hx hc => ?_⟩
        rcases List.mem_cons.1 hx with rfl | hx
        · have := e hc; omega
        · exact h2 x hx hc
    · rintro ⟨h1, h2⟩
      refine ⟨?_, fun x hx hc => h2 x (List.mem_cons_of_mem _ hx) hc⟩
      split
      · rename_i e; simp at e; exact h2 l (by simp) e.1
      · exact h1

theorem room_le {ds : List Ds} {lims : List Lim} {k : Nat} {t : Int} {l : Lim} (h : l ∈ lims) (hc : cnt l.ch k = true) : rroom ds lims k t ≤ lft ds l t :=
  ((room_ge (a := rroom ds lims k t) lims 1000).1 (Int.le_refl _)).2 l h hc

theorem room_nonneg {ds : List Ds} {lims : List Lim} {k : Nat} {t : Int} (h : ∀ l ∈ lims, 0 ≤ lft ds l t) : 0 ≤ rroom ds lims k t :=
  (room_ge lims 1000).2 ⟨by omega, fun l hl _ => h l hl⟩

end Go.Proofs.YtpilmkipbbengaaGreatDoor

/- Wait, limit by limit: nothing of the program. -/
namespace Go.Proofs.YtpilmkipbbengaaGreatDoor
open Go.RowKit

/-- wait, limit by limit -/
structure WaitSt (R : RSt) (k : Nat) (a : Int) (lims : List Lim) (n : Nat) : Prop where
  top : n ≤ 100
  there : ∀ l ∈ lims, cnt l.ch k = true → a ≤ lft R.doses l (R.now + n)
  first : ∀ m : Nat, m < n → ∃ l ∈ lims, cnt l.ch k = true ∧ lft R.doses l (R.now + m) < a

theorem WaitSt.done {R : RSt} {k : Nat} {a : Int} {n : Nat} (ha : a ≤ 1000) (h : WaitSt R k a R.lims n) : WaitOk R k a (some n) := by
  refine ⟨h.top, (room_ge _ _).2 ⟨ha, h.there⟩, fun m hm => ?_⟩
  obtain ⟨l, hl, hc, hlt⟩ := h.first m hm
  have := room_le (ds := R.doses) (t := R.now + m) hl hc
  omega

theorem WaitSt.never {R : RSt} {k : Nat} {a : Int} {l : Lim} (ok : R.Ok) (hl : l ∈ R.lims) (hc : cnt l.ch k = true) (ha : l.cap < a) : WaitOk R k a none := by
  intro m _
  have h1 := room_le (ds := R.doses) (t := R.now + m) hl hc
  have := (gv_bd (l := l) (f := R.now + m - l.win + 1) (t := R.now + m) ok.doses).1
  unfold lft at h1; omega

theorem WaitSt.skip {R : RSt} {k : Nat} {a : Int} {lims : List Lim} {n : Nat} (h : WaitSt R k a lims n) (l : Lim) (hc : cnt l.ch k = false) : WaitSt R k a (lims ++ [l]) n := by
  refine ⟨h.top, fun x hx hcx => ?_, fun m hm => ?_⟩
  · rcases List.mem_append.1 hx with hx | hx
    · exact h.there x hx hcx
    · simp at hx; subst hx; rw [hc] at hcx; cases hcx
  · obtain ⟨x, hx, r⟩ := h.first m hm
    exact ⟨x, List.mem_append_left _ hx, r⟩

theorem WaitSt.more {R : RSt} {k : Nat} {a : Int} {lims : List Lim} {n : Nat} (ok : R.Ok) (hd : ∀ d ∈ R.doses, d.tick ≤ R.now) (h : WaitSt R k a lims n) (l : Lim) (hc : cnt l.ch k = true) (q : Nat) (hq : q ≤ 100)
    (h1 : a ≤ lft R.doses l (R.now + q)) (h2 : ∀ m : Nat, m < q → lft R.doses l (R.now + m) < a) : WaitSt R k a (lims ++ [l]) (max n q) := by
  have ht := h.top
  refine ⟨by omega, fun x hx hcx => ?_, fun m hm => ?_⟩
  · rcases List.mem_append.1 hx with hx | hx
    · exact Int.le_trans (h.there x hx hcx) (lft_mono ok.doses hd _ _ (by omega))
    · simp at hx; subst hx; exact Int.le_trans h1 (lft_mono ok.doses hd _ _ (by omega))
  · by_cases e : m < n
    · obtain ⟨x, hx, r⟩ := h.first m e
      exact ⟨x, List.mem_append_left _ hx, r⟩
    · exact ⟨l, by simp, hc, h2 m (by omega)⟩

end Go.Proofs.YtpilmkipbbengaaGreatDoor

/- The pump of the program in memory: its windows, a channel's cells, its own cells. -/
namespace Go.Proofs.YtpilmkipbbengaaGreatDoor
open Go.RowKit

/-- a window's block, its ring's, what it is -/
abbrev Wd := Nat × Nat × Win

/-- the windows' list: the blocks of each window, and what it is -/
structure WsAt (w : World) (vw : Value) (ws : List Wd) : Prop where
  row : w.ownsRow 0 114 1 vw ws.length (ws.flatMap fun x => [ptr x.1 0])
  each : ∀ (i : Nat) (x : Wd), ws[i]? = some x → WinAt w x.1 x.2.1 x.2.2
  dis : ∀ (i j : Nat) (x y : Wd), ws[i]? = some x → ws[j]? = some y → i ≠ j → x.1 ≠ y.1 ∧ x.1 ≠ y.2.1 ∧ x.2.1 ≠ y.1 ∧ x.2.1 ≠ y.2.1
  out : ∀ (i : Nat) (x : Wd), ws[i]? = some x → vw.ownBlock ≠ some x.1 ∧ vw.ownBlock ≠ some x.2.1

def WsF (vw : Value) (ws : List Wd) : Nat → Prop := fun b => vw.ownBlock = some b ∨ ∃ (i : Nat) (x : Wd), ws[i]? = some x ∧ (b = x.1 ∨ b = x.2.1)

theorem WsAt.lt {w : World} {vw : Value} {ws : List Wd} (h : WsAt w vw ws) : ∀ b, WsF vw ws b → b < w.heap.size := by
  rintro b (e | ⟨i, x, hi, rfl | rfl⟩)
  · exact (h.row.lt b e).2
  · exact (h.each i x hi).own.lt
  · exact (h.each i x hi).ring.lt

theorem WinAt.frm {S : Nat → Prop} {w w' : World} {b rb : Nat} {W : Win} (h : WinAt w b rb W) (f : Frm S w w') (h1 : ¬ S b) (h2 : ¬ S rb) : WinAt w' b rb W := ⟨h.own.frm f h1, h.ring.frm f h2, h.ne⟩

theorem WsAt.frm {S : Nat → Prop} {w w' : World} {vw : Value} {ws : List Wd} (h : WsAt w vw ws) (f : Frm S w w') (hs : ∀ b, WsF vw ws b → ¬ S b) : WsAt w' vw ws :=
  ⟨row_frm h.row f fun g hg => hs g (Or.inl hg), fun i x hi => (h.each i x hi).frm f (hs _ (Or.inr ⟨i, x, hi, Or.inl rfl⟩)) (hs _ (Or.inr ⟨i, x, hi, Or.inr rfl⟩)), h.dis, h.out⟩

/-- one window has turned -/
theorem WsAt.turn {w w' : World} {vw : Value} {ws : List Wd} (h : WsAt w vw ws) {i : Nat} {x : Wd} (hi : ws[i]? = some x) {W' : Win} (f : Frm (fun b => b = x.1 ∨ b = x.2.1) w w') (hw : WinAt w' x.1 x.2.1 W') :
    WsAt w' vw (ws.set i (x.1, x.2.1, W')) := by
  have hli : i < ws.length := (List.getElem?_eq_some_iff.1 hi).1
  have key : ∀ (j : Nat) (y : Wd), (ws.set i (x.1, x.2.1, W'))[j]? = some y → ∃ z : Wd, ws[j]? = some z ∧ y.1 = z.1 ∧ y.2.1 = z.2.1 := by
    intro j y hy
    by_cases e : i = j
    · subst e
      rw [List.getElem?_set_self hli] at hy; simp at hy; subst hy
      exact ⟨x, hi, rfl, rfl⟩
    · rw [List.getElem?_set_ne e] at hy
      exact ⟨y, hy, rfl, rfl⟩
  have ho := h.out i x hi
  refine ⟨?_, ?_, ?_, ?_⟩
  · have hr : w'.ownsRow 0 114 1 vw ws.length (ws.flatMap fun x => [ptr x.1 0]) := row_frm h.row f fun g hg => by
      rintro (e | e)
      · exact ho.1 (by rw [hg, e])
      · exact ho.2 (by rw [hg, e])
    have e : (ws.set i (x.1, x.2.1, W')).flatMap (fun x => [ptr x.1 0]) = ws.flatMap fun x => [ptr x.1 0] := by
      simp only [← List.map_eq_flatMap]
      apply List.ext_getElem?
      intro j
      simp only [List.getElem?_map]
      by_cases e : i = j
      · subst e; rw [List.getElem?_set_self hli, hi]; rfl
      · rw [List.getElem?_set_ne e]
    rw [e, List.length_set]; exact hr
  · intro j y hy
    by_cases e : i = j
    · subst e
      rw [List.getElem?_set_self hli] at hy; simp at hy; subst hy
      exact hw
    · rw [List.getElem?_set_ne e] at hy
      have d := h.dis j i y x hy hi (Ne.symm e)
      refine (h.each j y hy).frm f ?_ ?_
      · rintro (e | e)
        · exact d.1 e
        · exact d.2.1 e
      · rintro (e | e)
        · exact d.2.2.1 e
        · exact d.2.2.2 e
  · intro j k y z hy hz hne
    obtain ⟨y', h1, h2, h3⟩ := key j y hy
    obtain ⟨z', h4, h5, h6⟩ := key k z hz
    rw [h2, h3, h5, h6]
    exact h.dis j k y' z' h1 h4 hne
  · intro j y hy
    obtain ⟨y', h1, h2, h3⟩ := key j y hy
    rw [h2, h3]
    exact h.out j y' h1

theorem WsF.set {vw : Value} {ws : List Wd} {i : Nat} {x : Wd} (hi : ws[i]? = some x) (W' : Win) (b : Nat) : WsF vw (ws.set i (x.1, x.2.1, W')) b ↔ WsF vw ws b := by
  have hli : i < ws.length := (List.getElem?_eq_some_iff.1 hi).1
  constructor
  · rintro (e | ⟨j, y, hy, e⟩)
    · exact Or.inl e
    · by_cases q : i = j
      · subst q; rw [List.getElem?_set_self hli] at hy; simp at hy; subst hy
        exact Or.inr ⟨i, x, hi, e⟩
      · rw [List.getElem?_set_ne q] at hy; exact Or.inr ⟨j, y, hy, e⟩
  · rintro (e | ⟨j, y, hy, e⟩)
    · exact Or.inl e
    · by_cases q : i = j
      · subst q; rw [hi] at hy; simp at hy; subst hy
        exact Or.inr ⟨i, _, List.getElem?_set_self hli, e⟩
      · exact Or.inr ⟨j, y, by rw [List.getElem?_set_ne q]; exact hy, e⟩

/-- all windows with the limits -/
def Fits (ws : List Wd) (lims : List Lim) (ds : List Ds) (now : Int) : Prop :=
  ws.length = lims.length ∧ ∀ (i : Nat) (x : Wd) (l : Lim), ws[i]? = some x → lims[i]? = some l → Fit x.2.2 l ds now

def endV : Option (Ent × Nat) → Value
  | none => .pointer none
  | some x => ptr x.1.blk 0

abbrev CsF (vc : Value) : Nat → Prop := fun x => vc.ownBlock = some x

/-- what the entry of channel k does -/
def EndAt (w : World) (vc : Value) (k : Nat) (e : Ent) (cb : Nat) : Prop :=
  e.act = .func (.func 65) #[] #[ptr cb 0] ∧ ∃ g n cap, vc = .slice (some ⟨g, 0, none⟩) n cap ∧ Blk w cb #[ptr g (k * 5)] 130

theorem EndAt.frm {S : Nat → Prop} {w w' : World} {vc : Value} {k : Nat} {e : Ent} {cb : Nat} (h : EndAt w vc k e cb) (f : Frm S w w') (hs : ¬ S cb) : EndAt w' vc k e cb := by
  obtain ⟨h1, g, n, cap, h2, h3⟩ := h
  exact ⟨h1, g, n, cap, h2, h3.frm f hs⟩

/-- a channel: its rate, the entry that ends it (and the cell in which the closure has its channel) -/
structure GCh where
  rate : Int
  ent : Option (Ent × Nat)
  so : Value
  rests : Bool
  free : Int

def gchC (c : GCh) : List Value := [I c.rate, endV c.ent, c.so, .bool c.rests, I c.free]

def gch0 : GCh := ⟨0, none, .slice none 0 0, false, 0⟩

/-- what no call but Run turns: the lockout, and the list of all doses -/
structure Lk where
  v : Int
  g : Value

structure GSt where
  now : Int
  lock : Lk
  chs : List GCh
  ws : List Wd
  num : Int
  eb : Option Nat
  es : List Ent
  xt : List Ent
  vo : Value
  nv : Int

def gCells (now : Int) (lock : Lk) (vc vw sl : Value) (num : Int) (vo : Value) (nv : Int) : Array Value := #[I now, I lock.v, vc, vw, sl, I num, vo, I nv, lock.g]

end Go.Proofs.YtpilmkipbbengaaGreatDoor

/- The pump's loops over its windows: room, wait, give's and pass's. -/
namespace Go.Proofs.YtpilmkipbbengaaGreatDoor
open Go.RowKit

theorem Fits.fit {ws : List Wd} {lims : List Lim} {ds : List Ds} {now : Int} (h : Fits ws lims ds now) {i : Nat} {x : Wd} (hi : ws[i]? = some x) : ∃ l, lims[i]? = some l ∧ Fit x.2.2 l ds now := by
  have hl : i < ws.length := (List.getElem?_eq_some_iff.1 hi).1
  have hl' : i < lims.length := by rw [← h.1]; exact hl
  exact ⟨lims[i], List.getElem?_eq_getElem hl', h.2 i x _ hi (List.getElem?_eq_getElem hl')⟩

/-- what a round of a loop over the windows needs -/
theorem WsAt.cell {w : World} {vw : Value} {ws : List Wd} (h : WsAt w vw ws) {i : Nat} {x : Wd} (hi : ws[i]? = some x) :
    ∃ g cap, vw = .slice (some ⟨g, 0, none⟩) ws.length cap ∧ ws.length ≤ cap ∧ w.cell? ⟨g, i, none⟩ = some (ptr x.1 0) := by
  obtain ⟨g, cap, hv, hc, hcell, -⟩ := row_at h.row (fun _ => rfl) hi (by decide)
  have := hcell 0 (by decide)
  simp at this
  exact ⟨g, cap, hv, hc, this⟩

theorem WsAt.drewN {w : World} {vw : Value} {ws : List Wd} (h : WsAt w vw ws) (n : Nat) : WsAt (w.drewN n) vw ws := h.frm ((Frm.refl (fun _ => False) _).drewN n) fun _ _ e => e

set_option maxRecDepth 100000 in
set_option maxHeartbeats 800000 in
theorem room_any (b : Nat) (vw : Value) (ws : List Wd) (lims : List Lim) (ds : List Ds) (now k : Int) (w : World) (hc : w.cell? ⟨b, 3, none⟩ = some vw) (hw : WsAt w vw ws) (hf : Fits ws lims ds now) (k0 : 0 ≤ k) (k1 : k ≤ 3) (nl : ws.length ≤ 6) :
    Calls Tryz.prog 30 #[ptr b 0, I k] w fun e w' => e = .returned (I (rroom ds lims k.toNat now)) ∧ ∃ n, w' = w.drewN n := by
  obtain ⟨a, cp, rfl⟩ := row_slice hw.row
  have H := hide (And.intro hw hf)
  clear hw hf
  go_enter Tryz.func30, Tryz.ntmps30
  go_wp2_with fail
  go_loopg [5, 7, 13] ws.length (fun q n _ i wr => ∃ j : Nat, q + j = ws.length ∧ i = I j ∧ n = I ((lims.take j).foldl (rstep ds k.toNat now) 1000) ∧ Hid (∃ m, wr = w.drewN m))
  case atStart => exact ⟨0, by omega, rfl, rfl, 0, rfl⟩
  case round =>
    obtain ⟨j, hkj, rfl, rfl, hd⟩ := hrel
    obtain ⟨m, rfl⟩ := hd.out
    by_cases hj : j < ws.length
    · obtain ⟨x, hx⟩ : ∃ x, ws[j]? = some x := ⟨_, List.getElem?_eq_getElem hj⟩
      obtain ⟨l, hl, hfit⟩ := (H.out).2.fit hx
      obtain ⟨g, cap, hv, -, hcell⟩ := ((H.out).1.drewN m).cell hx
      injection hv with hv1 hv2 hv3
      subst hv1
      have hwin := ((H.out).1.drewN m).each j x hx
      have hsn := foldl_take_succ (rstep ds k.toNat now) 1000 lims j l hl
      have CC := hide (counts_any x.1 x.2.1 x.2.2 k (w.drewN m) hwin hfit.ok k0 k1)
      have LL := hide (left_any x.1 x.2.1 x.2.2 (w.drewN m) hwin hfit.ok)
      have e1 := hfit.left0
      have e2 := hfit.ch
      have FIN : Hid (∀ (y : Int) (n : Nat), y = rstep ds k.toNat now ((lims.take j).foldl (rstep ds k.toNat now) 1000) l → ∃ k' : Nat, k' < gk ∧ ∃ j' : Nat, k' + j' = ws.length ∧ I ((j : Int) + 1) = I j' ∧ I y = I ((lims.take j').foldl (rstep ds k.toNat now) 1000) ∧ Hid (∃ m, w.drewN n = w.drewN m)) := by
        intro y n hy
        exact ⟨gk - 1, by omega, j + 1, by omega, by simp, by rw [hsn, hy], n, rfl⟩
      generalize (lims.take j).foldl (rstep ds k.toNat now) 1000 = G at *
      have E := hide (And.intro e1 e2)
      have hok := hfit.ok
      have b1 := hok.sum0
      have b2 := hok.sum1
      have b3 := hok.cap1
      clear e1 e2 hsn hwin hl hx hfit hv2 hv3 hok hd
      go_wp2_with fail
      refine (CC.out).mono ?_
      rintro e w1 ⟨rfl, rfl⟩
      cases hct : cnt x.2.2.ch k.toNat with
      | false =>
        go_wp2_with fail
        obtain ⟨k', m1, m2⟩ := FIN.out G m (by rw [(E.out).2] at hct; simp [rstep, hct])
        go_roundg k'
        case measure => exact m1
        case rel => exact m2
      | true =>
        go_wp2_with fail
        refine (LL.out).mono ?_
        rintro e w2 ⟨rfl, n2, rfl⟩
        go_wp2_with fail
        · have h1 := h
          obtain ⟨k', m1, m2⟩ := FIN.out (x.2.2.cap - x.2.2.sum) (m + n2) (by
            have e := E.out
            rw [e.1] at h1 ⊢
            rw [e.2] at hct
            have h2 : lft ds l now < G := by omega
            simp [rstep, hct, h2])
          go_roundg k'
          case measure => exact m1
          case rel => exact m2
        · have h1 := h
          obtain ⟨k', m1, m2⟩ := FIN.out G (m + n2) (by
            have e := E.out
            rw [e.1] at h1
            rw [e.2] at hct
            have h2 : ¬ lft ds l now < G := by omega
            simp [rstep, hct, h2])
          go_roundg k'
          case measure => exact m1
          case rel => exact m2
    · have hje : j = ws.length := by omega
      have HK := hide (And.intro hje (H.out).2.1)
      clear hkj hd hje
      go_wp2_with fail
      go_ret
      exact ⟨ret_int (by rw [HK.out.1, HK.out.2, List.take_length]; rfl), m, rfl⟩


/-- what wait answers -/
def wVal : Option Nat → Value
  | some n => .tuple #[I n, .bool true]
  | none => .tuple #[I 0, .bool false]

set_option maxRecDepth 100000 in
set_option maxHeartbeats 1600000 in
theorem wait_any (b : Nat) (vw : Value) (ws : List Wd) (R : RSt) (k a : Int) (w : World) (hc : w.cell? ⟨b, 3, none⟩ = some vw) (hw : WsAt w vw ws) (hf : Fits ws R.lims R.doses R.now) (ok : R.Ok) (hd : ∀ d ∈ R.doses, d.tick ≤ R.now) (k0 : 0 ≤ k) (k1 : k ≤ 3) (a0 : 0 ≤ a) (a1 : a ≤ 1000) :
    Calls Tryz.prog 111 #[ptr b 0, I k, I a] w fun e w' => (∃ r, e = .returned (wVal r) ∧ WaitOk R k.toNat a r) ∧ ∃ n, w' = w.drewN n := by
  obtain ⟨av, cp, rfl⟩ := row_slice hw.row
  have nl : ws.length ≤ 6 := by rw [hf.1]; exact ok.nl
  have H := hide (And.intro hw (And.intro hf (And.intro ok hd)))
  clear hw hf ok hd
  go_enter Tryz.func111, Tryz.ntmps111
  go_wp2_with fail
  go_loopg [8, 10, 11, 12, 18] ws.length (fun q n _ _ _ i wr => ∃ j L : Nat, q + j = ws.length ∧ i = I j ∧ n = I L ∧ L ≤ 100 ∧ Hid (WaitSt R k.toNat a (R.lims.take j) L) ∧ Hid (∃ m, wr = w.drewN m))
  case atStart => exact ⟨0, 0, by omega, rfl, rfl, by omega, ⟨by omega, by simp, by omega⟩, 0, rfl⟩
  case round =>
    obtain ⟨j, L, hkj, rfl, rfl, hL, hst, hdr⟩ := hrel
    obtain ⟨m, rfl⟩ := hdr.out
    by_cases hj : j < ws.length
    · obtain ⟨x, hx⟩ : ∃ x, ws[j]? = some x := ⟨_, List.getElem?_eq_getElem hj⟩
      obtain ⟨l, hl, hfit⟩ := (H.out).2.1.fit hx
      obtain ⟨g, cap, hv, -, hcell⟩ := ((H.out).1.drewN m).cell hx
      injection hv with hv1 hv2 hv3
      subst hv1
      have hwin := ((H.out).1.drewN m).each j x hx
      have hsn : R.lims.take (j + 1) = R.lims.take j ++ [l] := take_snoc' hl
      have CC := hide (counts_any x.1 x.2.1 x.2.2 k (w.drewN m) hwin hfit.ok k0 k1)
      have FIN : Hid (∀ (L' n : Nat), WaitSt R k.toNat a (R.lims.take j ++ [l]) L' → ∃ k' : Nat, k' < gk ∧ ∃ j' L'' : Nat, k' + j' = ws.length ∧ I ((j : Int) + 1) = I j' ∧ I L' = I L'' ∧ L'' ≤ 100 ∧ Hid (WaitSt R k.toNat a (R.lims.take j') L'') ∧ Hid (∃ m, w.drewN n = w.drewN m)) := by
        intro L' n hy
        exact ⟨gk - 1, by omega, j + 1, L', by omega, by simp, rfl, hy.top, by rw [hsn]; exact hy, n, rfl⟩
      have hcap := hfit.cap
      have NO : Hid (cnt l.ch k.toNat = true → x.2.2.cap < a → WaitOk R k.toNat a none) := by
        intro h1 h2
        exact WaitSt.never (H.out).2.2.1 (List.mem_of_getElem? hl) h1 (by rw [← hcap]; exact h2)
      have YES : Hid (cnt l.ch k.toNat = true → a ≤ x.2.2.cap → Calls Tryz.prog 132 #[ptr x.1 0, I a] (w.drewN m) fun e w' => ∃ q : Nat, q ≤ 100 ∧ e = .returned (.tuple #[I q, .bool true]) ∧ (∃ n, w' = (w.drewN m).drewN n) ∧ WaitSt R k.toNat a (R.lims.take j ++ [l]) (max L q)) := by
        intro h1 h2
        refine (waitY_any x.1 x.2.1 x.2.2 a (w.drewN m) hwin hfit.ok a0 h2 a1).mono ?_
        rintro e w' ⟨q, q1, q2, q3, rfl, q4⟩
        have hlen := hfit.ok.len1
        have hdd := (H.out).2.2.2
        refine ⟨q, by omega, rfl, q4, WaitSt.more (H.out).2.2.1 hdd hst.out l h1 q (by omega) ?_ ?_⟩
        · rw [← hfit.lefts hdd q q1]; exact q2
        · intro m' hm'
          rw [← hfit.lefts hdd m' (by omega)]; exact q3 m' hm'
      have NW : Hid (x.2.2.cap < a → Calls Tryz.prog 132 #[ptr x.1 0, I a] (w.drewN m) fun e w' => e = .returned (.tuple #[I 0, .bool false]) ∧ w' = w.drewN m) := by
        intro h2
        exact waitN_any x.1 x.2.1 x.2.2 a (w.drewN m) hwin h2
      have SK : Hid (cnt l.ch k.toNat = false → WaitSt R k.toNat a (R.lims.take j ++ [l]) L) := fun h1 => hst.out.skip l h1
      have e2 : x.2.2.ch = l.ch := hfit.ch
      rw [e2] at CC
      clear e2 hcap hsn hwin hl hx hfit hv2 hv3 hdr hst
      go_wp2_with fail
      refine (CC.out).mono ?_
      rintro e w1 ⟨rfl, rfl⟩
      cases hct : cnt l.ch k.toNat with
      | false =>
        go_wp2_with fail
        obtain ⟨k', m1, m2⟩ := FIN.out L m (SK.out hct)
        go_roundg k'
        case measure => exact m1
        case rel => exact m2
      | true =>
        by_cases hca : x.2.2.cap < a
        · go_wp2_with fail
          refine (NW.out hca).mono ?_
          rintro e w2 ⟨rfl, rfl⟩
          go_wp2_with fail
          go_ret2
          exact ⟨⟨none, rfl, NO.out hct hca⟩, m, rfl⟩
        · have hca' : a ≤ x.2.2.cap := by omega
          go_wp2_with fail
          refine (YES.out hct hca').mono ?_
          rintro e w2 ⟨q, hq, rfl, ⟨n2, rfl⟩, hst⟩
          have ST := hide hst
          clear hst
          go_wp2_with fail
          all_goals first
            | (have h1 : L < q := h
               obtain ⟨k', m1, m2⟩ := FIN.out q (m + n2) (by have e := ST.out; rw [Nat.max_eq_right (by omega)] at e; exact e)
               go_roundg k'
               case measure => exact m1
               case rel => exact m2)
            | (have h1 : ¬ L < q := h
               obtain ⟨k', m1, m2⟩ := FIN.out L (m + n2) (by have e := ST.out; rw [Nat.max_eq_left (by omega)] at e; exact e)
               go_roundg k'
               case measure => exact m1
               case rel => exact m2)
    · have hje : j = ws.length := by omega
      have HK := hide (And.intro hje (And.intro (H.out).2.1.1 hst.out))
      clear hkj hdr hje hst
      go_wp2_with fail
      go_ret2
      refine ⟨⟨some L, rfl, WaitSt.done a1 ?_⟩, m, rfl⟩
      have e := HK.out
      rw [e.1, e.2.1, List.take_length] at e
      exact e.2.2

end Go.Proofs.YtpilmkipbbengaaGreatDoor

/- A pass over all windows. -/
namespace Go.Proofs.YtpilmkipbbengaaGreatDoor
open Go.RowKit

/-- on the way through the windows: up to j they have turned -/
structure Turn (w wr : World) (vw : Value) (ws ws' : List Wd) (lims : List Lim) (j : Nat) (P : Win → Lim → Prop) : Prop where
  lie : WsAt wr vw ws'
  len : ws'.length = ws.length
  foot : ∀ x, WsF vw ws' x ↔ WsF vw ws x
  frm : Frm (WsF vw ws) w wr
  done : ∀ (i : Nat) (x : Wd) (l : Lim), i < j → ws'[i]? = some x → lims[i]? = some l → P x.2.2 l
  rest : ∀ i : Nat, j ≤ i → ws'[i]? = ws[i]?

theorem Turn.start {w wr : World} {vw : Value} {ws : List Wd} (lims : List Lim) (P : Win → Lim → Prop) (h : WsAt w vw ws) (k : Keep w wr) : Turn w wr vw ws ws lims 0 P :=
  ⟨h.frm k fun _ _ e => e, rfl, fun _ => Iff.rfl, k.mono fun _ _ e => e.elim, fun _ _ _ h => absurd h (by omega), fun _ _ => rfl⟩

theorem Turn.skip {w wr : World} {vw : Value} {ws ws' : List Wd} {lims : List Lim} {j : Nat} {P : Win → Lim → Prop} (h : Turn w wr vw ws ws' lims j P) {x : Wd} {l : Lim} (hx : ws'[j]? = some x) (hl : lims[j]? = some l) (hp : P x.2.2 l) : Turn w wr vw ws ws' lims (j + 1) P := by
  refine ⟨h.lie, h.len, h.foot, h.frm, fun i y m hi hy hm => ?_, fun i hi => h.rest i (by omega)⟩
  by_cases e : i = j
  · subst e; rw [hx] at hy; rw [hl] at hm; simp at hy hm; subst hy; subst hm; exact hp
  · exact h.done i y m (by omega) hy hm

theorem Turn.next {w wr w2 : World} {vw : Value} {ws ws' : List Wd} {lims : List Lim} {j : Nat} {P : Win → Lim → Prop} (h : Turn w wr vw ws ws' lims j P) {x : Wd} {l : Lim} (hx : ws'[j]? = some x) (hl : lims[j]? = some l)
    {W' : Win} (f : Frm (fun b => b = x.1 ∨ b = x.2.1) wr w2) (hw : WinAt w2 x.1 x.2.1 W') (hp : P W' l) : Turn w w2 vw ws (ws'.set j (x.1, x.2.1, W')) lims (j + 1) P := by
  have hj : j < ws'.length := (List.getElem?_eq_some_iff.1 hx).1
  refine ⟨h.lie.turn hx f hw, by rw [List.length_set, h.len], fun b => (WsF.set hx W' b).trans (h.foot b), h.frm.trans (f.mono fun b _ hb => (h.foot b).1 (Or.inr ⟨j, x, hx, hb⟩)), fun i y m hi hy hm => ?_, fun i hi => ?_⟩
  · by_cases e : j = i
    · subst e; rw [List.getElem?_set_self hj] at hy; rw [hl] at hm; simp at hy hm; subst hy; subst hm; exact hp
    · rw [List.getElem?_set_ne e] at hy; exact h.done i y m (by omega) hy hm
  · rw [List.getElem?_set_ne (by omega)]; exact h.rest i (by omega)

theorem Turn.fits {w wr : World} {vw : Value} {ws ws' : List Wd} {lims : List Lim} {ds : List Ds} {now : Int} (h : Turn w wr vw ws ws' lims ws.length fun W l => Fit W l ds now) (hl : ws.length = lims.length) : Fits ws' lims ds now :=
  ⟨h.len.trans hl, fun i x l hi hm => h.done i x l (by rw [← h.len]; exact (List.getElem?_eq_some_iff.1 hi).1) hi hm⟩

end Go.Proofs.YtpilmkipbbengaaGreatDoor

/- A rate's end; what Run refuses; is there such a channel? -/
namespace Go.Proofs.YtpilmkipbbengaaGreatDoor
open Go.RowKit

set_option maxRecDepth 100000 in
set_option maxHeartbeats 800000 in
theorem basalEnd_any (cb g o : Nat) (u v : Value) (w : World) (hcb : w.cell? ⟨cb, 0, none⟩ = some (ptr g o)) (c0 : w.cell? ⟨g, o, none⟩ = some u) (c1 : w.cell? ⟨g, o + 1, none⟩ = some v) (f0 : w.frozen? ⟨g, o, none⟩ = false) (f1 : w.frozen? ⟨g, o + 1, none⟩ = false) (ne : cb ≠ g) :
    Calls Tryz.prog 65 #[ptr cb 0] w fun e w' => e = .returned (.tuple #[]) ∧ ∃ n, w' = ((w.setCell ⟨g, o, none⟩ (I 0)).setCell ⟨g, o + 1, none⟩ (.pointer none)).drewN n := by
  go_enter Tryz.func65, Tryz.ntmps65
  go_wp2
  go_region
  go_wp2
  go_end0
  exact ⟨rfl, 1, rfl⟩

theorem call_basalEnd (args : Array Value) (w : World) : (callFunc 65 args).run Tryz.prog w = .ok (.enter 65 args) w := by
  kernel_rfl

theorem AgAt.unique {w : World} {hb ho : Nat} {c c' : Array Value} {T T' : TypeId} {eb eb' : Option Nat} {es es' : List Ent} (h : AgAt w hb ho c T eb es) (k : AgAt w hb ho c' T' eb' es') : es = es' := by
  have hc : c = c' := by
    have h1 : w.heap[hb]? = some (.cells c T (0, 0)) := h.head
    have h2 : w.heap[hb]? = some (.cells c' T' (0, 0)) := k.head
    rw [h1] at h2; injection h2 with h2; injection h2
  subst hc
  obtain ⟨sl, a1, a2, a3⟩ := h.row
  obtain ⟨sl', b1, b2, b3⟩ := k.row
  rw [a1] at b1; injection b1 with b1; subst b1
  obtain ⟨p, cp, e1⟩ := row_slice a2
  obtain ⟨p', cp', e2⟩ := row_slice b2
  rw [e1] at e2; injection e2 with e2 e3 e4
  have hpt : ∀ l : List Ent, ptrs l = l.flatMap fun e => [ptr e.blk 0] := fun l => by simp [ptrs, List.map_eq_flatMap]
  rw [hpt] at a2 b2
  apply List.ext_getElem?
  intro i
  by_cases hi : i < es.length
  · have hi' : i < es'.length := by omega
    have x1 := List.getElem?_eq_getElem hi
    have x2 := List.getElem?_eq_getElem hi'
    obtain ⟨g, q, v1, -, v2, -⟩ := row_at a2 (fun _ => rfl) x1 (by decide)
    obtain ⟨g', q', v3, -, v4, -⟩ := row_at b2 (fun _ => rfl) x2 (by decide)
    rw [v1] at v3; injection v3 with v3 v5 v6; injection v3 with v3; injection v3 with v3
    have y1 := v2 0 (by decide)
    have y2 := v4 0 (by decide)
    subst v3
    rw [y1] at y2
    simp at y2
    have z1 : w.heap[es[i].blk]? = some (.cells (entCells es[i] i) 162 (0, 0)) := h.ent i _ x1
    have z2 : w.heap[es'[i].blk]? = some (.cells (entCells es'[i] i) 162 (0, 0)) := k.ent i _ x2
    rw [y2, z2] at z1
    injection z1 with z1; injection z1 with z1
    rw [x1, x2]
    simp [entCells] at z1
    congr 1
    cases hh : es[i] with
    | mk a1 a2 a3 a4 =>
      cases hh2 : es'[i] with
      | mk b1 b2 b3 b4 =>
        rw [hh, hh2] at y2 z1
        simp at y2 z1
        obtain ⟨z1, z2, z3⟩ := z1
        rw [y2, z1, z2, z3]
  · rw [List.getElem?_eq_none (by omega), List.getElem?_eq_none (by omega)]

theorem tks_past {R : RSt} (h : ∀ d ∈ R.doses, d.tick < R.now) : ∀ j, ∀ d ∈ (tks j R).doses, d.tick ≤ R.now := by
  intro j
  induction j with
  | zero => intro d hd; have := h d hd; omega
  | succ j ih =>
    intro d hd
    simp only [tks] at hd
    unfold tk1 at hd
    split at hd
    · exact ih d hd
    · split at hd
      · exact ih d hd
      · rcases List.mem_append.1 hd with h1 | h1
        · exact ih d h1
        · simp at h1; subst h1; simp [(tks_same j R).2.2.1]

theorem Fits.nonneg {ws : List Wd} {lims : List Lim} {ds : List Ds} {now : Int} (h : Fits ws lims ds now) : ∀ l ∈ lims, 0 ≤ lft ds l now := by
  intro l hl
  obtain ⟨i, hi⟩ := List.getElem?_of_mem hl
  have hli : i < lims.length := (List.getElem?_eq_some_iff.1 hi).1
  have hlw : i < ws.length := by rw [h.1]; exact hli
  have hx := List.getElem?_eq_getElem hlw
  have hf := h.2 i _ l hx hi
  rw [← hf.left0]
  have := hf.ok.sum1
  omega

set_option maxRecDepth 100000 in
set_option maxHeartbeats 800000 in
theorem run_arg (b : Nat) (t : Int) (w : World) (h : t < 1 ∨ 100 < t) :
    Calls Tryz.prog 46 #[ptr b 0, I t] w fun e w' => e = .returned (.tuple #[.slice none 0 0, I 1]) ∧ w' = w := by
  have hb : (decide ((1 : Int) ≤ t) && decide (t ≤ 100)) = false := by
    rcases h with h | h
    · have : ¬ (1 : Int) ≤ t := by omega
      simp [this]
    · have : ¬ t ≤ 100 := by omega
      simp [this]
  have WI := hide (within_any t 1 100 w)
  rw [hb] at WI
  clear hb h
  go_enter Tryz.func46, Tryz.ntmps46
  go_wp2_with fail
  refine (WI.out).mono ?_
  rintro e w' ⟨rfl, rfl⟩
  go_wp2_with fail
  go_ret2
  exact ⟨rfl, rfl⟩

theorem within_yes {a n c : Int} (h1 : a ≤ n) (h2 : n ≤ c) : (decide (a ≤ n) && decide (n ≤ c)) = true := by simp [h1, h2]

set_option maxRecDepth 100000 in
set_option maxHeartbeats 800000 in
theorem run_many (b : Nat) (t now : Int) (w : World) (hc : w.cell? ⟨b, 0, none⟩ = some (I now)) (n0 : 0 ≤ now) (n1 : now ≤ 400) (h1 : 1 ≤ t) (h2 : t ≤ 100) (h3 : 400 < now + t) :
    Calls Tryz.prog 46 #[ptr b 0, I t] w fun e w' => e = .returned (.tuple #[.slice none 0 0, I 2]) ∧ w' = w := by
  have WI := hide (within_any t 1 100 w)
  rw [within_yes h1 h2] at WI
  go_enter Tryz.func46, Tryz.ntmps46
  go_wp2_with fail
  refine (WI.out).mono ?_
  rintro e w' ⟨rfl, rfl⟩
  go_wp2_with fail
  go_ret2
  exact ⟨rfl, rfl⟩

set_option maxRecDepth 100000 in
set_option maxHeartbeats 800000 in
theorem hasCh_any (b : Nat) (a : Option Addr) (n cap : Nat) (k : Int) (w : World) (hc : w.cell? ⟨b, 2, none⟩ = some (.slice a n cap)) (hn : n ≤ 4) :
    Calls Tryz.prog 29 #[ptr b 0, I k] w fun e w' => e = .returned (.bool (decide (0 ≤ k) && decide (k ≤ (n : Int) - 1))) ∧ w' = w := by
  have WI := hide (within_any k 0 ((n : Int) - 1) w)
  go_enter Tryz.func29, Tryz.ntmps29
  go_wp2_with fail
  refine (WI.out).mono ?_
  rintro e w' ⟨rfl, rfl⟩
  go_wp2_with fail
  go_ret
  exact ⟨rfl, rfl⟩

theorem within_no {a n c : Int} (h : n < a ∨ c < n) : (decide (a ≤ n) && decide (n ≤ c)) = false := by
  rcases h with h | h
  · have : ¬ a ≤ n := by omega
    simp [this]
  · have : ¬ n ≤ c := by omega
    simp [this]

end Go.Proofs.YtpilmkipbbengaaGreatDoor
