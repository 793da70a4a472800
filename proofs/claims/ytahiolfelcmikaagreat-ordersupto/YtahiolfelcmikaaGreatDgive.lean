/- The pump's loops over its windows: what is given, a tick that passes. -/
import Derived.Test.YtahiolfelcmikaaGreatDwin
namespace Go.Proofs.YtahiolfelcmikaaGreat
open Go.RowKit

/-- on the way through the windows: up to j they have turned -/
structure Turn (w wr : World) (vw : Value) (ws ws' : List Wd) (lims : List Lim) (j : Nat) (P : Win → Lim → Prop) : Prop where
  lie : WsAt wr vw ws'
  len : ws'.length = ws.length
  foot : ∀ x, WsF vw ws' x ↔ WsF vw ws x
  frm : Frm (WsF vw ws) w wr
  done : ∀ (i : Nat) (x : Wd) (l : Lim), i < j → ws'[i]? = some x → lims[i]? = some l → P x.2.2 l
  rest : ∀ i : Nat, j ≤ i → ws'[i]? = ws[i]?

theorem Turn.start {w wr : World} {vw : Value} {ws : List Wd} (lims : List Lim) (P : Win → Lim → Prop) (h : WsAt w vw ws) (k : Keep w wr) : Turn w wr vw ws ws lims 0 P :=
  ⟨h.frm k fun _ _ e => e, rfl, fun _ => Iff.rfl, k.mono fun _ _ e => e.elim, fun _ _ _ h => absurd h (by omega), fun _ _ => rfl⟩

theorem Turn.skip {w wr : World} {vw : Value} {ws ws' : List Wd} {lims : List Lim} {j : Nat} {P : Win → Lim → Prop} (h : Turn w wr vw ws ws' lims j P) {x : Wd} {l : Lim} (hx : ws'[j]? = some x) (hl : lims[j]? = some l) (hp : P x.2.2 l) : Turn w wr vw ws ws' lims (j + 1) P := by
  refine ⟨h.lie, h.len, h.foot, h.frm, fun i y m hi hy hm => ?_, fun i hi => h.rest i (by omega)⟩
  by_cases e : i = j
  · subst e; rw [hx] at hy; rw [hl] at hm; simp at hy hm; subst hy; subst hm; exact hp
  · exact h.done i y m (by omega) hy hm

theorem Turn.next {w wr w2 : World} {vw : Value} {ws ws' : List Wd} {lims : List Lim} {j : Nat} {P : Win → Lim → Prop} (h : Turn w wr vw ws ws' lims j P) {x : Wd} {l : Lim} (hx : ws'[j]? = some x) (hl : lims[j]? = some l)
    {W' : Win} (f : Frm (fun b => b = x.1 ∨ b = x.2.1) wr w2) (hw : WinAt w2 x.1 x.2.1 W') (hp : P W' l) : Turn w w2 vw ws (ws'.set j (x.1, x.2.1, W')) lims (j + 1) P := by
  have hj : j < ws'.length := (List.getElem?_eq_some_iff.1 hx).1
  refine ⟨h.lie.turn hx f hw, by rw [List.length_set, h.len], fun b => (WsF.set hx W' b).trans (h.foot b), h.frm.trans (f.mono fun b _ hb => (h.foot b).1 (Or.inr ⟨j, x, hx, hb⟩)), fun i y m hi hy hm => ?_, fun i hi => ?_⟩
  · by_cases e : j = i
    · subst e; rw [List.getElem?_set_self hj] at hy; rw [hl] at hm; simp at hy hm; subst hy; subst hm; exact hp
    · rw [List.getElem?_set_ne e] at hy; exact h.done i y m (by omega) hy hm
  · rw [List.getElem?_set_ne (by omega)]; exact h.rest i (by omega)

theorem Turn.fits {w wr : World} {vw : Value} {ws ws' : List Wd} {lims : List Lim} {ds : List Ds} {now : Int} (h : Turn w wr vw ws ws' lims ws.length fun W l => Fit W l ds now) (hl : ws.length = lims.length) : Fits ws' lims ds now :=
  ⟨h.len.trans hl, fun i x l hi hm => h.done i x l (by rw [← h.len]; exact (List.getElem?_eq_some_iff.1 hi).1) hi hm⟩

set_option maxRecDepth 100000 in
set_option maxHeartbeats 800000 in
theorem share_none (g o : Nat) (t a : Int) (w : World) (c2 : w.cell? ⟨g, o + 2, none⟩ = some (.slice none 0 0)) :
    Calls Tryz.prog 88 #[ptr g o, I t, I a] w fun e w' => e = .returned (.tuple #[]) ∧ ∃ n, w' = w.drewN n := by
  go_enter Tryz.func88, Tryz.ntmps88
  go_wp2_with fail
  go_loopg [2, 7, 8, 14] 0 (fun q a' _ _ i wr => q = 0 ∧ i = I 0 ∧ a' = I a ∧ wr = w)
  case atStart => exact ⟨rfl, rfl, rfl, rfl⟩
  case round =>
    obtain ⟨rfl, rfl, rfl, rfl⟩ := hrel
    go_wp2_with fail
    go_end0
    exact ⟨rfl, 0, rfl⟩

set_option maxRecDepth 100000 in
set_option maxHeartbeats 800000 in
theorem wants_none (g o : Nat) (t r : Int) (w : World) (c0 : w.cell? ⟨g, o, none⟩ = some (I r)) (c2 : w.cell? ⟨g, o + 2, none⟩ = some (.slice none 0 0)) (c3 : w.cell? ⟨g, o + 3, none⟩ = some (.bool false)) :
    Calls Tryz.prog 71 #[ptr g o, I t] w fun e w' => e = .returned (I r) ∧ ∃ n, w' = w.drewN n := by
  go_enter Tryz.func71, Tryz.ntmps71
  go_wp2_with fail
  go_loopg [5, 7, 21] 0 (fun q a' _ i wr => q = 0 ∧ i = I 0 ∧ a' = I r ∧ wr = w)
  case atStart => exact ⟨rfl, rfl, rfl, rfl⟩
  case round =>
    obtain ⟨rfl, rfl, rfl, rfl⟩ := hrel
    go_wp2_with fail
    go_ret
    exact ⟨rfl, 0, rfl⟩

set_option maxRecDepth 100000 in
set_option maxHeartbeats 1600000 in
theorem give_all (b : Nat) (g cc cap : Nat) (vw : Value) (ws : List Wd) (lims : List Lim) (ds : List Ds) (now a : Int) (k : Nat) (w : World) (hn : w.cell? ⟨b, 0, none⟩ = some (I now)) (hch : w.cell? ⟨b, 2, none⟩ = some (.slice (some ⟨g, 0, none⟩) cc cap)) (hk : k < cc) (k3 : k ≤ 3)
    (hc : w.cell? ⟨b, 3, none⟩ = some vw) (c2 : w.cell? ⟨g, k * 5 + 2, none⟩ = some (.slice none 0 0)) (hw : WsAt w vw ws) (hf : Fits ws lims ds now) (hl : ∀ l ∈ lims, 1 ≤ l.win) (a0 : 0 ≤ a) (a1 : a ≤ 1000) (ha : a ≤ rroom ds lims k now) (nl : ws.length ≤ 6) :
    Calls Tryz.prog 72 #[ptr b 0, I k, I a] w fun e w' => e = .returned (.tuple #[]) ∧ ∃ ws', WsAt w' vw ws' ∧ Fits ws' lims (ds ++ [⟨now, k, a⟩]) now ∧ (∀ x, WsF vw ws' x ↔ WsF vw ws x) ∧ Frm (WsF vw ws) w w' := by
  obtain ⟨av, cp, rfl⟩ := row_slice hw.row
  have H := hide (And.intro hw (And.intro hf (And.intro hl ha)))
  have SH := hide (fun x => share_none g (k * 5) now a (w.drewN x) c2)
  clear hw hf hl ha
  go_enter Tryz.func72, Tryz.ntmps72
  go_wp2_with fail
  go_quiet ((go_at_call 88; exact Calls.quiet_of (SH.out _)))
  go_wp2_with fail
  go_loopg [7, 25] ws.length (fun q _ i wr => ∃ j : Nat, q + j = ws.length ∧ i = I j ∧ Hid (∃ ws', Turn w wr (.slice av ws.length cp) ws ws' lims j fun W l => Fit W l (ds ++ [⟨now, k, a⟩]) now))
  case atStart => exact ⟨0, by omega, rfl, ws, Turn.start _ _ (H.out).1 ((Frm.refl _ _).drewN _)⟩
  case round =>
    obtain ⟨j, hkj, rfl, hst⟩ := hrel
    obtain ⟨ws', ht⟩ := hst.out
    have hlen := ht.len
    by_cases hj : j < ws.length
    · obtain ⟨x, hx⟩ : ∃ x, ws'[j]? = some x := ⟨_, List.getElem?_eq_getElem (by omega)⟩
      have hx0 : ws[j]? = some x := by rw [← ht.rest j (Nat.le_refl _)]; exact hx
      obtain ⟨l, hl, hfit⟩ := (H.out).2.1.fit hx0
      obtain ⟨g', cap', hv, -, hcell⟩ := ht.lie.cell hx
      injection hv with hv1 hv2 hv3
      subst hv1
      have hwin := ht.lie.each j x hx
      have CC := hide (counts_any x.1 x.2.1 x.2.2 k wr hwin hfit.ok (by omega) (by omega))
      have GG := hide (give_any x.1 x.2.1 x.2.2 a wr hwin hfit.ok a0 a1)
      have hml := List.mem_of_getElem? hl
      have hwl := (H.out).2.2.1 l hml
      have SK : Hid (cnt x.2.2.ch (k : Int).toNat = false → ∃ k' : Nat, k' < gk ∧ ∃ j' : Nat, k' + j' = ws.length ∧ I ((j : Int) + 1) = I j' ∧ Hid (∃ ws', Turn w wr (.slice (some ⟨g', 0, none⟩) ws.length cp) ws ws' lims j' fun W l => Fit W l (ds ++ [⟨now, k, a⟩]) now)) := by
        intro h1
        rw [hfit.ch, Int.toNat_natCast] at h1
        exact ⟨gk - 1, by omega, j + 1, by omega, by simp, ws', ht.skip hx hl (hfit.not _ (by simpa using h1))⟩
      have NX : Hid (cnt x.2.2.ch (k : Int).toNat = true → ∀ w2, Frm (fun b => b = x.1 ∨ b = x.2.1) wr w2 → WinAt w2 x.1 x.2.1 (x.2.2.give a) → ∃ k' : Nat, k' < gk ∧ ∃ j' : Nat, k' + j' = ws.length ∧ I ((j : Int) + 1) = I j' ∧ Hid (∃ ws', Turn w w2 (.slice (some ⟨g', 0, none⟩) ws.length cp) ws ws' lims j' fun W l => Fit W l (ds ++ [⟨now, k, a⟩]) now)) := by
        intro h1 w2 hf2 hw2
        rw [hfit.ch, Int.toNat_natCast] at h1
        refine ⟨gk - 1, by omega, j + 1, by omega, by simp, _, ht.next hx hl hf2 hw2 (hfit.give k a hwl h1 a0 ?_)⟩
        rw [hfit.left0]
        exact Int.le_trans (H.out).2.2.2 (room_le hml h1)
      clear hwin hfit hx hx0 hl hml hwl hst ht hv2 hv3 hlen
      go_wp2_with fail
      refine (CC.out).mono ?_
      rintro e w1 ⟨rfl, rfl⟩
      cases hct : cnt x.2.2.ch (k : Int).toNat with
      | false =>
        go_wp2_with fail
        obtain ⟨k', m1, m2⟩ := SK.out hct
        go_roundg k'
        case measure => exact m1
        case rel => exact m2
      | true =>
        go_wp2_with fail
        refine (GG.out).mono ?_
        rintro e w2 ⟨rfl, f2, hw2⟩
        obtain ⟨k', m1, m2⟩ := NX.out hct w2 f2 hw2
        have M1 := hide m1
        have M2 := hide m2
        clear m1 m2 f2 hw2
        go_wp2_with fail
        go_roundg k'
        case measure => exact M1.out
        case rel => exact M2.out
    · have hje : j = ws.length := by omega
      have HK := hide (And.intro hje ht)
      clear hkj hst hje ht hlen
      go_wp2_with fail
      go_end0
      obtain ⟨e1, e2⟩ := HK.out
      rw [e1] at e2
      exact ⟨rfl, ws', e2.lie, e2.fits (H.out).2.1.1, e2.foot, e2.frm⟩

end Go.Proofs.YtahiolfelcmikaaGreat
