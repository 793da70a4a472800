/- The pump's loops over its windows: room, wait, give's and pass's. -/
import Derived.Test.YtahiolfelcmikaaGreatDat
import Derived.Test.YtahiolfelcmikaaGreatDpure2
import Derived.Deep.RegionLaw
namespace Go.Proofs.YtahiolfelcmikaaGreat
open Go.RowKit

theorem Fits.fit {ws : List Wd} {lims : List Lim} {ds : List Ds} {now : Int} (h : Fits ws lims ds now) {i : Nat} {x : Wd} (hi : ws[i]? = some x) : ∃ l, lims[i]? = some l ∧ Fit x.2.2 l ds now := by
  have hl : i < ws.length := (List.getElem?_eq_some_iff.1 hi).1
  have hl' : i < lims.length := by rw [← h.1]; exact hl
  exact ⟨lims[i], List.getElem?_eq_getElem hl', h.2 i x _ hi (List.getElem?_eq_getElem hl')⟩

/-- what a round of a loop over the windows needs -/
theorem WsAt.cell {w : World} {vw : Value} {ws : List Wd} (h : WsAt w vw ws) {i : Nat} {x : Wd} (hi : ws[i]? = some x) :
    ∃ g cap, vw = .slice (some ⟨g, 0, none⟩) ws.length cap ∧ ws.length ≤ cap ∧ w.cell? ⟨g, i, none⟩ = some (ptr x.1 0) := by
  obtain ⟨g, cap, hv, hc, hcell, -⟩ := row_at h.row (fun _ => rfl) hi (by decide)
  have := hcell 0 (by decide)
  simp at this
  exact ⟨g, cap, hv, hc, this⟩

theorem WsAt.drewN {w : World} {vw : Value} {ws : List Wd} (h : WsAt w vw ws) (n : Nat) : WsAt (w.drewN n) vw ws := h.frm ((Frm.refl (fun _ => False) _).drewN n) fun _ _ e => e

set_option maxRecDepth 100000 in
set_option maxHeartbeats 800000 in
theorem room_any (b : Nat) (vw : Value) (ws : List Wd) (lims : List Lim) (ds : List Ds) (now k : Int) (w : World) (hc : w.cell? ⟨b, 3, none⟩ = some vw) (hw : WsAt w vw ws) (hf : Fits ws lims ds now) (k0 : 0 ≤ k) (k1 : k ≤ 3) (nl : ws.length ≤ 6) :
    Calls Tryz.prog 56 #[ptr b 0, I k] w fun e w' => e = .returned (I (rroom ds lims k.toNat now)) ∧ ∃ n, w' = w.drewN n := by
  obtain ⟨a, cp, rfl⟩ := row_slice hw.row
  have H := hide (And.intro hw hf)
  clear hw hf
  go_enter Tryz.func56, Tryz.ntmps56
  go_wp2_with fail
  go_loopg [5, 7, 13] ws.length (fun q n _ i wr => ∃ j : Nat, q + j = ws.length ∧ i = I j ∧ n = I ((lims.take j).foldl (rstep ds k.toNat now) 1000) ∧ Hid (∃ m, wr = w.drewN m))
  case atStart => exact ⟨0, by omega, rfl, rfl, 0, rfl⟩
  case round =>
    obtain ⟨j, hkj, rfl, rfl, hd⟩ := hrel
    obtain ⟨m, rfl⟩ := hd.out
    by_cases hj : j < ws.length
    · obtain ⟨x, hx⟩ : ∃ x, ws[j]? = some x := ⟨_, List.getElem?_eq_getElem hj⟩
      obtain ⟨l, hl, hfit⟩ := (H.out).2.fit hx
      obtain ⟨g, cap, hv, -, hcell⟩ := ((H.out).1.drewN m).cell hx
      injection hv with hv1 hv2 hv3
      subst hv1
      have hwin := ((H.out).1.drewN m).each j x hx
      have hsn := foldl_take_succ (rstep ds k.toNat now) 1000 lims j l hl
      have CC := hide (counts_any x.1 x.2.1 x.2.2 k (w.drewN m) hwin hfit.ok k0 k1)
      have LL := hide (left_any x.1 x.2.1 x.2.2 (w.drewN m) hwin hfit.ok)
      have e1 := hfit.left0
      have e2 := hfit.ch
      have FIN : Hid (∀ (y : Int) (n : Nat), y = rstep ds k.toNat now ((lims.take j).foldl (rstep ds k.toNat now) 1000) l → ∃ k' : Nat, k' < gk ∧ ∃ j' : Nat, k' + j' = ws.length ∧ I ((j : Int) + 1) = I j' ∧ I y = I ((lims.take j').foldl (rstep ds k.toNat now) 1000) ∧ Hid (∃ m, w.drewN n = w.drewN m)) := by
        intro y n hy
        exact ⟨gk - 1, by omega, j + 1, by omega, by simp, by rw [hsn, hy], n, rfl⟩
      generalize (lims.take j).foldl (rstep ds k.toNat now) 1000 = G at *
      have E := hide (And.intro e1 e2)
      have hok := hfit.ok
      have b1 := hok.sum0
      have b2 := hok.sum1
      have b3 := hok.cap1
      clear e1 e2 hsn hwin hl hx hfit hv2 hv3 hok hd
      go_wp2_with fail
      refine (CC.out).mono ?_
      rintro e w1 ⟨rfl, rfl⟩
      cases hct : cnt x.2.2.ch k.toNat with
      | false =>
        go_wp2_with fail
        obtain ⟨k', m1, m2⟩ := FIN.out G m (by rw [(E.out).2] at hct; simp [rstep, hct])
        go_roundg k'
        case measure => exact m1
        case rel => exact m2
      | true =>
        go_wp2_with fail
        refine (LL.out).mono ?_
        rintro e w2 ⟨rfl, n2, rfl⟩
        go_wp2_with fail
        · have h1 := h
          obtain ⟨k', m1, m2⟩ := FIN.out (x.2.2.cap - x.2.2.sum) (m + n2) (by
            have e := E.out
            rw [e.1] at h1 ⊢
            rw [e.2] at hct
            have h2 : lft ds l now < G := by omega
            simp [rstep, hct, h2])
          go_roundg k'
          case measure => exact m1
          case rel => exact m2
        · have h1 := h
          obtain ⟨k', m1, m2⟩ := FIN.out G (m + n2) (by
            have e := E.out
            rw [e.1] at h1
            rw [e.2] at hct
            have h2 : ¬ lft ds l now < G := by omega
            simp [rstep, hct, h2])
          go_roundg k'
          case measure => exact m1
          case rel => exact m2
    · have hje : j = ws.length := by omega
      have HK := hide (And.intro hje (H.out).2.1)
      clear hkj hd hje
      go_wp2_with fail
      go_ret
      exact ⟨ret_int (by rw [HK.out.1, HK.out.2, List.take_length]; rfl), m, rfl⟩


/-- what wait answers -/
def wVal : Option Nat → Value
  | some n => .tuple #[I n, .bool true]
  | none => .tuple #[I 0, .bool false]

set_option maxRecDepth 100000 in
set_option maxHeartbeats 1600000 in
theorem wait_any (b : Nat) (vw : Value) (ws : List Wd) (R : RSt) (k a : Int) (w : World) (hc : w.cell? ⟨b, 3, none⟩ = some vw) (hw : WsAt w vw ws) (hf : Fits ws R.lims R.doses R.now) (ok : R.Ok) (hd : ∀ d ∈ R.doses, d.tick ≤ R.now) (k0 : 0 ≤ k) (k1 : k ≤ 3) (a0 : 0 ≤ a) (a1 : a ≤ 1000) :
    Calls Tryz.prog 58 #[ptr b 0, I k, I a] w fun e w' => (∃ r, e = .returned (wVal r) ∧ WaitOk R k.toNat a r) ∧ ∃ n, w' = w.drewN n := by
  obtain ⟨av, cp, rfl⟩ := row_slice hw.row
  have nl : ws.length ≤ 6 := by rw [hf.1]; exact ok.nl
  have H := hide (And.intro hw (And.intro hf (And.intro ok hd)))
  clear hw hf ok hd
  go_enter Tryz.func58, Tryz.ntmps58
  go_wp2_with fail
  go_loopg [8, 10, 11, 12, 18] ws.length (fun q n _ _ _ i wr => ∃ j L : Nat, q + j = ws.length ∧ i = I j ∧ n = I L ∧ L ≤ 100 ∧ Hid (WaitSt R k.toNat a (R.lims.take j) L) ∧ Hid (∃ m, wr = w.drewN m))
  case atStart => exact ⟨0, 0, by omega, rfl, rfl, by omega, ⟨by omega, by simp, by omega⟩, 0, rfl⟩
  case round =>
    obtain ⟨j, L, hkj, rfl, rfl, hL, hst, hdr⟩ := hrel
    obtain ⟨m, rfl⟩ := hdr.out
    by_cases hj : j < ws.length
    · obtain ⟨x, hx⟩ : ∃ x, ws[j]? = some x := ⟨_, List.getElem?_eq_getElem hj⟩
      obtain ⟨l, hl, hfit⟩ := (H.out).2.1.fit hx
      obtain ⟨g, cap, hv, -, hcell⟩ := ((H.out).1.drewN m).cell hx
      injection hv with hv1 hv2 hv3
      subst hv1
      have hwin := ((H.out).1.drewN m).each j x hx
      have hsn : R.lims.take (j + 1) = R.lims.take j ++ [l] := take_snoc' hl
      have CC := hide (counts_any x.1 x.2.1 x.2.2 k (w.drewN m) hwin hfit.ok k0 k1)
      have FIN : Hid (∀ (L' n : Nat), WaitSt R k.toNat a (R.lims.take j ++ [l]) L' → ∃ k' : Nat, k' < gk ∧ ∃ j' L'' : Nat, k' + j' = ws.length ∧ I ((j : Int) + 1) = I j' ∧ I L' = I L'' ∧ L'' ≤ 100 ∧ Hid (WaitSt R k.toNat a (R.lims.take j') L'') ∧ Hid (∃ m, w.drewN n = w.drewN m)) := by
        intro L' n hy
        exact ⟨gk - 1, by omega, j + 1, L', by omega, by simp, rfl, hy.top, by rw [hsn]; exact hy, n, rfl⟩
      have hcap := hfit.cap
      have NO : Hid (cnt l.ch k.toNat = true → x.2.2.cap < a → WaitOk R k.toNat a none) := by
        intro h1 h2
        exact WaitSt.never (H.out).2.2.1 (List.mem_of_getElem? hl) h1 (by rw [← hcap]; exact h2)
      have YES : Hid (cnt l.ch k.toNat = true → a ≤ x.2.2.cap → Calls Tryz.prog 79 #[ptr x.1 0, I a] (w.drewN m) fun e w' => ∃ q : Nat, q ≤ 100 ∧ e = .returned (.tuple #[I q, .bool true]) ∧ (∃ n, w' = (w.drewN m).drewN n) ∧ WaitSt R k.toNat a (R.lims.take j ++ [l]) (max L q)) := by
        intro h1 h2
        refine (waitY_any x.1 x.2.1 x.2.2 a (w.drewN m) hwin hfit.ok a0 h2 a1).mono ?_
        rintro e w' ⟨q, q1, q2, q3, rfl, q4⟩
        have hlen := hfit.ok.len1
        have hdd := (H.out).2.2.2
        refine ⟨q, by omega, rfl, q4, WaitSt.more (H.out).2.2.1 hdd hst.out l h1 q (by omega) ?_ ?_⟩
        · rw [← hfit.lefts hdd q q1]; exact q2
        · intro m' hm'
          rw [← hfit.lefts hdd m' (by omega)]; exact q3 m' hm'
      have NW : Hid (x.2.2.cap < a → Calls Tryz.prog 79 #[ptr x.1 0, I a] (w.drewN m) fun e w' => e = .returned (.tuple #[I 0, .bool false]) ∧ w' = w.drewN m) := by
        intro h2
        exact waitN_any x.1 x.2.1 x.2.2 a (w.drewN m) hwin h2
      have SK : Hid (cnt l.ch k.toNat = false → WaitSt R k.toNat a (R.lims.take j ++ [l]) L) := fun h1 => hst.out.skip l h1
      have e2 : x.2.2.ch = l.ch := hfit.ch
      rw [e2] at CC
      clear e2 hcap hsn hwin hl hx hfit hv2 hv3 hdr hst
      go_wp2_with fail
      refine (CC.out).mono ?_
      rintro e w1 ⟨rfl, rfl⟩
      cases hct : cnt l.ch k.toNat with
      | false =>
        go_wp2_with fail
        obtain ⟨k', m1, m2⟩ := FIN.out L m (SK.out hct)
        go_roundg k'
        case measure => exact m1
        case rel => exact m2
      | true =>
        by_cases hca : x.2.2.cap < a
        · go_wp2_with fail
          refine (NW.out hca).mono ?_
          rintro e w2 ⟨rfl, rfl⟩
          go_wp2_with fail
          go_ret2
          exact ⟨⟨none, rfl, NO.out hct hca⟩, m, rfl⟩
        · have hca' : a ≤ x.2.2.cap := by omega
          go_wp2_with fail
          refine (YES.out hct hca').mono ?_
          rintro e w2 ⟨q, hq, rfl, ⟨n2, rfl⟩, hst⟩
          have ST := hide hst
          clear hst
          go_wp2_with fail
          all_goals first
            | (have h1 : L < q := h
               obtain ⟨k', m1, m2⟩ := FIN.out q (m + n2) (by have e := ST.out; rw [Nat.max_eq_right (by omega)] at e; exact e)
               go_roundg k'
               case measure => exact m1
               case rel => exact m2)
            | (have h1 : ¬ L < q := h
               obtain ⟨k', m1, m2⟩ := FIN.out L (m + n2) (by have e := ST.out; rw [Nat.max_eq_left (by omega)] at e; exact e)
               go_roundg k'
               case measure => exact m1
               case rel => exact m2)
    · have hje : j = ws.length := by omega
      have HK := hide (And.intro hje (And.intro (H.out).2.1.1 hst.out))
      clear hkj hdr hje hst
      go_wp2_with fail
      go_ret2
      refine ⟨⟨some L, rfl, WaitSt.done a1 ?_⟩, m, rfl⟩
      have e := HK.out
      rw [e.1, e.2.1, List.take_length] at e
      exact e.2.2

end Go.Proofs.YtahiolfelcmikaaGreat
