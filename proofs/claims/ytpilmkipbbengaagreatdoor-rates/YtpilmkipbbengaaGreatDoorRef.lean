/- The document's pump in memory (dripref). -/
import Derived.Test.YtpilmkipbbengaaGreatDoorMach2
import Derived.Deep.LoopGhost
import Derived.Deep.RegionWith
namespace Go.Proofs.YtpilmkipbbengaaGreatDoor
open Go.RowKit

structure RefAt (w : World) (b : Nat) (R : RSt) (vl vd vc vo : Value) : Prop where
  head : Blk w b #[I R.chs.length, vl, I R.lock, I R.now, vd, vc, vo] 98
  lims : w.ownsRow 0 60 3 vl R.lims.length (R.lims.flatMap limC)
  doses : w.ownsRow 0 100 3 vd R.doses.length (R.doses.flatMap dsC)
  chs : w.ownsRow 0 166 4 vc R.chs.length (R.chs.flatMap chC)
  os : w.ownsRow 0 171 4 vo R.os.length (R.os.flatMap ordC)
  sep : RefSep b vl vd vc vo

theorem counts_any2 (ch win cap k : Int) (w : World) (h1 : 0 ≤ ch) (h2 : ch ≤ 15) (h3 : 0 ≤ k) (h4 : k ≤ 3) :
    Calls Tryz.prog 128 #[.agg #[I ch, I win, I cap], I k] w fun e w' => e = .returned (.bool (cnt ch k.toNat)) ∧ Keep w w' := by
  have hb := div_pow_le ch k.toNat h1 h2
  go_enter Tryz.func128, Tryz.ntmps128
  go_wp2
  go_ret
  exact ⟨rfl, (Frm.refl _ _).alloc _⟩

theorem RefAt.keep {w w' : World} {b : Nat} {R : RSt} {vl vd vc vo : Value} (h : RefAt w b R vl vd vc vo) (k : Keep w w') : RefAt w' b R vl vd vc vo :=
  ⟨k.blk h.head, row_frm h.lims k (fun _ _ e => e), row_frm h.doses k (fun _ _ e => e), row_frm h.chs k (fun _ _ e => e), row_frm h.os k (fun _ _ e => e), h.sep⟩

set_option maxRecDepth 100000 in
set_option maxHeartbeats 1600000 in
theorem given_any (b : Nat) (R : RSt) (vl vd vc vo : Value) (l : Lim) (f t : Int) (w : World) (h : RefAt w b R vl vd vc vo) (hn : R.doses.length ≤ 2000) (hok : ∀ d ∈ R.doses, d.Ok) (hl : l.Ok) :
    Calls Tryz.prog 129 #[.pointer (some ⟨b, 0, none⟩), .agg #[I l.ch, I l.win, I l.cap], I f, I t] w fun e w' => e = .returned (I (gv R.doses l f t)) ∧ Keep w w' := by
  have H := hide (And.intro h (And.intro hok hl))
  clear h hok hl
  go_enter Tryz.func129, Tryz.ntmps129
  go_wp2_with fail
  go_loopg [9, 10, 11, 12] R.doses.length (fun k n i _ _ wr => ∃ j : Nat, k + j = R.doses.length ∧ i = I j ∧ n = I (gv (R.doses.take j) l f t) ∧ Hid (Keep w wr ∧ Blk wr w.heap.size #[I l.ch, I l.win, I l.cap] 60))
  case atStart => exact ⟨0, by omega, rfl, rfl, ⟨(Frm.refl _ _).alloc _, Blk.new _ _ _⟩⟩
  case round =>
    obtain ⟨j, hkj, rfl, rfl, hk⟩ := hrel
    have hR := (H.out).1.keep (hk.out).1
    have hbox := (hk.out).2
    obtain ⟨a, cp, hvd⟩ := row_slice hR.doses
    have cD : wr.cell? ⟨b, 4, none⟩ = some vd := by rw [hR.head.cell]; rfl
    by_cases hj : j < R.doses.length
    · obtain ⟨d, hd⟩ : ∃ d, R.doses[j]? = some d := ⟨_, List.getElem?_eq_getElem hj⟩
      obtain ⟨g, cap, hv, hcap, hcell, -⟩ := row_at hR.doses (fun _ => rfl) hd (by decide)
      have d0 := hcell 0 (by decide)
      have d1 := hcell 1 (by decide)
      have d2 := hcell 2 (by decide)
      simp [dsC] at d0 d1 d2
      have b0 : wr.cell? ⟨w.heap.size, 0, none⟩ = some (I l.ch) := by rw [hbox.cell]; rfl
      have b1 : wr.cell? ⟨w.heap.size, 1, none⟩ = some (I l.win) := by rw [hbox.cell]; rfl
      have b2 : wr.cell? ⟨w.heap.size, 2, none⟩ = some (I l.cap) := by rw [hbox.cell]; rfl
      rw [hv] at cD
      have l1 := hbox.lt
      have l2 := hR.head.lt
      have l3 := (hR.doses.lt g (by rw [hv]; rfl)).2
      have hdo := (H.out).2.1 d (List.mem_of_getElem? hd)
      have hbd := gv_bd (l := l) (f := f) (t := t) (ds := R.doses.take j) fun x hx => (H.out).2.1 x (List.mem_of_mem_take hx)
      have htl : ((R.doses.take j).length : Int) ≤ 2000 := by have := List.length_take_le j R.doses; simp; omega
      have hgd := gd_bd (l := l) (f := f) (t := t) hdo
      have hsn := gv_snoc (R.doses.take j) d l f t
      have hts : R.doses.take (j + 1) = R.doses.take j ++ [d] := by
        obtain ⟨lj, vj⟩ := List.getElem?_eq_some_iff.1 hd
        rw [List.take_succ_eq_append_getElem lj, vj]
      rw [← hts] at hsn
      obtain ⟨o1, o2, o3, o4, o5, o6⟩ := hdo
      have HK := hide (And.intro hkj (And.intro hsn (And.intro hk.out.1 hk.out.2)))
      clear hR hbox hcell hv hvd hcap hsn hts hk hkj hd
      generalize gv (R.doses.take j) l f t = G at *
      have cc := fun W => counts_any2 l.ch l.win l.cap d.ch W (by have := (H.out).2.2.ch0; omega) (H.out).2.2.ch1 o3 o4
      have CC := hide cc
      clear cc
      go_wp2_with fail
      refine (CC.out _).mono ?_
      rintro e w1 ⟨rfl, k1⟩
      have q1 : Blk w1 wr.heap.size #[I d.tick, I d.ch, I d.amt] 100 := k1.blk (Blk.new _ _ _)
      have c0 : w1.cell? ⟨wr.heap.size, 0, none⟩ = some (I d.tick) := by rw [q1.cell]; rfl
      have c2 : w1.cell? ⟨wr.heap.size, 2, none⟩ = some (I d.amt) := by rw [q1.cell]; rfl
      have K1 := hide k1
      clear q1 k1
      have fin : ∀ x : Int, x = gd l f t d → ∃ k' : Nat, k' < gk ∧ ∃ j' : Nat, k' + j' = R.doses.length ∧ I ((j : Int) + 1) = I j' ∧ I (G + x) = I (gv (R.doses.take j') l f t) ∧ Hid (Keep w w1 ∧ Blk w1 w.heap.size #[I l.ch, I l.win, I l.cap] 60) := by
        intro x hx
        obtain ⟨h1, h2, h3, h4⟩ := HK.out
        refine ⟨gk - 1, by omega, j + 1, by omega, by simp, by rw [h2, hx], ?_⟩
        have kk : Keep wr w1 := ((Frm.refl _ _).alloc _).trans K1.out
        exact ⟨h3.trans kk, kk.blk h4⟩
      have FIN := hide fin
      clear fin
      cases hc : cnt l.ch d.ch.toNat with
      | false =>
        go_wp2_with fail
        obtain ⟨k', m1, m2⟩ := FIN.out 0 (by simp [gd, hc])
        rw [Int.add_zero] at m2
        go_roundg k'
        case measure => exact m1
        case rel => exact m2
      | true =>
        by_cases h1 : f ≤ d.tick
        · by_cases h2 : d.tick ≤ t
          · go_wp2_with fail
            obtain ⟨k', m1, m2⟩ := FIN.out d.amt (by simp [gd, hc, h1, h2])
            go_roundg k'
            case measure => exact m1
            case rel => exact m2
          · have h2' : decide (d.tick ≤ t) = false := by simpa using h2
            go_wp2_with fail
            obtain ⟨k', m1, m2⟩ := FIN.out 0 (by simp [gd, h2'])
            rw [Int.add_zero] at m2
            go_roundg k'
            case measure => exact m1
            case rel => exact m2
        · have h1' : decide (f ≤ d.tick) = false := by simpa using h1
          go_wp2_with fail
          obtain ⟨k', m1, m2⟩ := FIN.out 0 (by simp [gd, h1'])
          rw [Int.add_zero] at m2
          go_roundg k'
          case measure => exact m1
          case rel => exact m2
    · rw [hvd] at cD
      have hje : j = R.doses.length := by omega
      have HK := hide (And.intro hk.out.1 hje)
      clear hR hbox hvd hkj hk hje
      go_wp2_with fail
      go_ret
      exact ⟨ret_int (by rw [HK.out.2, List.take_length]), HK.out.1⟩

set_option maxRecDepth 100000 in
set_option maxHeartbeats 800000 in
theorem rroom_any (b : Nat) (R : RSt) (vl vd vc vo : Value) (k t : Int) (w : World) (h : RefAt w b R vl vd vc vo) (ok : R.Ok) (k0 : 0 ≤ k) (k1 : k ≤ 3) (t0 : 0 ≤ t) (t1 : t ≤ 1000) :
    Calls Tryz.prog 108 #[.pointer (some ⟨b, 0, none⟩), I k, I t] w fun e w' => e = .returned (I (rroom R.doses R.lims k.toNat t)) ∧ Keep w w' := by
  have H := hide (And.intro h ok)
  have hn := ok.nl
  clear h ok
  go_enter Tryz.func108, Tryz.ntmps108
  go_wp2_with fail
  go_loopg [7, 8, 9, 10, 11] R.lims.length (fun q n i _ _ _ wr => ∃ j : Nat, q + j = R.lims.length ∧ i = I j ∧ n = I ((R.lims.take j).foldl (rstep R.doses k.toNat t) 1000) ∧ Hid (Keep w wr))
  case atStart => exact ⟨0, by omega, rfl, rfl, Frm.refl _ _⟩
  case round =>
    obtain ⟨j, hkj, rfl, rfl, hk⟩ := hrel
    have hR := (H.out).1.keep hk.out
    obtain ⟨a, cp, hvl⟩ := row_slice hR.lims
    have cL : wr.cell? ⟨b, 1, none⟩ = some vl := by rw [hR.head.cell]; rfl
    by_cases hj : j < R.lims.length
    · obtain ⟨l, hl⟩ : ∃ l, R.lims[j]? = some l := ⟨_, List.getElem?_eq_getElem hj⟩
      obtain ⟨g, cap, hv, hcap, hcell, -⟩ := row_at hR.lims (fun _ => rfl) hl (by decide)
      have d0 := hcell 0 (by decide)
      have d1 := hcell 1 (by decide)
      have d2 := hcell 2 (by decide)
      simp [limC] at d0 d1 d2
      rw [hv] at cL
      have l2 := hR.head.lt
      have l3 := (hR.lims.lt g (by rw [hv]; rfl)).2
      have hlo := (H.out).2.lims l (List.mem_of_getElem? hl)
      have hbd := lft_bd (t := t) (H.out).2.doses hlo
      have hnd := (H.out).2.nd
      have hfb := fold_bd (k := k.toNat) (t := t) (H.out).2.doses hnd (R.lims.take j) (fun x hx => (H.out).2.lims x (List.mem_of_mem_take hx)) 1000 (by omega) (by omega)
      have hsn := foldl_take_succ (rstep R.doses k.toNat t) 1000 R.lims j l hl
      have hlv : lft R.doses l t = l.cap - gv R.doses l (t - l.win + 1) t := rfl
      have hgb := gv_bd (l := l) (f := t - l.win + 1) (t := t) (H.out).2.doses
      have cc := fun W => counts_any2 l.ch l.win l.cap k W (by have := hlo.ch0; omega) hlo.ch1 k0 k1
      have gg := fun W (kW : Keep w W) => given_any b R vl vd vc vo l (t - l.win + 1) t W ((H.out).1.keep kW) hnd (H.out).2.doses hlo
      have HSN := hide (And.intro hkj (And.intro hsn (And.intro hk.out hlv)))
      have CC := hide cc
      have GG := hide gg
      obtain ⟨o1, o2, o3, o4, o5, o6⟩ := hlo
      rw [hlv] at hbd
      clear hR hcell hv hvl hcap hsn hk hkj hl cc gg hlv
      generalize (R.lims.take j).foldl (rstep R.doses k.toNat t) 1000 = G at *
      generalize hgg : gv R.doses l (t - l.win + 1) t = V at *
      have HG := hide hgg
      clear hgg
      have wr1 : IntKind.i64.wrap (t - l.win) = t - l.win := wrap_id _ (by omega) (by omega)
      have wr2 : IntKind.i64.wrap (t - l.win + 1) = t - l.win + 1 := wrap_id _ (by omega) (by omega)
      have wr3 : IntKind.i64.wrap (l.cap - V) = l.cap - V := wrap_id _ (by omega) (by omega)
      go_wp2_with fail
      refine (CC.out _).mono ?_
      rintro e w1 ⟨rfl, k1'⟩
      have q1 : Blk w1 wr.heap.size #[I l.ch, I l.win, I l.cap] 60 := k1'.blk (Blk.new _ _ _)
      have c0 : w1.cell? ⟨wr.heap.size, 0, none⟩ = some (I l.ch) := by rw [q1.cell]; rfl
      have c1 : w1.cell? ⟨wr.heap.size, 1, none⟩ = some (I l.win) := by rw [q1.cell]; rfl
      have c2 : w1.cell? ⟨wr.heap.size, 2, none⟩ = some (I l.cap) := by rw [q1.cell]; rfl
      have lq := q1.lt
      have kw1 : Keep w w1 := ((HSN.out).2.2.1.trans ((Frm.refl _ _).alloc _)).trans k1'
      have K1 := hide (And.intro kw1 q1)
      clear q1 k1' kw1
      have fin : ∀ (x : Int) (w2 : World), Keep w w2 → x = rstep R.doses k.toNat t G l → ∃ k' : Nat, k' < gk ∧ ∃ j' : Nat, k' + j' = R.lims.length ∧ I ((j : Int) + 1) = I j' ∧ I x = I ((R.lims.take j').foldl (rstep R.doses k.toNat t) 1000) ∧ Hid (Keep w w2) := by
        intro x w2 hw2 hx
        obtain ⟨h1, h2, h3, h4⟩ := HSN.out
        exact ⟨gk - 1, by omega, j + 1, by omega, by simp, by rw [h2, hx], hw2⟩
      have FIN := hide fin
      clear fin
      go_wp2_with fail
      go_region_with (go_at_call 129; refine (GG.out _ (by first | exact (K1.out).1.drew | exact (K1.out).1)).mono ?_; rintro e w2 ⟨rfl, k2⟩; have p2 : Blk w2 wr.heap.size #[I l.ch, I l.win, I l.cap] 60 := k2.blk (K1.out).2; have s2 : w2.cell? ⟨wr.heap.size, 2, none⟩ = some (I l.cap) := by { rw [p2.cell]; rfl })
      all_goals (have kw2 : Keep w w2 := ((K1.out).1.drew).trans k2)
      all_goals (have K2 := hide kw2)
      all_goals clear k2 kw2 p2
      all_goals
        (cases hc : cnt l.ch k.toNat with
          | false =>
            go_wp2_with fail
            obtain ⟨k', m1, m2⟩ := FIN.out G w2 K2.out (by simp [rstep, hc])
            go_roundg k'
            case measure => exact m1
            case rel => exact m2
          | true =>
            by_cases h2 : l.cap - V < G
            · go_wp2_with fail
              obtain ⟨k', m1, m2⟩ := FIN.out (l.cap - V) w2 K2.out (by have e : lft R.doses l t = l.cap - V := (HSN.out).2.2.2; simp [rstep, hc, e, h2])
              go_roundg k'
              case measure => exact m1
              case rel => exact m2
            · have h2' : decide (l.cap - V < G) = false := by simpa using h2
              go_wp2_with fail
              obtain ⟨k', m1, m2⟩ := FIN.out G w2 K2.out (by have e : lft R.doses l t = l.cap - V := (HSN.out).2.2.2; simp only [rstep, e, h2']; simp)
              go_roundg k'
              case measure => exact m1
              case rel => exact m2)
    · rw [hvl] at cL
      have hje : j = R.lims.length := by omega
      have HK := hide (And.intro hk.out hje)
      clear hR hvl hkj hk hje
      go_wp2_with fail
      go_ret
      exact ⟨ret_int (by rw [HK.out.2, List.take_length]; rfl), HK.out.1⟩

end Go.Proofs.YtpilmkipbbengaaGreatDoor
