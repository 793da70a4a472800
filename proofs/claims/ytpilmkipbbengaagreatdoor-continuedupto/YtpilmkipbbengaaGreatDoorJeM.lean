/- The document's pump in memory (dripref). -/
import Derived.Test.YtpilmkipbbengaaGreatDoorMach2
import Derived.Deep.LoopGhost
import Derived.Deep.RegionWith
import Derived.Test.YtpilmkipbbengaaGreatDoorJcM
import Derived.Test.YtpilmkipbbengaaGreatDoorJbM
namespace Go.Proofs.YtpilmkipbbengaaGreatDoor
open Go.RowKit

structure RefAt (w : World) (b : Nat) (R : RSt) (vl vd vc vo : Value) : Prop where
  head : Blk w b #[I R.chs.length, vl, I R.lock, I R.now, vd, vc, vo] 98
  lims : w.ownsRow 0 60 3 vl R.lims.length (R.lims.flatMap limC)
  doses : w.ownsRow 0 100 3 vd R.doses.length (R.doses.flatMap dsC)
  chs : w.ownsRow 0 166 4 vc R.chs.length (R.chs.flatMap chC)
  os : w.ownsRow 0 171 4 vo R.os.length (R.os.flatMap ordC)
  sep : RefSep b vl vd vc vo

theorem counts_any2 (ch win cap k : Int) (w : World) (h1 : 0 ≤ ch) (h2 : ch ≤ 15) (h3 : 0 ≤ k) (h4 : k ≤ 3) :
    Calls Tryz.prog 128 #[.agg #[I ch, I win, I cap], I k] w fun e w' => e = .returned (.bool (cnt ch k.toNat)) ∧ Keep w w' := by
  have hb := div_pow_le ch k.toNat h1 h2
  go_enter Tryz.func128, Tryz.ntmps128
  go_wp2
  go_ret
  exact ⟨rfl, (Frm.refl _ _).alloc _⟩

theorem RefAt.keep {w w' : World} {b : Nat} {R : RSt} {vl vd vc vo : Value} (h : RefAt w b R vl vd vc vo) (k : Keep w w') : RefAt w' b R vl vd vc vo :=
  ⟨k.blk h.head, row_frm h.lims k (fun _ _ e => e), row_frm h.doses k (fun _ _ e => e), row_frm h.chs k (fun _ _ e => e), row_frm h.os k (fun _ _ e => e), h.sep⟩

set_option maxRecDepth 100000 in
set_option maxHeartbeats 1600000 in
theorem given_any (b : Nat) (R : RSt) (vl vd vc vo : Value) (l : Lim) (f t : Int) (w : World) (h : RefAt w b R vl vd vc vo) (hn : R.doses.length ≤ 2000) (hok : ∀ d ∈ R.doses, d.Ok) (hl : l.Ok) :
    Calls Tryz.prog 129 #[.pointer (some ⟨b, 0, none⟩), .agg #[I l.ch, I l.win, I l.cap], I f, I t] w fun e w' => e = .returned (I (gv R.doses l f t)) ∧ Keep w w' := by
  have H := hide (And.intro h (And.intro hok hl))
  clear h hok hl
  go_enter Tryz.func129, Tryz.ntmps129
  go_wp2_with fail
  go_loopg [9, 10, 11, 12] R.doses.length (fun k n i _ _ wr => ∃ j : Nat, k + j = R.doses.length ∧ i = I j ∧ n = I (gv (R.doses.take j) l f t) ∧ Hid (Keep w wr ∧ Blk wr w.heap.size #[I l.ch, I l.win, I l.cap] 60))
  case atStart => exact ⟨0, by omega, rfl, rfl, ⟨(Frm.refl _ _).alloc _, Blk.new _ _ _⟩⟩
  case round =>
    obtain ⟨j, hkj, rfl, rfl, hk⟩ := hrel
    have hR := (H.out).1.keep (hk.out).1
    have hbox := (hk.out).2
    obtain ⟨a, cp, hvd⟩ := row_slice hR.doses
    have cD : wr.cell? ⟨b, 4, none⟩ = some vd := by rw [hR.head.cell]; rfl
    by_cases hj : j < R.doses.length
    · obtain ⟨d, hd⟩ : ∃ d, R.doses[j]? = some d := ⟨_, List.getElem?_eq_getElem hj⟩
      obtain ⟨g, cap, hv, hcap, hcell, -⟩ := row_at hR.doses (fun _ => rfl) hd (by decide)
      have d0 := hcell 0 (by decide)
      have d1 := hcell 1 (by decide)
      have d2 := hcell 2 (by decide)
      simp [dsC] at d0 d1 d2
      have b0 : wr.cell? ⟨w.heap.size, 0, none⟩ = some (I l.ch) := by rw [hbox.cell]; rfl
      have b1 : wr.cell? ⟨w.heap.size, 1, none⟩ = some (I l.win) := by rw [hbox.cell]; rfl
      have b2 : wr.cell? ⟨w.heap.size, 2, none⟩ = some (I l.cap) := by rw [hbox.cell]; rfl
      rw [hv] at cD
      have l1 := hbox.lt
      have l2 := hR.head.lt
      have l3 := (hR.doses.lt g (by rw [hv]; rfl)).2
      have hdo := (H.out).2.1 d (List.mem_of_getElem? hd)
      have hbd := gv_bd (l := l) (f := f) (t := t) (ds := R.doses.take j) fun x hx => (H.out).2.1 x (List.mem_of_mem_take hx)
      have htl : ((R.doses.take j).length : Int) ≤ 2000 := by have := List.length_take_le j R.doses; simp; omega
      have hgd := gd_bd (l := l) (f := f) (t := t) hdo
      have hsn := gv_snoc (R.doses.take j) d l f t
      have hts : R.doses.take (j + 1) = R.doses.take j ++ [d] := by
        obtain ⟨lj, vj⟩ := List.getElem?_eq_some_iff.1 hd
        rw [List.take_succ_eq_append_getElem lj, vj]
      rw [← hts] at hsn
      obtain ⟨o1, o2, o3, o4, o5, o6⟩ := hdo
      have HK := hide (And.intro hkj (And.intro hsn (And.intro hk.out.1 hk.out.2)))
      clear hR hbox hcell hv hvd hcap hsn hts hk hkj hd
      generalize gv (R.doses.take j) l f t = G at *
      have cc := fun W => counts_any2 l.ch l.win l.cap d.ch W (by have := (H.out).2.2.ch0; omega) (H.out).2.2.ch1 o3 o4
      have CC := hide cc
      clear cc
      go_wp2_with fail
      refine (CC.out _).mono ?_
      rintro e w1 ⟨rfl, k1⟩
      have q1 : Blk w1 wr.heap.size #[I d.tick, I d.ch, I d.amt] 100 := k1.blk (Blk.new _ _ _)
      have c0 : w1.cell? ⟨wr.heap.size, 0, none⟩ = some (I d.tick) := by rw [q1.cell]; rfl
      have c2 : w1.cell? ⟨wr.heap.size, 2, none⟩ = some (I d.amt) := by rw [q1.cell]; rfl
      have K1 := hide k1
      clear q1 k1
      have fin : ∀ x : Int, x = gd l f t d → ∃ k' : Nat, k' < gk ∧ ∃ j' : Nat, k' + j' = R.doses.length ∧ I ((j : Int) + 1) = I j' ∧ I (G + x) = I (gv (R.doses.take j') l f t) ∧ Hid (Keep w w1 ∧ Blk w1 w.heap.size #[I l.ch, I l.win, I l.cap] 60) := by
        intro x hx
        obtain ⟨h1, h2, h3, h4⟩ := HK.out
        refine ⟨gk - 1, by omega, j + 1, by omega, by simp, by rw [h2, hx], ?_⟩
        have kk : Keep wr w1 := ((Frm.refl _ _).alloc _).trans K1.out
        exact ⟨h3.trans kk, kk.blk h4⟩
      have FIN := hide fin
      clear fin
      cases hc : cnt l.ch d.ch.toNat with
      | false =>
        go_wp2_with fail
        obtain ⟨k', m1, m2⟩ := FIN.out 0 (by simp [gd, hc])
        rw [Int.add_zero] at m2
        go_roundg k'
        case measure => exact m1
        case rel => exact m2
      | true =>
        by_cases h1 : f ≤ d.tick
        · by_cases h2 : d.tick ≤ t
          · go_wp2_with fail
            obtain ⟨k', m1, m2⟩ := FIN.out d.amt (by simp [gd, hc, h1, h2])
            go_roundg k'
            case measure => exact m1
            case rel => exact m2
          · have h2' : decide (d.tick ≤ t) = false := by simpa using h2
            go_wp2_with fail
            obtain ⟨k', m1, m2⟩ := FIN.out 0 (by simp [gd, h2'])
            rw [Int.add_zero] at m2
            go_roundg k'
            case measure => exact m1
            case rel => exact m2
        · have h1' : decide (f ≤ d.tick) = false := by simpa using h1
          go_wp2_with fail
          obtain ⟨k', m1, m2⟩ := FIN.out 0 (by simp [gd, h1'])
          rw [Int.add_zero] at m2
          go_roundg k'
          case measure => exact m1
          case rel => exact m2
    · rw [hvd] at cD
      have hje : j = R.doses.length := by omega
      have HK := hide (And.intro hk.out.1 hje)
      clear hR hbox hvd hkj hk hje
      go_wp2_with fail
      go_ret
      exact ⟨ret_int (by rw [HK.out.2, List.take_length]), HK.out.1⟩

set_option maxRecDepth 100000 in
set_option maxHeartbeats 800000 in
theorem rroom_any (b : Nat) (R : RSt) (vl vd vc vo : Value) (k t : Int) (w : World) (h : RefAt w b R vl vd vc vo) (ok : R.Ok) (k0 : 0 ≤ k) (k1 : k ≤ 3) (t0 : 0 ≤ t) (t1 : t ≤ 1000) :
    Calls Tryz.prog 108 #[.pointer (some ⟨b, 0, none⟩), I k, I t] w fun e w' => e = .returned (I (rroom R.doses R.lims k.toNat t)) ∧ Keep w w' := by
  have H := hide (And.intro h ok)
  have hn := ok.nl
  clear h ok
  go_enter Tryz.func108, Tryz.ntmps108
  go_wp2_with fail
  go_loopg [7, 8, 9, 10, 11] R.lims.length (fun q n i _ _ _ wr => ∃ j : Nat, q + j = R.lims.length ∧ i = I j ∧ n = I ((R.lims.take j).foldl (rstep R.doses k.toNat t) 1000) ∧ Hid (Keep w wr))
  case atStart => exact ⟨0, by omega, rfl, rfl, Frm.refl _ _⟩
  case round =>
    obtain ⟨j, hkj, rfl, rfl, hk⟩ := hrel
    have hR := (H.out).1.keep hk.out
    obtain ⟨a, cp, hvl⟩ := row_slice hR.lims
    have cL : wr.cell? ⟨b, 1, none⟩ = some vl := by rw [hR.head.cell]; rfl
    by_cases hj : j < R.lims.length
    · obtain ⟨l, hl⟩ : ∃ l, R.lims[j]? = some l := ⟨_, List.getElem?_eq_getElem hj⟩
      obtain ⟨g, cap, hv, hcap, hcell, -⟩ := row_at hR.lims (fun _ => rfl) hl (by decide)
      have d0 := hcell 0 (by decide)
      have d1 := hcell 1 (by decide)
      have d2 := hcell 2 (by decide)
      simp [limC] at d0 d1 d2
      rw [hv] at cL
      have l2 := hR.head.lt
      have l3 := (hR.lims.lt g (by rw [hv]; rfl)).2
      have hlo := (H.out).2.lims l (List.mem_of_getElem? hl)
      have hbd := lft_bd (t := t) (H.out).2.doses hlo
      have hnd := (H.out).2.nd
      have hfb := fold_bd (k := k.toNat) (t := t) (H.out).2.doses hnd (R.lims.take j) (fun x hx => (H.out).2.lims x (List.mem_of_mem_take hx)) 1000 (by omega) (by omega)
      have hsn := foldl_take_succ (rstep R.doses k.toNat t) 1000 R.lims j l hl
      have hlv : lft R.doses l t = l.cap - gv R.doses l (t - l.win + 1) t := rfl
      have hgb := gv_bd (l := l) (f := t - l.win + 1) (t := t) (H.out).2.doses
      have cc := fun W => counts_any2 l.ch l.win l.cap k W (by have := hlo.ch0; omega) hlo.ch1 k0 k1
      have gg := fun W (kW : Keep w W) => given_any b R vl vd vc vo l (t - l.win + 1) t W ((H.out).1.keep kW) hnd (H.out).2.doses hlo
      have HSN := hide (And.intro hkj (And.intro hsn (And.intro hk.out hlv)))
      have CC := hide cc
      have GG := hide gg
      obtain ⟨o1, o2, o3, o4, o5, o6⟩ := hlo
      rw [hlv] at hbd
      clear hR hcell hv hvl hcap hsn hk hkj hl cc gg hlv
      generalize (R.lims.take j).foldl (rstep R.doses k.toNat t) 1000 = G at *
      generalize hgg : gv R.doses l (t - l.win + 1) t = V at *
      have HG := hide hgg
      clear hgg
      have wr1 : IntKind.i64.wrap (t - l.win) = t - l.win := wrap_id _ (by omega) (by omega)
      have wr2 : IntKind.i64.wrap (t - l.win + 1) = t - l.win + 1 := wrap_id _ (by omega) (by omega)
      have wr3 : IntKind.i64.wrap (l.cap - V) = l.cap - V := wrap_id _ (by omega) (by omega)
      go_wp2_with fail
      refine (CC.out _).mono ?_
      rintro e w1 ⟨rfl, k1'⟩
      have q1 : Blk w1 wr.heap.size #[I l.ch, I l.win, I l.cap] 60 := k1'.blk (Blk.new _ _ _)
      have c0 : w1.cell? ⟨wr.heap.size, 0, none⟩ = some (I l.ch) := by rw [q1.cell]; rfl
      have c1 : w1.cell? ⟨wr.heap.size, 1, none⟩ = some (I l.win) := by rw [q1.cell]; rfl
      have c2 : w1.cell? ⟨wr.heap.size, 2, none⟩ = some (I l.cap) := by rw [q1.cell]; rfl
      have lq := q1.lt
      have kw1 : Keep w w1 := ((HSN.out).2.2.1.trans ((Frm.refl _ _).alloc _)).trans k1'
      have K1 := hide (And.intro kw1 q1)
      clear q1 k1' kw1
      have fin : ∀ (x : Int) (w2 : World), Keep w w2 → x = rstep R.doses k.toNat t G l → ∃ k' : Nat, k' < gk ∧ ∃ j' : Nat, k' + j' = R.lims.length ∧ I ((j : Int) + 1) = I j' ∧ I x = I ((R.lims.take j').foldl (rstep R.doses k.toNat t) 1000) ∧ Hid (Keep w w2) := by
        intro x w2 hw2 hx
        obtain ⟨h1, h2, h3, h4⟩ := HSN.out
        exact ⟨gk - 1, by omega, j + 1, by omega, by simp, by rw [h2, hx], hw2⟩
      have FIN := hide fin
      clear fin
      go_wp2_with fail
      go_region_with (go_at_call 129; refine (GG.out _ (by first | exact (K1.out).1.drew | exact (K1.out).1)).mono ?_; rintro e w2 ⟨rfl, k2⟩; have p2 : Blk w2 wr.heap.size #[I l.ch, I l.win, I l.cap] 60 := k2.blk (K1.out).2; have s2 : w2.cell? ⟨wr.heap.size, 2, none⟩ = some (I l.cap) := by { rw [p2.cell]; rfl })
      all_goals (have kw2 : Keep w w2 := ((K1.out).1.drew).trans k2)
      all_goals (have K2 := hide kw2)
      all_goals clear k2 kw2 p2
      all_goals
        (cases hc : cnt l.ch k.toNat with
          | false =>
            go_wp2_with fail
            obtain ⟨k', m1, m2⟩ := FIN.out G w2 K2.out (by simp [rstep, hc])
            go_roundg k'
            case measure => exact m1
            case rel => exact m2
          | true =>
            by_cases h2 : l.cap - V < G
            · go_wp2_with fail
              obtain ⟨k', m1, m2⟩ := FIN.out (l.cap - V) w2 K2.out (by have e : lft R.doses l t = l.cap - V := (HSN.out).2.2.2; simp [rstep, hc, e, h2])
              go_roundg k'
              case measure => exact m1
              case rel => exact m2
            · have h2' : decide (l.cap - V < G) = false := by simpa using h2
              go_wp2_with fail
              obtain ⟨k', m1, m2⟩ := FIN.out G w2 K2.out (by have e : lft R.doses l t = l.cap - V := (HSN.out).2.2.2; simp only [rstep, e, h2']; simp)
              go_roundg k'
              case measure => exact m1
              case rel => exact m2)
    · rw [hvl] at cL
      have hje : j = R.lims.length := by omega
      have HK := hide (And.intro hk.out hje)
      clear hR hvl hkj hk hje
      go_wp2_with fail
      go_ret
      exact ⟨ret_int (by rw [HK.out.2, List.take_length]; rfl), HK.out.1⟩

end Go.Proofs.YtpilmkipbbengaaGreatDoor

/- dripref: Journal. -/
namespace Go.Proofs.YtpilmkipbbengaaGreatDoor
open Go.RowKit Go.Lib

def jbody (ds : List Ds) : List UInt8 := ds.flatMap fun d => jline d ++ [10]

theorem jdig_len {n : Int} (h : n ≤ 1000000) : (jdig n).length ≤ 20 := by
  unfold jdig
  rw [decDigits_length]
  exact nDigits_le20 _ (by omega)

theorem jline_len {d : Ds} (h : d.Ok) : (jline d ++ [10]).length ≤ 63 := by
  have h1 := jdig_len (n := d.tick) (by have := h.t1; omega)
  have h2 := jdig_len (n := d.ch) (by have := h.c1; omega)
  have h3 := jdig_len (n := d.amt) (by have := h.a1; omega)
  simp [jline]; omega

theorem jbody_len {ds : List Ds} (h : ∀ d ∈ ds, d.Ok) : (jbody ds).length ≤ 63 * ds.length := by
  induction ds with
  | nil => simp [jbody]
  | cons d ds ih =>
    have h1 := jline_len (h d (by simp))
    have h2 := ih fun x hx => h x (List.mem_cons_of_mem _ hx)
    simp only [jbody, List.flatMap_cons, List.length_append, List.length_cons] at *
    omega

theorem jbody_succ {ds : List Ds} {j : Nat} {d : Ds} (h : ds[j]? = some d) : jbody (ds.take (j + 1)) = jbody (ds.take j) ++ (jline d ++ [10]) := by
  rw [List.take_add_one, h]
  simp [jbody]

set_option maxRecDepth 100000 in
set_option maxHeartbeats 800000 in
theorem rJournal_any (b : Nat) (R : RSt) (vl vd vc vo : Value) (w : World) (h : RefAt w b R vl vd vc vo) (ok : R.Ok) : Calls Tryz.prog 43 #[.pointer (some ⟨b, 0, none⟩)] w fun e w' => e = .returned (.string ⟨(jtext R.doses R.now).toArray⟩) ∧ Keep w w' := by
  have hnd := ok.nd
  have n0 := ok.now0
  have n1 := ok.now1
  have H := hide (And.intro h ok)
  clear h ok
  go_enter Tryz.func43, Tryz.ntmps43
  go_wp2_with fail
  go_loopg [3, 4] R.doses.length (fun q s i wr => ∃ j : Nat, q + j = R.doses.length ∧ i = I j ∧ s = .string ⟨(jbody (R.doses.take j)).toArray⟩ ∧ Hid (Keep w wr))
  case atStart => exact ⟨0, by omega, rfl, rfl, Frm.refl _ _⟩
  case round =>
    obtain ⟨j, hq, rfl, rfl, hk⟩ := hrel
    have hR := (H.out).1.keep hk.out
    obtain ⟨ad, cd, hvd⟩ := row_slice hR.doses
    have c4 : wr.cell? ⟨b, 4, none⟩ = some (.slice ad R.doses.length cd) := by rw [hR.head.cell, ← hvd]; rfl
    have c3 : wr.cell? ⟨b, 3, none⟩ = some (I R.now) := by rw [hR.head.cell]; rfl
    have lb := hR.head.lt
    have hbl := jbody_len (ds := R.doses.take j) fun d hd => (H.out).2.doses d (List.mem_of_mem_take hd)
    have htl : (R.doses.take j).length ≤ R.doses.length := by simp; omega
    by_cases hj : j < R.doses.length
    · obtain ⟨d, hd⟩ : ∃ d, R.doses[j]? = some d := ⟨_, List.getElem?_eq_getElem hj⟩
      obtain ⟨g, cap, hv, -, hcell, -⟩ := row_at hR.doses (fun _ => rfl) hd (by decide)
      rw [hvd] at hv
      injection hv with hv1 hv2 hv3
      subst hv1
      have d0 := hcell 0 (by decide)
      have d1 := hcell 1 (by decide)
      have d2 := hcell 2 (by decide)
      simp [dsC] at d0 d1 d2
      have lg := (hR.doses.lt g (by rw [hvd]; rfl)).2
      have dok := (H.out).2.doses d (List.mem_of_getElem? hd)
      have hll := jline_len dok
      have LN : Hid (Calls Tryz.prog 86 #[.agg #[I d.tick, I d.ch, I d.amt]] wr fun e w2 => e = .returned (.string ⟨(jline d ++ [10]).toArray⟩) ∧ Hid (Keep w w2)) := by
        refine (rline_any d wr ⟨dok.t0, by have := dok.t1; omega, dok.c0, by have := dok.c1; omega, by have := dok.a0; omega, by have := dok.a1; omega⟩).mono ?_
        rintro e w2 ⟨rfl, k2⟩
        exact ⟨rfl, (hk.out).trans k2⟩
      have NX : Hid (∀ w2, Keep w w2 → ∃ j' : Nat, gk - 1 + j' = R.doses.length ∧ I ((j : Int) + 1) = I j' ∧ Value.string (⟨(jbody (R.doses.take j)).toArray⟩ ++ ⟨(jline d ++ [10]).toArray⟩) = .string ⟨(jbody (R.doses.take j')).toArray⟩ ∧ Hid (Keep w w2)) := fun w2 k2 => ⟨j + 1, by omega, by simp, by rw [jbody_succ hd, bs_append], k2⟩
      have MS : Hid (gk - 1 < gk) := by unfold Hid; omega
      have sz : ¬ 9223372036854775807 < (jbody (R.doses.take j)).length + (jline d ++ [10]).length := by omega
      clear hR hvd hcell hv2 hv3 hd hk hq dok
      generalize jbody (R.doses.take j) = s0 at *
      generalize jline d ++ [10] = s1 at *
      go_wp2_with fail
      refine (LN.out).mono ?_
      rintro e w2 ⟨rfl, K2⟩
      go_wp2_with fail
      go_roundg (gk - 1)
      case measure => exact MS.out
      case rel => exact NX.out w2 K2.out
    · have hje : R.doses.take j = R.doses := List.take_of_length_le (by omega)
      obtain ⟨t, ht⟩ := Int.eq_ofNat_of_zero_le n0
      have DG : Hid (Calls Tryz.prog 87 #[I R.now] wr fun e w2 => e = .returned (.string ⟨(jdig R.now).toArray⟩) ∧ Hid (Keep w w2)) := by
        have := rDigits_any t (by omega) wr
        rw [← ht] at this
        refine this.mono ?_
        rintro e w2 ⟨rfl, k2⟩
        exact ⟨by rw [jdig, ht]; rfl, (hk.out).trans k2⟩
      have sl := jdig_len (n := R.now) (by omega)
      have EQ : Hid (jtext R.doses R.now = jbody R.doses ++ [61, 32] ++ jdig R.now ++ [10]) := by
        show jtext R.doses R.now = _
        simp [jtext, jlast, jbody]
      rw [hje]
      rw [hje] at hbl
      clear hR hvd hk hq hje ht
      generalize jbody R.doses = s0 at *
      generalize jdig R.now = s1 at *
      go_wp2_with fail
      refine (DG.out).mono ?_
      rintro e w2 ⟨rfl, K2⟩
      go_wp2_with fail
      go_ret
      refine ⟨ret_str ?_, K2.out⟩
      rw [EQ.out]
      have e1 := bs_append s0 [61, 32]
      have e2 := bs_append (s0 ++ [61, 32]) s1
      have e3 := bs_append (s0 ++ [61, 32] ++ s1) [10]
      rw [← e3, ← e2, ← e1]

end Go.Proofs.YtpilmkipbbengaaGreatDoor

/- record: doseLine, Write. -/
namespace Go.Proofs.YtpilmkipbbengaaGreatDoor
open Go.RowKit Go.Lib

set_option maxRecDepth 100000 in
set_option maxHeartbeats 800000 in
theorem doseLine_any (d : Ds) (w : World) (tb : Tab w) (h : 0 ≤ d.tick ∧ d.tick ≤ 1000000 ∧ 0 ≤ d.ch ∧ d.ch ≤ 1000000 ∧ 0 ≤ d.amt ∧ d.amt ≤ 1000000) : Calls Tryz.prog 49 #[.agg #[I d.tick, I d.ch, I d.amt]] w fun e w' => e = .returned (.string ⟨(jline d ++ [10]).toArray⟩) ∧ Keep w w' := by
  obtain ⟨h0, h1, h2, h3, h4, h5⟩ := h
  obtain ⟨t, ht⟩ := Int.eq_ofNat_of_zero_le h0
  obtain ⟨k, hk⟩ := Int.eq_ofNat_of_zero_le h2
  obtain ⟨m, hm⟩ := Int.eq_ofNat_of_zero_le h4
  have DG : Hid (∀ (x : Nat) (W : World), x ≤ 1000000 → Hid (Keep w W ∧ Blk W w.heap.size #[I t, I k, I m] 100) → Calls Tryz.prog 50 #[I x] W fun e w' => e = .returned (.string ⟨(decDigits x).toArray⟩) ∧ w'.cell? ⟨w.heap.size, 0, none⟩ = some (I t) ∧ w'.cell? ⟨w.heap.size, 1, none⟩ = some (I k) ∧ w'.cell? ⟨w.heap.size, 2, none⟩ = some (I m) ∧ Hid (Keep w w' ∧ Blk w' w.heap.size #[I t, I k, I m] 100)) := by
    intro x W hx hW
    refine (itoa_any x hx W (tb.keep (hW.out).1)).mono ?_
    rintro e w' ⟨rfl, k'⟩
    have bl := k'.blk (hW.out).2
    exact ⟨rfl, by rw [bl.cell]; rfl, by rw [bl.cell]; rfl, by rw [bl.cell]; rfl, (hW.out).1.trans k', bl⟩
  have START : Hid (Keep w (w.alloc (.cells #[I t, I k, I m] 100)).drew ∧ Blk (w.alloc (.cells #[I t, I k, I m] 100)).drew w.heap.size #[I t, I k, I m] 100) := ⟨((Frm.refl _ _).alloc _).drew, Blk.new _ _ _⟩
  have ht' : t ≤ 1000000 := by omega
  have hk' : k ≤ 1000000 := by omega
  have hm' : m ≤ 1000000 := by omega
  have s1 : (decDigits t).length ≤ 20 := by rw [decDigits_length]; exact nDigits_le20 _ (by omega)
  have s2 : (decDigits k).length ≤ 20 := by rw [decDigits_length]; exact nDigits_le20 _ (by omega)
  have s3 : (decDigits m).length ≤ 20 := by rw [decDigits_length]; exact nDigits_le20 _ (by omega)
  have q1 : ¬ 9223372036854775807 < (decDigits t).length + 1 := by omega
  have q2 : ¬ 9223372036854775807 < (decDigits t).length + 1 + (decDigits k).length := by omega
  have q3 : ¬ 9223372036854775807 < (decDigits t).length + 1 + (decDigits k).length + 1 := by omega
  have q4 : ¬ 9223372036854775807 < (decDigits t).length + 1 + (decDigits k).length + 1 + (decDigits m).length := by omega
  have q5 : ¬ 9223372036854775807 < (decDigits t).length + 1 + (decDigits k).length + 1 + (decDigits m).length + 1 := by omega
  have EQ : Hid (jline d ++ [10] = decDigits t ++ [32] ++ decDigits k ++ [32] ++ decDigits m ++ [10]) := by
    show jline d ++ [10] = _
    simp only [jline, jdig, ht, hk, hm, Int.toNat_natCast]
  rw [ht, hk, hm]
  clear h0 h1 h2 h3 h4 h5 tb
  clear ht hk hm
  go_enter Tryz.func49, Tryz.ntmps49
  go_wp2_with fail
  go_region_held3 (fun w' => w'.cell? ⟨w.heap.size, 0, none⟩ = some (I t) ∧ w'.cell? ⟨w.heap.size, 1, none⟩ = some (I k) ∧ w'.cell? ⟨w.heap.size, 2, none⟩ = some (I m)) (((try dsimp only); (repeat' apply And.intro) <;> (go_keep; done))) (first | (go_at_call_of 50 (t : Int); refine (DG.out t _ ht' START).mono ?_; rintro e w2 ⟨rfl, y0, y1, y2, K2⟩) | (go_at_call_of 50 (k : Int); refine (DG.out k _ hk' K2).mono ?_; rintro e w3 ⟨rfl, y0, y1, y2, K3⟩) | (go_at_call_of 50 (m : Int); refine (DG.out m _ hm' K3).mono ?_; rintro e w4 ⟨rfl, y0, y1, y2, K4⟩))
  go_wp2_with fail
  go_ret
  refine ⟨ret_str ?_, (K4.out).1⟩
  rw [EQ.out]
  have e1 := bs_append (decDigits t) [32]
  have e2 := bs_append (decDigits t ++ [32]) (decDigits k)
  have e3 := bs_append (decDigits t ++ [32] ++ decDigits k) [32]
  have e4 := bs_append (decDigits t ++ [32] ++ decDigits k ++ [32]) (decDigits m)
  have e5 := bs_append (decDigits t ++ [32] ++ decDigits k ++ [32] ++ decDigits m) [10]
  rw [← e5, ← e4, ← e3, ← e2, ← e1]

theorem below_keep {w w' : World} (h : Below w.heap.size w w') : Keep w w' := ⟨h.os, h.tape, h.output, h.size, fun k hk _ => h.block k hk⟩
theorem keep_below {w w' : World} {B : Nat} (h : Keep w w') (hB : B ≤ w.heap.size) : Below B w w' := ⟨h.os, h.tape, h.output, h.size, fun k hk => h.block k (by omega) (fun e => e)⟩

theorem below_tr {B : Nat} {a b c : World} (h : Below B a b) (k : Below B b c) : Below B a c := ⟨k.os.trans h.os, k.tape.trans h.tape, k.output.trans h.output, Nat.le_trans h.size k.size, fun i hi => (k.block i hi).trans (h.block i hi)⟩

theorem bld_keep {w w' : World} {B b : Nat} {bs : List Value} (h : IsBuilder 107 5 B b bs w) (k : Keep w w') : IsBuilder 107 5 B b bs w' := by
  have key : ∀ p, BuilderAt 107 5 B b p bs w → BuilderAt 107 5 B b p bs w' := by
    rintro p ⟨h1, v, h2, h3, h4⟩
    have hlt : b < w.heap.size := by
      rcases Nat.lt_or_ge b w.heap.size with h' | h'
      · exact h'
      · simp [Array.getElem?_eq_none h'] at h2
    refine ⟨h1, v, by rw [k.block b hlt (fun e => e)]; exact h2, ⟨h3.1, ?_⟩, h4⟩
    rcases h3.2 with q | ⟨g, cap, cur, q1, q2, q3, q4, q5, q6, q7⟩
    · exact Or.inl q
    · refine Or.inr ⟨g, cap, cur, q1, q2, ?_, q4, q5, q6, q7⟩
      have hg : g < w.heap.size := by
        rcases Nat.lt_or_ge g w.heap.size with h' | h'
        · exact h'
        · simp [Array.getElem?_eq_none h'] at q3
      rw [k.block g hg (fun e => e)]; exact q3
  rcases h with h | h
  · exact Or.inl (key _ h)
  · exact Or.inr (key _ h)

theorem bld_new (w : World) : IsBuilder 107 5 w.heap.size w.heap.size (byteCells []) (w.alloc (.cells #[.pointer none, .slice none 0 0] 107)) := by
  refine Or.inl ⟨Nat.le_refl _, .slice none 0 0, ?_, World.ownsRow_nil .., by simp [Value.ownBlock]⟩
  show (w.heap.push _)[w.heap.size]? = _
  simp

theorem byteCells_app (a b : List UInt8) : byteCells a ++ strCells ⟨b.toArray⟩ = byteCells (a ++ b) := by simp [byteCells, strCells]

theorem write_line (B b : Nat) (l s : List UInt8) (W : World) (h : IsBuilder 107 5 B b (byteCells l) W) (hl : l.length + s.length ≤ 1000000000) (hB : B ≤ W.heap.size) :
    Calls Tryz.prog 48 #[.pointer (some ⟨b, 0, none⟩), .string ⟨s.toArray⟩] W fun e w' => (∃ n, e = .returned (.tuple #[n, .nilIface])) ∧ IsBuilder 107 5 B b (byteCells (l ++ s)) w' ∧ Below B W w' := by
  have hlen : (byteCells l).length + (ByteArray.mk s.toArray).size ≤ 140737488355328 := by
    have e : (ByteArray.mk s.toArray).size = s.length := by show s.toArray.size = _; simp
    rw [byteCells_length, e]
    omega
  refine (writeString_any B b (byteCells l) ⟨s.toArray⟩ W h hlen hB).mono ?_
  rintro e w' ⟨rfl, h1, h2⟩
  rw [byteCells_app] at h1
  exact ⟨⟨_, rfl⟩, Or.inr h1, h2⟩

set_option maxRecDepth 100000 in
set_option maxHeartbeats 1600000 in
theorem write_any (v : Value) (ds : List Ds) (now : Int) (w : World) (tb : Tab w) (hv : w.ownsRow 0 100 3 v ds.length (ds.flatMap dsC)) (hd : ∀ d ∈ ds, d.Ok) (hn : ds.length ≤ 100000) (n0 : 0 ≤ now) (n1 : now ≤ 400) :
    Calls Tryz.prog 24 #[v, I now] w fun e w' => e = .returned (.string ⟨(jtext ds now).toArray⟩) ∧ Keep w w' := by
  obtain ⟨ad, cpd, hvv⟩ := row_slice hv
  subst hvv
  have H := hide (And.intro tb (And.intro hv hd))
  clear tb hv hd
  go_enter Tryz.func24, Tryz.ntmps24
  go_wp2_with fail
  go_loopg [7, 10] ds.length (fun q _ i wr => ∃ j : Nat, q + j = ds.length ∧ i = I j ∧ Hid (IsBuilder 107 5 w.heap.size w.heap.size (byteCells (jbody (ds.take j))) wr ∧ Below w.heap.size w wr))
  case atStart => exact ⟨0, by omega, rfl, bld_new w, keep_below ((Frm.refl _ _).alloc _) (Nat.le_refl _)⟩
  case round =>
    obtain ⟨j, hq, rfl, hst⟩ := hrel
    have kw := below_keep (hst.out).2
    have sz := kw.size
    have hr := row_frm (H.out).2.1 kw (fun _ _ e => e)
    by_cases hj : j < ds.length
    · obtain ⟨d, hd⟩ : ∃ d, ds[j]? = some d := ⟨_, List.getElem?_eq_getElem hj⟩
      obtain ⟨g, cap, hv, -, hcell, -⟩ := row_at hr (fun _ => rfl) hd (by decide)
      injection hv with hv1 hv2 hv3
      subst hv1
      have d0 := hcell 0 (by decide)
      have d1 := hcell 1 (by decide)
      have d2 := hcell 2 (by decide)
      simp only [Nat.add_zero, dsC, List.getElem?_cons_zero, List.getElem?_cons_succ] at d0 d1 d2
      have okd := (H.out).2.2 d (List.mem_of_getElem? hd)
      have hbl := jbody_len (ds := ds.take j) fun d hd => (H.out).2.2 d (List.mem_of_mem_take hd)
      have htl : (ds.take j).length ≤ ds.length := by simp; omega
      have hll := jline_len okd
      have hsu := jbody_succ hd
      have CALL : Hid (∀ W, Keep wr W → Calls Tryz.prog 49 #[.agg #[I d.tick, I d.ch, I d.amt]] W fun e w' => e = .returned (.string ⟨(jline d ++ [10]).toArray⟩) ∧ Hid (Keep wr w')) := by
        intro W kW
        refine (doseLine_any d W ((H.out).1.keep (kw.trans kW)) ⟨okd.t0, by have := okd.t1; omega, okd.c0, by have := okd.c1; omega, by have := okd.a0; omega, by have := okd.a1; omega⟩).mono ?_
        rintro e w' ⟨rfl, k'⟩
        exact ⟨rfl, kW.trans k'⟩
      have CALL2 : Hid (∀ W, Hid (Keep wr W) → Calls Tryz.prog 48 #[.pointer (some ⟨w.heap.size, 0, none⟩), .string ⟨(jline d ++ [10]).toArray⟩] W fun e w' => ∃ n, e = .returned (.tuple #[n, .nilIface]) ∧ ∃ k' : Nat, k' < gk ∧ ∃ j' : Nat, k' + j' = ds.length ∧ I ((j : Int) + 1) = I j' ∧ Hid (IsBuilder 107 5 w.heap.size w.heap.size (byteCells (jbody (ds.take j'))) w' ∧ Below w.heap.size w w')) := by
        intro W kW
        have hB := bld_keep (hst.out).1 kW.out
        have hsz := (kW.out).size
        have hbb := keep_below (B := w.heap.size) kW.out (by omega)
        have hst2 := (hst.out).2
        refine (write_line w.heap.size w.heap.size (jbody (ds.take j)) (jline d ++ [10]) W hB (by omega) (by omega)).mono ?_
        rintro e w' ⟨⟨n, rfl⟩, h1, h2⟩
        refine ⟨n, rfl, gk - 1, by omega, j + 1, by omega, by simp, ?_, ?_⟩
        · rw [hsu]; exact h1
        · exact below_tr (below_tr hst2 hbb) h2
      clear hcell hsu hll htl hbl okd hd hst kw hr hv2 hv3
      go_wp2_with fail
      refine (CALL.out _ (by exact (Frm.refl _ _).alloc _)).mono ?_
      rintro e w2 ⟨rfl, K2⟩
      go_wp2_with fail
      refine (CALL2.out _ K2).mono ?_
      rintro e w3 ⟨n, rfl, k', m1, m2⟩
      have M1 := hide m1
      have M2 := hide m2
      clear m1 m2
      go_wp2_with fail
      go_roundg k'
      case measure => exact M1.out
      case rel => exact M2.out
    · have hje : j = ds.length := by omega
      subst hje
      obtain ⟨nw, rfl⟩ := Int.eq_ofNat_of_zero_le n0
      have hbl := jbody_len (ds := ds) (H.out).2.2
      have hl20 : (decDigits nw).length ≤ 20 := by rw [decDigits_length]; exact nDigits_le20 _ (by omega)
      have IT : Hid (Calls Tryz.prog 50 #[I nw] wr fun e w' => e = .returned (.string ⟨(decDigits nw).toArray⟩) ∧ Hid (Keep wr w')) := by
        refine (itoa_any nw (by omega) wr ((H.out).1.keep kw)).mono ?_
        rintro e w' ⟨rfl, k'⟩
        exact ⟨rfl, k'⟩
      have CALL2 : Hid (∀ W, Hid (Keep wr W) → Calls Tryz.prog 48 #[.pointer (some ⟨w.heap.size, 0, none⟩), .string ⟨([61, 32] ++ decDigits nw ++ [10]).toArray⟩] W fun e w' => ∃ n, e = .returned (.tuple #[n, .nilIface]) ∧ Hid (IsBuilder 107 5 w.heap.size w.heap.size (byteCells (jtext ds nw)) w' ∧ Below w.heap.size w w')) := by
        intro W kW
        have hB := bld_keep (hst.out).1 kW.out
        have hsz := (kW.out).size
        have hbb := keep_below (B := w.heap.size) kW.out (by omega)
        have hst2 := (hst.out).2
        rw [List.take_length] at hB
        refine (write_line w.heap.size w.heap.size (jbody ds) ([61, 32] ++ decDigits nw ++ [10]) W hB (by simp; omega) (by omega)).mono ?_
        rintro e w' ⟨⟨n, rfl⟩, h1, h2⟩
        refine ⟨n, rfl, ?_, below_tr (below_tr hst2 hbb) h2⟩
        have e : jtext ds nw = jbody ds ++ ([61, 32] ++ decDigits nw ++ [10]) := by simp [jtext, jbody, jlast, jdig]
        rw [e]; exact h1
      have CALL3 : Hid (∀ W, Hid (IsBuilder 107 5 w.heap.size w.heap.size (byteCells (jtext ds nw)) W ∧ Below w.heap.size w W) → Calls Tryz.prog 51 #[.pointer (some ⟨w.heap.size, 0, none⟩)] W fun e w' => e = .returned (.string ⟨(jtext ds nw).toArray⟩) ∧ Hid (Keep w w')) := by
        intro W hW
        refine (bString_any w.heap.size w.heap.size (jtext ds nw) W (hW.out).1 ?_).mono ?_
        · simp [jtext, jlast]
        · rintro e w' ⟨rfl, h2⟩
          exact ⟨rfl, below_keep (below_tr (hW.out).2 h2)⟩
      have e1 : ∀ l : List UInt8, (ByteArray.mk #[61, 32] ++ ByteArray.mk l.toArray) ++ ByteArray.mk #[10] = ByteArray.mk ([61, 32] ++ l ++ [10]).toArray := by
        intro l
        rw [← bs_append ([61, 32] ++ l) [10], ← bs_append [61, 32] l]
      have E1 := hide (e1 (decDigits nw))
      have q1 : ¬ 9223372036854775807 < 2 + (decDigits nw).length := by omega
      have q2 : ¬ 9223372036854775807 < 2 + (decDigits nw).length + 1 := by omega
      clear hst kw hr hbl e1
      generalize decDigits nw = l at *
      go_wp2_with fail
      refine (IT.out).mono ?_
      rintro e w2 ⟨rfl, K2⟩
      go_wp2_with fail
      rw [E1.out]
      refine (CALL2.out _ K2).mono ?_
      rintro e w3 ⟨n, rfl, K3⟩
      go_wp2_with fail
      refine (CALL3.out _ K3).mono ?_
      rintro e w4 ⟨rfl, K4⟩
      go_wp2_with fail
      go_ret
      exact ⟨rfl, K4.out⟩

end Go.Proofs.YtpilmkipbbengaaGreatDoor
