/- dripkeep: pick, on, sum, room, safe. -/
import Derived.Test.YtpilmkipbbengaaGreatDoorKpure
namespace Go.Proofs.YtpilmkipbbengaaGreatDoor
open Go.RowKit

/-- what a raw number speaks of -/
def pk (c n : Int) : Int := (if c < 0 then -(c + 1) else c) % n
theorem pk_lo (c : Int) {n : Int} (h : 0 < n) : 0 ≤ pk c n := Int.emod_nonneg _ (by omega)
theorem pk_hi (c : Int) {n : Int} (h : 0 < n) : pk c n < n := Int.emod_lt_of_pos _ h
/-- a number that an int can be -/
def In64 (c : Int) : Prop := -9223372036854775808 ≤ c ∧ c ≤ 9223372036854775807

set_option maxRecDepth 100000 in
set_option maxHeartbeats 800000 in
theorem kpick_any (c n : Int) (w : World) (h0 : 0 < n) (h1 : n ≤ 1000000000) (hc : In64 c) : Calls Tryz.prog 22 #[I c, I n] w fun r w' => r = .returned (I (pk c n)) ∧ w' = w := by
  obtain ⟨hc1, hc2⟩ := hc
  by_cases hc : c < 0
  · go_enter Tryz.func22, Tryz.ntmps22
    go_wp2
    go_ret
    have hm : 0 ≤ -(c + 1) := by omega
    refine ⟨ret_int ?_, rfl⟩
    unfold pk
    rw [if_pos hc, ← Int.tmod_eq_emod_of_nonneg hm, Int.neg_tmod]
  · go_enter Tryz.func22, Tryz.ntmps22
    go_wp2
    go_ret
    refine ⟨ret_int ?_, rfl⟩
    unfold pk
    rw [if_neg (by omega)]

set_option maxRecDepth 100000 in
set_option maxHeartbeats 800000 in
theorem kon_any (ch k : Int) (w : World) (h1 : 0 ≤ ch) (h2 : ch ≤ 15) (h3 : 0 ≤ k) (h4 : k ≤ 3) :
    Calls Tryz.prog 68 #[I ch, I k] w fun e w' => e = .returned (.bool (cnt ch k.toNat)) ∧ w' = w := by
  have hb := div_pow_le ch k.toNat h1 h2
  go_enter Tryz.func68, Tryz.ntmps68
  go_wp2
  go_ret
  exact ⟨rfl, rfl⟩

/-- a Run of dripkeep, what it holds -/
structure KV where
  pv : Value
  vl : Value
  vd : Value
  lims : List Lim
  lock : Int
  ds : List Ds
  now : Int
  r0 : Bool
  r1 : Bool
  r2 : Bool

def KV.cells (K : KV) : Array Value := #[K.pv, I 3, K.vl, I K.lock, K.vd, I K.now, .bool K.r0, .bool K.r1, .bool K.r2]

structure KRd (w : World) (rb : Nat) (K : KV) : Prop where
  head : Blk w rb K.cells 38
  lims : w.ownsRow 0 60 3 K.vl K.lims.length (K.lims.flatMap limC)
  row : w.ownsRow 0 100 3 K.vd K.ds.length (K.ds.flatMap dsC)

/-- its numbers -/
structure KV.Ok (K : KV) : Prop where
  lims : ∀ l ∈ K.lims, l.Ok
  nl : K.lims.length ≤ 6
  ds : ∀ d ∈ K.ds, d.Ok
  nd : K.ds.length ≤ 2000
  n0 : 0 ≤ K.now
  n1 : K.now ≤ 400

theorem KRd.keep {w w' : World} {rb : Nat} {K : KV} (h : KRd w rb K) (k : Keep w w') : KRd w' rb K :=
  ⟨k.blk h.head, row_frm h.lims k (fun _ _ e => e), row_frm h.row k (fun _ _ e => e)⟩

set_option maxRecDepth 100000 in
set_option maxHeartbeats 1600000 in
theorem ksum_any (rb : Nat) (K : KV) (l : Lim) (t : Int) (w : World) (h : KRd w rb K) (hn : K.ds.length ≤ 2000) (hok : ∀ d ∈ K.ds, d.Ok) (hl : l.Ok) (t0 : 0 ≤ t) (t1 : t ≤ 1000) :
    Calls Tryz.prog 36 #[.pointer (some ⟨rb, 0, none⟩), .agg #[I l.ch, I l.win, I l.cap], I t] w fun e w' => e = .returned (I (gv K.ds l (t - l.win + 1) t)) ∧ Keep w w' := by
  have hw0 := hl.w0
  have hw1 := hl.w1
  have wt : IntKind.i64.wrap (t - l.win) = t - l.win := wrap_id _ (by omega) (by omega)
  have H := hide (And.intro h (And.intro hok hl))
  clear h hok hl
  go_enter Tryz.func36, Tryz.ntmps36
  go_wp2_with fail
  go_loopg [7, 8, 9, 10] K.ds.length (fun k n i _ _ wr => ∃ j : Nat, k + j = K.ds.length ∧ i = I j ∧ n = I (gv (K.ds.take j) l (t - l.win + 1) t) ∧ Hid (Keep w wr ∧ Blk wr w.heap.size #[I l.ch, I l.win, I l.cap] 60))
  case atStart => exact ⟨0, by omega, rfl, rfl, ⟨(Frm.refl _ _).alloc _, Blk.new _ _ _⟩⟩
  case round =>
    obtain ⟨j, hkj, rfl, rfl, hk⟩ := hrel
    have hR := (H.out).1.keep (hk.out).1
    have hbox := (hk.out).2
    obtain ⟨a, cp, hvd⟩ := row_slice hR.row
    have cD : wr.cell? ⟨rb, 4, none⟩ = some K.vd := by rw [hR.head.cell]; rfl
    by_cases hj : j < K.ds.length
    · obtain ⟨d, hd⟩ : ∃ d, K.ds[j]? = some d := ⟨_, List.getElem?_eq_getElem hj⟩
      obtain ⟨g, cap, hv, hcap, hcell, -⟩ := row_at hR.row (fun _ => rfl) hd (by decide)
      have d0 := hcell 0 (by decide)
      have d1 := hcell 1 (by decide)
      have d2 := hcell 2 (by decide)
      simp [dsC] at d0 d1 d2
      have b0 : wr.cell? ⟨w.heap.size, 0, none⟩ = some (I l.ch) := by rw [hbox.cell]; rfl
      have b1 : wr.cell? ⟨w.heap.size, 1, none⟩ = some (I l.win) := by rw [hbox.cell]; rfl
      rw [hv] at cD
      have l1 := hbox.lt
      have l2 := hR.head.lt
      have l3 := (hR.row.lt g (by rw [hv]; rfl)).2
      have hdo := (H.out).2.1 d (List.mem_of_getElem? hd)
      have hbd := gv_bd (l := l) (f := t - l.win + 1) (t := t) (ds := K.ds.take j) fun x hx => (H.out).2.1 x (List.mem_of_mem_take hx)
      have htl : ((K.ds.take j).length : Int) ≤ 2000 := by have := List.length_take_le j K.ds; simp; omega
      have hgd := gd_bd (l := l) (f := t - l.win + 1) (t := t) hdo
      have hsn := gv_snoc (K.ds.take j) d l (t - l.win + 1) t
      have hts : K.ds.take (j + 1) = K.ds.take j ++ [d] := by
        obtain ⟨lj, vj⟩ := List.getElem?_eq_some_iff.1 hd
        rw [List.take_succ_eq_append_getElem lj, vj]
      rw [← hts] at hsn
      obtain ⟨o1, o2, o3, o4, o5, o6⟩ := hdo
      have HK := hide (And.intro hkj (And.intro hsn (And.intro hk.out.1 hk.out.2)))
      clear hR hbox hcell hv hvd hcap hsn hts hk hkj hd
      generalize gv (K.ds.take j) l (t - l.win + 1) t = G at *
      have cc := fun W => kon_any l.ch d.ch W (by have := (H.out).2.2.ch0; omega) (H.out).2.2.ch1 o3 o4
      have CC := hide cc
      clear cc
      go_wp2_with fail
      refine (CC.out _).mono ?_
      rintro e w1 ⟨rfl, k1⟩
      have q1 : Blk w1 wr.heap.size #[I d.tick, I d.ch, I d.amt] 100 := by rw [k1]; exact Blk.new _ _ _
      have q2 : Keep wr w1 := by rw [k1]; exact (Frm.refl _ _).alloc _
      have c0 : w1.cell? ⟨wr.heap.size, 0, none⟩ = some (I d.tick) := by rw [q1.cell]; rfl
      have c2 : w1.cell? ⟨wr.heap.size, 2, none⟩ = some (I d.amt) := by rw [q1.cell]; rfl
      have b1' : w1.cell? ⟨w.heap.size, 1, none⟩ = some (I l.win) := q2.cell b1 id
      have K1 := hide q2
      clear q1 k1 q2 b0 b1
      have fin : ∀ x : Int, x = gd l (t - l.win + 1) t d → ∃ k' : Nat, k' < gk ∧ ∃ j' : Nat, k' + j' = K.ds.length ∧ I ((j : Int) + 1) = I j' ∧ I (G + x) = I (gv (K.ds.take j') l (t - l.win + 1) t) ∧ Hid (Keep w w1 ∧ Blk w1 w.heap.size #[I l.ch, I l.win, I l.cap] 60) := by
        intro x hx
        obtain ⟨h1, h2, h3, h4⟩ := HK.out
        refine ⟨gk - 1, by omega, j + 1, by omega, by simp, by rw [h2, hx], ?_⟩
        exact ⟨h3.trans K1.out, (K1.out).blk h4⟩
      have FIN := hide fin
      clear fin
      cases hc : cnt l.ch d.ch.toNat with
      | false =>
        go_wp2_with fail
        obtain ⟨k', m1, m2⟩ := FIN.out 0 (by simp [gd, hc])
        rw [Int.add_zero] at m2
        go_roundg k'
        case measure => exact m1
        case rel => exact m2
      | true =>
        by_cases h2 : d.tick ≤ t
        · by_cases h1 : t - l.win < d.tick
          · have h1' : t - l.win + 1 ≤ d.tick := by omega
            go_wp2_with fail
            obtain ⟨k', m1, m2⟩ := FIN.out d.amt (by simp [gd, hc, h1', h2])
            go_roundg k'
            case measure => exact m1
            case rel => exact m2
          · have h1' : decide (t - l.win < d.tick) = false := by simpa using h1
            have h1'' : decide (t - l.win + 1 ≤ d.tick) = false := decide_eq_false (by omega)
            have gz : 0 = gd l (t - l.win + 1) t d := by unfold gd; rw [h1'']; simp
            have GZ := hide gz
            clear h1'' gz
            go_wp2_with fail
            obtain ⟨k', m1, m2⟩ := FIN.out 0 GZ.out
            rw [Int.add_zero] at m2
            go_roundg k'
            case measure => exact m1
            case rel => exact m2
        · have h2' : decide (d.tick ≤ t) = false := by simpa using h2
          go_wp2_with fail
          obtain ⟨k', m1, m2⟩ := FIN.out 0 (by simp [gd, h2'])
          rw [Int.add_zero] at m2
          go_roundg k'
          case measure => exact m1
          case rel => exact m2
    · rw [hvd] at cD
      have hje : j = K.ds.length := by omega
      have HK := hide (And.intro hk.out.1 hje)
      clear hR hbox hvd hkj hk hje
      go_wp2_with fail
      go_ret
      exact ⟨ret_int (by rw [HK.out.2, List.take_length]), HK.out.1⟩

set_option maxRecDepth 100000 in
set_option maxHeartbeats 1600000 in
theorem ksafe_any (rb : Nat) (K : KV) (w : World) (h : KRd w rb K) (ok : K.Ok) (safe : SafeL K.ds K.lims) :
    Calls Tryz.prog 17 #[.pointer (some ⟨rb, 0, none⟩)] w fun e w' => e = .returned (.bool true) ∧ Keep w w' := by
  have H := hide (And.intro h (And.intro ok safe))
  have hn := ok.nl
  have n0 := ok.n0
  have n1 := ok.n1
  obtain ⟨N, hN⟩ := Int.eq_ofNat_of_zero_le n0
  clear h ok safe
  go_enter Tryz.func17, Tryz.ntmps17
  go_wp2_with fail
  go_loopg [3, 4, 5] K.lims.length (fun q i _ _ wr => ∃ j : Nat, q + j = K.lims.length ∧ i = I j ∧ Hid (Keep w wr))
  case atStart => exact ⟨0, by omega, rfl, Frm.refl _ _⟩
  case round =>
    obtain ⟨j, hkj, rfl, hk⟩ := hrel
    have hR := (H.out).1.keep hk.out
    obtain ⟨a, cp, hvl⟩ := row_slice hR.lims
    have cL : wr.cell? ⟨rb, 2, none⟩ = some K.vl := by rw [hR.head.cell]; rfl
    by_cases hj : j < K.lims.length
    · obtain ⟨l, hl⟩ : ∃ l, K.lims[j]? = some l := ⟨_, List.getElem?_eq_getElem hj⟩
      obtain ⟨g, cap, hv, -, -, -⟩ := row_at hR.lims (fun _ => rfl) hl (by decide)
      rw [hv] at cL
      have nx : ∀ wz, Keep w wz → ∃ k' : Nat, k' < gk ∧ ∃ j' : Nat, k' + j' = K.lims.length ∧ I ((j : Int) + 1) = I j' ∧ Hid (Keep w wz) := fun wz hz => ⟨gk - 1, by omega, j + 1, by omega, by simp, hz⟩
      have NX := hide nx
      have HH := hide (And.intro hk.out (And.intro hl hv))
      clear hR hk hkj hl hv nx hvl
      go_wp2_with fail
      go_loopg [4, 5] N (fun q i _ wi => ∃ t : Nat, q + t = N ∧ i = I t ∧ Hid (Keep w wi))
      case atStart => exact ⟨0, by omega, rfl, (HH.out).1⟩
      case round =>
        obtain ⟨t, hqt, rfl, hk⟩ := hrel
        have hR := (H.out).1.keep hk.out
        have hl := (HH.out).2.1
        have cN : wr.cell? ⟨rb, 5, none⟩ = some (I N) := by rw [hR.head.cell, ← hN]; rfl
        by_cases ht : t < N
        · obtain ⟨g', cap', hv', hcap, hcell, -⟩ := row_at hR.lims (fun _ => rfl) hl (by decide)
          have hv2 := (HH.out).2.2
          rw [hv'] at hv2
          injection hv2 with e1 e2 e3
          injection e1 with e1
          injection e1 with e1
          subst e1
          have cL' : wr.cell? ⟨rb, 2, none⟩ = some (.slice (some ⟨g', 0, none⟩) K.lims.length cap') := by rw [hR.head.cell, ← hv']; rfl
          have d0 := hcell 0 (by decide)
          have d1 := hcell 1 (by decide)
          have d2 := hcell 2 (by decide)
          simp [limC] at d0 d1 d2
          have hlo := (H.out).2.1.lims l (List.mem_of_getElem? hl)
          have hs := (H.out).2.2 l (List.mem_of_getElem? hl) t
          have hle : gv K.ds l (t - l.win + 1) t ≤ l.cap := by unfold lft at hs; omega
          have hgt : decide (l.cap < gv K.ds l (t - l.win + 1) t) = false := decide_eq_false (by omega)
          have gg := ksum_any rb K l t wr hR (H.out).2.1.nd (H.out).2.1.ds hlo (by omega) (by omega)
          have SM : Hid (Calls Tryz.prog 36 #[.pointer (some ⟨rb, 0, none⟩), .agg #[I l.ch, I l.win, I l.cap], I t] wr fun e w' => e = .returned (I (gv K.ds l (t - l.win + 1) t)) ∧ w'.cell? ⟨rb, 2, none⟩ = some (.slice (some ⟨g', 0, none⟩) K.lims.length cap') ∧ w'.cell? ⟨g', j * 3 + 2, none⟩ = some (I l.cap) ∧ Hid (Keep w w')) :=
            gg.mono (fun e w' q => ⟨q.1, q.2.cell cL' id, q.2.cell d2 id, hk.out.trans q.2⟩)
          have NT : Hid (∀ wz, Keep w wz → ∃ k' : Nat, k' < gk ∧ ∃ t' : Nat, k' + t' = N ∧ I ((t : Int) + 1) = I t' ∧ Hid (Keep w wz)) := fun wz hz => ⟨gk - 1, by omega, t + 1, by omega, by simp, hz⟩
          clear hR hk hcell hv' hl hlo hs gg hcap e2 e3 hqt
          generalize gv K.ds l (t - l.win + 1) t = V at *
          go_wp2_with fail
          refine (SM.out).mono ?_
          rintro e w1 ⟨rfl, x1, x2, KW⟩
          go_wp2_with fail
          obtain ⟨k', m1, m2⟩ := NT.out w1 KW.out
          go_roundg k'
          case measure => exact m1
          case rel => exact m2
        · have KW := hide hk.out
          clear hR hk
          go_wp2_with fail
          obtain ⟨k', m1, m2⟩ := NX.out wr KW.out
          go_roundg k'
          case measure => exact m1
          case rel => exact m2
    · rw [hvl] at cL
      have HK := hide hk.out
      clear hR hvl hkj hk
      go_wp2_with fail
      go_ret
      exact ⟨rfl, HK.out⟩

end Go.Proofs.YtpilmkipbbengaaGreatDoor
