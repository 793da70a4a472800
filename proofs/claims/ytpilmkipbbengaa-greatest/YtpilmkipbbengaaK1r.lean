/- dripkeep: room. -/
import Derived.Test.YtpilmkipbbengaaK1
namespace Go.Proofs.Ytpilmkipbbengaa
open Go.RowKit

set_option maxRecDepth 100000 in
set_option maxHeartbeats 1600000 in
theorem kroom_any (rb : Nat) (K : KV) (k : Nat) (z : Int) (w : World) (h : KRd w rb K) (ok : K.Ok) (k1 : k ≤ 3) (z0 : 0 ≤ z) (z1 : z ≤ 100) :
    Calls Try.prog 14 #[.pointer (some ⟨rb, 0, none⟩), I k, I z] w fun e w' => e = .returned (I (rroom K.ds K.lims k (K.now + z))) ∧ Keep w w' := by
  have H := hide (And.intro h ok)
  have hn := ok.nl
  have n0 := ok.n0
  have n1 := ok.n1
  clear h ok
  go_enter Try.func14, Try.ntmps14
  go_wp2_with fail
  go_loopg [7, 8, 9, 10, 11] K.lims.length (fun q n i _ _ _ wr => ∃ j : Nat, q + j = K.lims.length ∧ i = I j ∧ n = I ((K.lims.take j).foldl (rstep K.ds k (K.now + z)) 1000) ∧ Hid (Keep w wr))
  case atStart => exact ⟨0, by omega, rfl, rfl, Frm.refl _ _⟩
  case round =>
    obtain ⟨j, hkj, rfl, rfl, hk⟩ := hrel
    have hR := (H.out).1.keep hk.out
    obtain ⟨a, cp, hvl⟩ := row_slice hR.lims
    have cL : wr.cell? ⟨rb, 2, none⟩ = some K.vl := by rw [hR.head.cell]; rfl
    have cN : wr.cell? ⟨rb, 5, none⟩ = some (I K.now) := by rw [hR.head.cell]; rfl
    by_cases hj : j < K.lims.length
    · obtain ⟨l, hl⟩ : ∃ l, K.lims[j]? = some l := ⟨_, List.getElem?_eq_getElem hj⟩
      obtain ⟨g, cap, hv, hcap, hcell, -⟩ := row_at hR.lims (fun _ => rfl) hl (by decide)
      have d0 := hcell 0 (by decide)
      have d1 := hcell 1 (by decide)
      have d2 := hcell 2 (by decide)
      simp [limC] at d0 d1 d2
      rw [hv] at cL
      have l2 := hR.head.lt
      have l3 := (hR.lims.lt g (by rw [hv]; rfl)).2
      have hlo := (H.out).2.lims l (List.mem_of_getElem? hl)
      have hbd := lft_bd (t := K.now + z) (H.out).2.ds hlo
      have hnd := (H.out).2.nd
      have hfb := fold_bd (k := k) (t := K.now + z) (H.out).2.ds hnd (K.lims.take j) (fun x hx => (H.out).2.lims x (List.mem_of_mem_take hx)) 1000 (by omega) (by omega)
      have hsn := foldl_take_succ (rstep K.ds k (K.now + z)) 1000 K.lims j l hl
      have hlv : lft K.ds l (K.now + z) = l.cap - gv K.ds l (K.now + z - l.win + 1) (K.now + z) := rfl
      have hgb := gv_bd (l := l) (f := K.now + z - l.win + 1) (t := K.now + z) (H.out).2.ds
      have cc := fun W => kon_any l.ch k W (by have := hlo.ch0; omega) hlo.ch1 (by omega) (by omega)
      simp only [Int.toNat_natCast] at cc
      have gg := fun W (kW : Keep w W) => ksum_any rb K l (K.now + z) W ((H.out).1.keep kW) hnd (H.out).2.ds hlo (by omega) (by omega)
      have HSN := hide (And.intro hkj (And.intro hsn (And.intro hk.out hlv)))
      have CC := hide cc
      have GG := hide gg
      obtain ⟨o1, o2, o3, o4, o5, o6⟩ := hlo
      rw [hlv] at hbd
      clear hR hcell hv hvl hcap hsn hk hkj hl cc gg hlv
      generalize (K.lims.take j).foldl (rstep K.ds k (K.now + z)) 1000 = G at *
      generalize hgg : gv K.ds l (K.now + z - l.win + 1) (K.now + z) = V at *
      have HG := hide hgg
      clear hgg
      have wr3 : IntKind.i64.wrap (l.cap - V) = l.cap - V := wrap_id _ (by omega) (by omega)
      have wr4 : IntKind.i64.wrap (K.now + z) = K.now + z := wrap_id _ (by omega) (by omega)
      go_wp2_with fail
      refine (CC.out _).mono ?_
      rintro e w1 ⟨rfl, k1'⟩
      have q1 : Blk w1 wr.heap.size #[I l.ch, I l.win, I l.cap] 63 := by rw [k1']; exact Blk.new _ _ _
      have q2 : Keep wr w1 := by rw [k1']; exact (Frm.refl _ _).alloc _
      have c0 : w1.cell? ⟨wr.heap.size, 0, none⟩ = some (I l.ch) := by rw [q1.cell]; rfl
      have c1 : w1.cell? ⟨wr.heap.size, 1, none⟩ = some (I l.win) := by rw [q1.cell]; rfl
      have c2 : w1.cell? ⟨wr.heap.size, 2, none⟩ = some (I l.cap) := by rw [q1.cell]; rfl
      have cN' : w1.cell? ⟨rb, 5, none⟩ = some (I K.now) := q2.cell cN id
      have lq := q1.lt
      have lr : rb < w1.heap.size := Nat.lt_of_lt_of_le l2 q2.size
      have kw1 : Keep w w1 := (HSN.out).2.2.1.trans q2
      have K1 := hide (And.intro kw1 q1)
      clear q1 k1' kw1 q2 cN
      have fin : ∀ (x : Int) (w2 : World), Keep w w2 → x = rstep K.ds k (K.now + z) G l → ∃ k' : Nat, k' < gk ∧ ∃ j' : Nat, k' + j' = K.lims.length ∧ I ((j : Int) + 1) = I j' ∧ I x = I ((K.lims.take j').foldl (rstep K.ds k (K.now + z)) 1000) ∧ Hid (Keep w w2) := by
        intro x w2 hw2 hx
        obtain ⟨h1, h2, h3, h4⟩ := HSN.out
        exact ⟨gk - 1, by omega, j + 1, by omega, by simp, by rw [h2, hx], hw2⟩
      have FIN := hide fin
      clear fin
      go_wp2_with fail
      go_region_with (go_at_call 27; refine (GG.out _ (by first | exact (K1.out).1.drew | exact (K1.out).1)).mono ?_; rintro e w2 ⟨rfl, k2⟩; have p2 : Blk w2 wr.heap.size #[I l.ch, I l.win, I l.cap] 63 := k2.blk (K1.out).2; have s2 : w2.cell? ⟨wr.heap.size, 2, none⟩ = some (I l.cap) := by { rw [p2.cell]; rfl })
      all_goals (have kw2 : Keep w w2 := ((K1.out).1.drew).trans k2)
      all_goals (have K2 := hide kw2)
      all_goals clear k2 kw2 p2
      all_goals
        (cases hc : cnt l.ch k with
          | false =>
            go_wp2_with fail
            obtain ⟨k', m1, m2⟩ := FIN.out G w2 K2.out (by simp [rstep, hc])
            go_roundg k'
            case measure => exact m1
            case rel => exact m2
          | true =>
            by_cases h2 : l.cap - V < G
            · go_wp2_with fail
              obtain ⟨k', m1, m2⟩ := FIN.out (l.cap - V) w2 K2.out (by have e : lft K.ds l (K.now + z) = l.cap - V := (HSN.out).2.2.2; simp [rstep, hc, e, h2])
              go_roundg k'
              case measure => exact m1
              case rel => exact m2
            · have h2' : decide (l.cap - V < G) = false := by simpa using h2
              go_wp2_with fail
              obtain ⟨k', m1, m2⟩ := FIN.out G w2 K2.out (by have e : lft K.ds l (K.now + z) = l.cap - V := (HSN.out).2.2.2; simp [rstep, e, h2'])
              go_roundg k'
              case measure => exact m1
              case rel => exact m2)
    · rw [hvl] at cL
      have hje : j = K.lims.length := by omega
      have HK := hide (And.intro hk.out hje)
      clear hR hvl hkj hk hje
      go_wp2_with fail
      go_ret
      exact ⟨ret_int (by rw [HK.out.2, List.take_length]; rfl), HK.out.1⟩

end Go.Proofs.Ytpilmkipbbengaa
