/- The document's pump: orders, demands, rests. -/
import Derived.Test.YtpilmkipbbengaaGreatDoorRef7
import Derived.Deep.RegionLaw
import Derived.Deep.CutRange
import Derived.Test.YtpilmkipbbengaaGreatDoorIface
namespace Go.Proofs.YtpilmkipbbengaaGreatDoor
open Go.RowKit

set_option maxRecDepth 100000 in
set_option maxHeartbeats 1600000 in
theorem rfull_any (b : Nat) (R : RSt) (vl vd vc vo : Value) (w : World) (h : RefAt w b R vl vd vc vo) (ok : R.Ok) :
    Calls Tryz.prog 112 #[.pointer (some ⟨b, 0, none⟩)] w fun e w' => e = .returned (.bool (decide (8 ≤ nov R.now R.os))) ∧ ∃ n, w' = w.drewN n := by
  have n0 := ok.now0
  have n1 := ok.now1
  have hno := ok.no
  have H := hide (And.intro h ok)
  clear h ok
  go_enter Tryz.func112, Tryz.ntmps112
  go_wp2_with fail
  go_loopg [3, 4] R.os.length (fun q n i wr => ∃ j : Nat, q + j = R.os.length ∧ i = I j ∧ n = I (nov R.now (R.os.take j)) ∧ Hid (∃ m, wr = w.drewN m))
  case atStart => exact ⟨0, by omega, rfl, rfl, 0, rfl⟩
  case round =>
    obtain ⟨j, hq, rfl, rfl, hd⟩ := hrel
    have hR : RefAt wr b R vl vd vc vo := by obtain ⟨m, rfl⟩ := hd.out; exact (H.out).1.keep ((Frm.refl _ _).drewN m)
    obtain ⟨ao, co, hvo⟩ := row_slice hR.os
    have c6 : wr.cell? ⟨b, 6, none⟩ = some vo := by rw [hR.head.cell]; rfl
    have c3 : wr.cell? ⟨b, 3, none⟩ = some (I R.now) := by rw [hR.head.cell]; rfl
    by_cases hj : j < R.os.length
    · obtain ⟨o, ho⟩ : ∃ o, R.os[j]? = some o := ⟨_, List.getElem?_eq_getElem hj⟩
      obtain ⟨g, cap, hv, hcap, hcell, -⟩ := row_at hR.os (fun _ => rfl) ho (by decide)
      have d2 := hcell 2 (by decide)
      simp [ordC] at d2
      rw [hv] at c6
      have hsn := nov_snoc R.now (R.os.take j) o
      rw [← take_snoc' ho] at hsn
      have hle := nov_le R.now (R.os.take j)
      have hle' : nov R.now (R.os.take j) ≤ j := by simp at hle; omega
      generalize nov R.now (R.os.take j) = N at *
      have HS := hide (And.intro hsn hq)
      clear hR hcell hv hvo ho hsn hq hle
      by_cases hc : R.now < o.stop
      · go_wp2_with fail
        go_quiet (fail)
        go_wp2_with fail
        go_roundg (gk - 1)
        case measure => have := (HS.out).2; omega
        case rel => exact ⟨j + 1, by have := (HS.out).2; omega, by simp, by rw [(HS.out).1, if_pos hc]; simp, by obtain ⟨m, hm⟩ := hd.out; exact ⟨m + nq, by rw [hm, World.drewN_drewN]⟩⟩
      · have hc' : decide (R.now < o.stop) = false := by simpa using hc
        go_wp2_with fail
        go_quiet (fail)
        go_wp2_with fail
        go_roundg (gk - 1)
        case measure => have := (HS.out).2; omega
        case rel => exact ⟨j + 1, by have := (HS.out).2; omega, by simp, by rw [(HS.out).1, if_neg (by omega)]; simp, by obtain ⟨m, hm⟩ := hd.out; exact ⟨m + nq, by rw [hm, World.drewN_drewN]⟩⟩
    · rw [hvo] at c6
      have hje : j = R.os.length := by omega
      have HK := hide hje
      clear hR hvo hq hje
      go_wp2_with fail
      go_ret
      refine ⟨ret_bool ?_, hd.out⟩
      rw [HK.out, List.take_length]
      apply decide_eq_decide.2
      omega

theorem infoRO : (Tryz.prog.info? 171).map (fun i => (i.zero, i.size, i.bytes)) = some (some (.agg #[I 0, I 0, I 0, I 0]), 4, 32) := by kernel_rfl

set_option maxRecDepth 100000 in
set_option maxHeartbeats 1600000 in
theorem rOrder_no (b : Nat) (R : RSt) (vl vd vc vo : Value) (k a d t : Int) (w : World) (h : RefAt w b R vl vd vc vo) (hb : orderBad R k a d t = true) :
    Calls Tryz.prog 82 #[.pointer (some ⟨b, 0, none⟩), I k, I a, I d, I t] w fun e w' => e = .returned (.tuple #[I 0, I 1]) ∧ w' = w := by
  have ci := ris_any b R vl vd vc vo k w h
  change Calls Tryz.prog 110 _ w fun e w' => e = .returned (.bool (isCh R k)) ∧ w' = w at ci
  have CI := hide ci
  clear ci h
  rcases orderBad_cases hb with h1 | ⟨h1, h2⟩ | ⟨h1, h2, h3⟩ | ⟨h1, h2, h3, h4⟩ | ⟨h1, h2, h3, h4, h5⟩ | ⟨h1, h2, h3, h4, h5, h6⟩ | ⟨h1, h2, h3, h4, h5, h6, h7⟩
  all_goals clear hb
  all_goals rw [h1] at CI
  all_goals go_enter Tryz.func82, Tryz.ntmps82
  all_goals go_wp2_with fail
  all_goals refine (CI.out).mono ?_
  all_goals rintro e w1 ⟨rfl, hw⟩
  all_goals subst hw
  all_goals go_wp2_with fail
  all_goals go_ret2
  all_goals exact ⟨rfl, rfl⟩

set_option maxRecDepth 100000 in
set_option maxHeartbeats 1600000 in
theorem rOrder_many (b : Nat) (R : RSt) (vl vd vc vo : Value) (k a d t : Int) (w : World) (h : RefAt w b R vl vd vc vo) (ok : R.Ok) (hb : orderBad R k a d t = false) (hm : 8 ≤ nov R.now R.os) :
    Calls Tryz.prog 82 #[.pointer (some ⟨b, 0, none⟩), I k, I a, I d, I t] w fun e w' => e = .returned (.tuple #[I 0, I 2]) ∧ ∃ n, w' = w.drewN n := by
  have ci := ris_any b R vl vd vc vo k w h
  change Calls Tryz.prog 110 _ w fun e w' => e = .returned (.bool (isCh R k)) ∧ w' = w at ci
  have cf := rfull_any b R vl vd vc vo w h ok
  have hd8 : decide (8 ≤ nov R.now R.os) = true := by simpa using hm
  rw [hd8] at cf
  obtain ⟨h1, h2, h3, h4, h5, h6, h7⟩ := orderGood hb
  rw [h1] at ci
  have CI := hide ci
  have CF := hide cf
  clear ci cf h ok hb hm hd8
  go_enter Tryz.func82, Tryz.ntmps82
  go_wp2_with fail
  refine (CI.out).mono ?_
  rintro e w1 ⟨rfl, hw⟩
  subst hw
  go_wp2_with fail
  refine (CF.out).mono ?_
  rintro e w2 ⟨rfl, n, rfl⟩
  go_wp2_with fail
  go_ret2
  exact ⟨rfl, n, rfl⟩

/-- an order more -/
theorem RefAt.ordered {w W w5 : World} {b : Nat} {R : RSt} {vl vd vc vo v5 : Value} {o : ROrd} (h : RefAt w b R vl vd vc vo) (kW : Keep w W) (hown : w5.ownsRow 0 171 4 v5 (R.os.length + 1) (R.os.flatMap ordC ++ ordC o)) (hg : W.grownBy w5 vo.ownBlock)
    (hnew : v5.ownBlock = vo.ownBlock ∨ (v5.ownBlock = some W.heap.size ∧ W.grownBy w5 none)) :
    RefAt (w5.setCell ⟨b, 6, none⟩ v5) b { R with os := R.os ++ [o] } vl vd vc v5 ∧ Frm (RefF b vl vd vc vo) w (w5.setCell ⟨b, 6, none⟩ v5) ∧ ∀ x, RefF b vl vd vc v5 x → RefF b vl vd vc vo x ∨ w.heap.size ≤ x := by
  have hlt := h.lt
  have hs := h.sep
  have f3 := grown_frm hg
  have hsz := kW.size
  have hnw : ∀ x, v5.ownBlock = some x → vo.ownBlock = some x ∨ w.heap.size ≤ x := by
    intro x hx
    rcases hnew with e | ⟨e, -⟩
    · exact Or.inl (by rw [← e]; exact hx)
    · rw [e] at hx; injection hx with hx; exact Or.inr (by omega)
  have f4 : Frm (fun x => x = b) w5 (w5.setCell ⟨b, 6, none⟩ v5) := (Frm.refl (fun x => x = b) w5).setCell (p := ⟨b, 6, none⟩) rfl v5
  have hbl := h.head.lt
  have keep3 : ∀ (v : Value) (T : TypeId) (s n : Nat) (xs : List Value), w.ownsRow 0 T s v n xs → Dis v vo → v.ownBlock ≠ some b → (w5.setCell ⟨b, 6, none⟩ v5).ownsRow 0 T s v n xs := by
    intro v T s n xs hr hd hnb
    exact row_frm (row_frm (row_frm hr kW fun _ _ e => e) f3 fun x hx e => hd x hx e) f4 fun x hx e => hnb (by rw [← e]; exact hx)
  refine ⟨⟨?_, keep3 vl _ _ _ _ h.lims hs.lo hs.bl, keep3 vd _ _ _ _ h.doses hs.od hs.bd, keep3 vc _ _ _ _ h.chs hs.co hs.bc, ?_, ?_⟩, ?_, ?_⟩
  · have h5 : Blk w5 b #[I R.chs.length, vl, I R.lock, I R.now, vd, vc, vo] 98 := (kW.blk h.head).frm f3 hs.bo
    have := h5.set 6 v5
    simpa using this
  · have e1 : (R.os ++ [o]).flatMap ordC = R.os.flatMap ordC ++ ordC o := by simp
    show (w5.setCell ⟨b, 6, none⟩ v5).ownsRow 0 171 4 v5 (R.os ++ [o]).length ((R.os ++ [o]).flatMap ordC)
    rw [e1, List.length_append]
    refine row_frm hown f4 fun x hx e => ?_
    rcases hnw x hx with q | q
    · exact hs.bo (by rw [← e]; exact q)
    · omega
  · have hb' : v5.ownBlock ≠ some b := by
      intro e
      rcases hnw b e with q | q
      · exact hs.bo q
      · omega
    have dd : ∀ (v : Value), (∀ x, v.ownBlock = some x → x < w.heap.size) → Dis v vo → Dis v v5 := by
      intro v hv hd x hx e
      rcases hnw x e with q | q
      · exact hd x hx q
      · have := hv x hx; omega
    exact ⟨hs.bl, hs.bd, hs.bc, hb', hs.ld, hs.lc, dd vl (fun x hx => hlt x (Or.inr (Or.inl hx))) hs.lo, hs.dc, dd vd (fun x hx => hlt x (Or.inr (Or.inr (Or.inl hx)))) hs.od, dd vc (fun x hx => hlt x (Or.inr (Or.inr (Or.inr (Or.inl hx))))) hs.co⟩
  · refine ((kW.mono fun _ _ e => e.elim).trans2 f3 fun x _ e => Or.inr (Or.inr (Or.inr (Or.inr e)))).trans (f4.mono fun x _ e => Or.inl e)
  · rintro x (e | e | e | e | e)
    · exact Or.inl (Or.inl e)
    · exact Or.inl (Or.inr (Or.inl e))
    · exact Or.inl (Or.inr (Or.inr (Or.inl e)))
    · exact Or.inl (Or.inr (Or.inr (Or.inr (Or.inl e))))
    · rcases hnw x e with q | q
      · exact Or.inl (Or.inr (Or.inr (Or.inr (Or.inr q))))
      · exact Or.inr q

set_option maxRecDepth 100000 in
set_option maxHeartbeats 3200000 in
theorem rOrder_yes (b : Nat) (R : RSt) (vl vd vc vo : Value) (k a d t : Int) (w : World) (h : RefAt w b R vl vd vc vo) (ok : R.Ok) (hb : orderBad R k a d t = false) (hm : nov R.now R.os < 8) (hos : R.os.length ≤ 1000000) :
    Calls Tryz.prog 82 #[.pointer (some ⟨b, 0, none⟩), I k, I a, I d, I t] w fun e w' => e = .returned (.tuple #[I ((R.os.length : Int) + 1), I 0]) ∧
      ∃ vo', RefAt w' b { R with os := R.os ++ [⟨k, R.now + d, R.now + d + t, a⟩] } vl vd vc vo' ∧ Frm (RefF b vl vd vc vo) w w' ∧ ∀ x, RefF b vl vd vc vo' x → RefF b vl vd vc vo x ∨ w.heap.size ≤ x := by
  have ci := ris_any b R vl vd vc vo k w h
  change Calls Tryz.prog 110 _ w fun e w' => e = .returned (.bool (isCh R k)) ∧ w' = w at ci
  have cf := rfull_any b R vl vd vc vo w h ok
  have hd8 : decide (8 ≤ nov R.now R.os) = false := by simpa using hm
  rw [hd8] at cf
  obtain ⟨h1, h2, h3, h4, h5, h6, h7⟩ := orderGood hb
  rw [h1] at ci
  obtain ⟨iO, hiO, hzO0, hzO1, hzO2⟩ := info_parts infoRO
  have n0 := ok.now0
  have n1 := ok.now1
  have g4 : 0 ≤ d := by simpa using h4
  have g5 : d ≤ 400 := by simpa using h5
  have g6 : 1 ≤ t := by have := h6; simp at this; omega
  have g7 : t ≤ 400 := by simpa using h7
  have wa : IntKind.i64.wrap (R.now + d) = R.now + d := wrap_id _ (by omega) (by omega)
  have wb : IntKind.i64.wrap (R.now + d + t) = R.now + d + t := wrap_id _ (by omega) (by omega)
  have CI := hide ci
  have CF := hide cf
  have H := hide h
  clear ci cf h ok hb hm hd8
  go_enter Tryz.func82, Tryz.ntmps82
  go_wp2_with fail
  refine (CI.out).mono ?_
  rintro e w1 ⟨rfl, hw⟩
  have hw' := hw.symm
  subst hw'
  go_wp2_with fail
  refine (CF.out).mono ?_
  rintro e w2 ⟨rfl, n, rfl⟩
  have hR : RefAt (w.drewN n) b R vl vd vc vo := (H.out).keep ((Frm.refl _ _).drewN n)
  have kn : Keep w (w.drewN n) := (Frm.refl _ _).drewN n
  generalize w.drewN n = w2 at *
  obtain ⟨ao, co, hvo⟩ := row_slice hR.os
  have c6 : w2.cell? ⟨b, 6, none⟩ = some (.slice ao R.os.length co) := by rw [hR.head.cell, ← hvo]; rfl
  have c3 : w2.cell? ⟨b, 3, none⟩ = some (I R.now) := by rw [hR.head.cell]; rfl
  have lb := hR.head.lt
  have HR := hide (And.intro hR (And.intro hvo kn))
  have ORD : Hid (∀ (W w5 : World) (v5 : Value), Keep w2 W → w5.ownsRow 0 171 4 v5 (R.os.length + 1) (R.os.flatMap ordC ++ [I k, I (R.now + d), I (R.now + d + t), I a]) → W.grownBy w5 (Value.slice ao R.os.length co).ownBlock →
      (v5.ownBlock = (Value.slice ao R.os.length co).ownBlock ∨ (v5.ownBlock = some W.heap.size ∧ W.grownBy w5 none)) →
      ∃ vo' : Value, RefAt (w5.setCell ⟨b, 6, none⟩ v5) b { R with os := R.os ++ [⟨k, R.now + d, R.now + d + t, a⟩] } vl vd vc vo' ∧ Frm (RefF b vl vd vc vo) w (w5.setCell ⟨b, 6, none⟩ v5) ∧ (∀ x, RefF b vl vd vc vo' x → RefF b vl vd vc vo x ∨ w.heap.size ≤ x)) := by
    intro W w5 v5 kW hown hg hnew
    rw [← hvo] at hg hnew
    obtain ⟨q1, q2, q3⟩ := hR.ordered (o := ⟨k, R.now + d, R.now + d + t, a⟩) kW hown hg hnew
    refine ⟨v5, q1, (kn.mono fun _ _ e => e.elim).trans q2, fun x hx => ?_⟩
    rcases q3 x hx with e | e
    · exact Or.inl e
    · exact Or.inr (Nat.le_trans kn.size e)
  clear hR hvo kn
  go_wp2_with fail
  go_cut [] from 46 to 76 (fun wx => Hid (∃ vo' : Value, RefAt wx b { R with os := R.os ++ [⟨k, R.now + d, R.now + d + t, a⟩] } vl vd vc vo' ∧ Frm (RefF b vl vd vc vo) w wx ∧ (∀ x, RefF b vl vd vc vo' x → RefF b vl vd vc vo x ∨ w.heap.size ≤ x)))
  case first =>
    go_region_law (refine step_append_row rfl (.tmp 50) (.tmp 68) 96 rfl 171 iO (.agg #[I 0, I 0, I 0, I 0]) 4 32 Tryz.underlying96 hiO hzO0 hzO1 hzO2 rfl (by decide) (.slice ao R.os.length co) R.os.length (R.os.flatMap ordC) (by simp [Act.eval]) (by rw [← (HR.out).2.1]; exact row_frm (HR.out).1.os (show Keep _ _ from ((Frm.refl _ _).alloc _).drew) (fun _ _ e => e)) ⟨w2.heap.size, 0, none⟩ 1 1 [I k, I (R.now + d), I (R.now + d + t), I a] (by simp [Act.eval]) rfl (by exact cell_news _ [I k, I (R.now + d), I (R.now + d + t), I a] _ _ rfl) (by intro u hu; simp at hu; rcases hu with rfl | rfl | rfl | rfl <;> rfl) (by unfold maxLen; omega) (by omega) ?_; intro v5 w5 hown5 hgr5 hnew5; obtain ⟨a5, cp5, hv5⟩ := row_slice hown5; subst hv5; have bb5 := ((show Keep _ _ from ((Frm.refl _ _).alloc _).drew).blk (HR.out).1.head).frm (grown_frm hgr5) (fun e => (HR.out).1.sep.bo (by rw [(HR.out).2.1]; exact e)); have c56 : w5.cell? ⟨b, 6, none⟩ = some vo := (by { rw [bb5.cell]; rfl }); have f56 := bb5.frozen 6; have FIVE := hide (And.intro hown5 (And.intro hgr5 hnew5)); clear hown5 hgr5 hnew5 bb5)
    all_goals (go_wp2_with fail; go_meet)
    all_goals exact ORD.out _ _ _ (show Keep _ _ from ((Frm.refl _ _).alloc _).drew) (FIVE.out).1 (FIVE.out).2.1 (FIVE.out).2.2
  case rest =>
    obtain ⟨vo', hr, hf, hx⟩ := hcut.out
    obtain ⟨a6, cp6, hv6⟩ := row_slice hr.os
    have hlen : (R.os ++ [(⟨k, R.now + d, R.now + d + t, a⟩ : ROrd)]).length = R.os.length + 1 := by simp
    have d6 : wc.cell? ⟨b, 6, none⟩ = some (.slice a6 (R.os.length + 1) cp6) := by rw [hr.head.cell, ← hlen, ← hv6]; rfl
    have FI := hide (And.intro hr (And.intro hf hx))
    clear hr hf hx hcut hv6 hlen ORD HR
    go_wp2_with fail
    go_ret2
    exact ⟨rfl, vo', (FI.out).1, (FI.out).2.1, (FI.out).2.2⟩

end Go.Proofs.YtpilmkipbbengaaGreatDoor

/- The document's pump: Rest, Pause, Resume, Demand. -/
namespace Go.Proofs.YtpilmkipbbengaaGreatDoor
open Go.RowKit

set_option maxRecDepth 100000 in
set_option maxHeartbeats 1600000 in
theorem rRest_any (b : Nat) (R : RSt) (vl vd vc vo : Value) (j : Int) (w : World) (h : RefAt w b R vl vd vc vo) (ok : R.Ok) :
    Calls Tryz.prog 80 #[.pointer (some ⟨b, 0, none⟩), I j] w fun e w' => e = .returned (.tuple #[I (restV R j), I (restErr R j)]) ∧ ∃ n, w' = w.drewN n := by
  obtain ⟨ao, co, hvo⟩ := row_slice h.os
  have c6 : w.cell? ⟨b, 6, none⟩ = some (.slice ao R.os.length co) := by rw [h.head.cell, ← hvo]; rfl
  have hno := ok.no
  by_cases h1 : j < 1
  · have e1 : restErr R j = 1 := by rw [restErr, if_pos (Or.inl h1)]
    have e2 : restV R j = 0 := by rw [restV, if_pos (Or.inl h1)]
    rw [e1, e2]
    clear e1 e2 h hvo ok
    go_enter Tryz.func80, Tryz.ntmps80
    go_wp2_with fail
    go_ret2
    exact ⟨rfl, 0, rfl⟩
  · have h1' : decide (j < 1) = false := by simpa using h1
    by_cases h2 : (R.os.length : Int) < j
    · have e1 : restErr R j = 1 := by rw [restErr, if_pos (Or.inr h2)]
      have e2 : restV R j = 0 := by rw [restV, if_pos (Or.inr h2)]
      rw [e1, e2]
      clear e1 e2 h hvo ok
      go_enter Tryz.func80, Tryz.ntmps80
      go_wp2_with fail
      go_ret2
      exact ⟨rfl, 0, rfl⟩
    · have e1 : restErr R j = 0 := by rw [restErr, if_neg (by omega)]
      obtain ⟨i, rfl⟩ : ∃ i : Nat, j = (i : Int) + 1 := ⟨(j - 1).toNat, by omega⟩
      have hi : i < R.os.length := by omega
      have ho := List.getElem?_eq_getElem hi
      have e2 : restV R ((i : Int) + 1) = R.os[i].rest := by
        rw [restV, if_neg (by omega)]
        have : ((i : Int) + 1 - 1).toNat = i := by omega
        rw [this, ho]; rfl
      obtain ⟨g, cap, hv, hcap, hcell, -⟩ := row_at h.os (fun _ => rfl) ho (by decide)
      have d3 := hcell 3 (by decide)
      simp [ordC] at d3
      rw [hvo] at hv
      injection hv with hv1 hv2 hv3
      subst hv1
      rw [e1, e2]
      have h2' : decide ((R.os.length : Int) < (i : Int) + 1) = false := by simpa using h2
      have hs1 : (i : Int) + 1 - 1 = (i : Int) := by omega
      clear e1 e2 h hvo ok hv2 hv3 hcell ho
      go_enter Tryz.func80, Tryz.ntmps80
      go_wp2_with fail
      go_ret2
      exact ⟨rfl, 0, rfl⟩

set_option maxRecDepth 100000 in
set_option maxHeartbeats 1600000 in
theorem rrests_any (b : Nat) (R : RSt) (vl vd vc vo : Value) (k : Int) (yes : Bool) (w : World) (h : RefAt w b R vl vd vc vo) (ok : R.Ok) :
    Calls Tryz.prog 113 #[.pointer (some ⟨b, 0, none⟩), I k, .bool yes] w fun e w' => e = .returned (I (restsErr R k yes)) ∧ RefAt w' b (restsR R k yes) vl vd vc vo ∧ Frm (RefF b vl vd vc vo) w w' := by
  have ci := ris_any b R vl vd vc vo k w h
  change Calls Tryz.prog 110 _ w fun e w' => e = .returned (.bool (isCh R k)) ∧ w' = w at ci
  cases hk : isCh R k with
  | false =>
    rw [hk] at ci
    have e1 : restsErr R k yes = 1 := by simp [restsErr, hk]
    have e2 : restsR R k yes = R := by simp [restsR, e1]
    rw [e1, e2]
    have CI := hide ci
    have H := hide h
    clear ci h ok e1 e2
    go_enter Tryz.func113, Tryz.ntmps113
    go_wp2_with fail
    refine (CI.out).mono ?_
    rintro e w1 ⟨rfl, hw⟩
    have hw' := hw.symm
    subst hw'
    go_wp2_with fail
    go_ret
    exact ⟨rfl, H.out, Frm.refl _ _⟩
  | true =>
    rw [hk] at ci
    obtain ⟨k0, k1⟩ := isCh_true hk
    obtain ⟨i, rfl⟩ := Int.eq_ofNat_of_zero_le k0
    have hil : i < R.chs.length := by omega
    obtain ⟨c, hc⟩ : ∃ c, R.chs[i]? = some c := ⟨_, List.getElem?_eq_getElem hil⟩
    obtain ⟨g, cap, hv, hcap, hcell, hfz⟩ := row_at h.chs (fun _ => rfl) hc (by decide)
    have d2 := hcell 2 (by decide)
    simp [chC] at d2
    have c5 : w.cell? ⟨b, 5, none⟩ = some (.slice (some ⟨g, 0, none⟩) R.chs.length cap) := by rw [h.head.cell, ← hv]; rfl
    have f2 := hfz (i * 4 + 2)
    have hnc := ok.nc1
    have CI := hide ci
    have H := hide (And.intro h (And.intro hv hc))
    by_cases hr : c.rests = yes
    · have e1 : restsErr R i yes = 3 := by simp [restsErr, hk, hc, hr]
      have e2 : restsR R i yes = R := by simp [restsR, e1]
      rw [e1, e2]
      have hbb : (c.rests == yes) = true := by simp [hr]
      clear ci h ok e1 e2 hcell hfz hcap hv hc hr hk
      go_enter Tryz.func113, Tryz.ntmps113
      go_wp2_with fail
      refine (CI.out).mono ?_
      rintro e w1 ⟨rfl, hw⟩
      have hw' := hw.symm
      subst hw'
      go_wp2_with fail
      go_ret
      exact ⟨rfl, (H.out).1, Frm.refl _ _⟩
    · have e1 : restsErr R i yes = 0 := by simp [restsErr, hk, hc, hr]
      have e2 : restsR R i yes = { R with chs := R.chs.set i { c with rests := yes } } := by simp [restsR, e1, hc]
      rw [e1, e2]
      have hbb : (c.rests == yes) = false := by simpa using hr
      have hgo : vc.ownBlock = some g := by rw [hv]; rfl
      have hF : RefF b vl vd vc vo g := Or.inr (Or.inr (Or.inr (Or.inl hgo)))
      have s1 := h.setCh hv hc (i := 2) (by decide) (c' := { c with rests := yes }) (u := .bool yes) rfl
      have FI := hide (And.intro s1 ((Frm.refl (RefF b vl vd vc vo) w).setCell (p := ⟨g, i * 4 + 2, none⟩) hF (.bool yes)))
      clear ci h ok e1 e2 hcell hfz hcap hv hc hr s1 hgo hF hk
      go_enter Tryz.func113, Tryz.ntmps113
      go_wp2_with fail
      refine (CI.out).mono ?_
      rintro e w1 ⟨rfl, hw⟩
      have hw' := hw.symm
      subst hw'
      go_wp2_with fail
      go_ret
      exact ⟨rfl, (FI.out).1, (FI.out).2⟩

set_option maxRecDepth 100000 in
theorem rPause_any (b : Nat) (R : RSt) (vl vd vc vo : Value) (k : Int) (w : World) (h : RefAt w b R vl vd vc vo) (ok : R.Ok) :
    Calls Tryz.prog 84 #[.pointer (some ⟨b, 0, none⟩), I k] w fun e w' => e = .returned (I (restsErr R k true)) ∧ RefAt w' b (restsR R k true) vl vd vc vo ∧ Frm (RefF b vl vd vc vo) w w' := by
  have C := hide (rrests_any b R vl vd vc vo k true w h ok)
  clear h ok
  go_enter Tryz.func84, Tryz.ntmps84
  go_wp2_with fail
  refine (C.out).mono ?_
  rintro e w1 ⟨rfl, h1, h2⟩
  have F := hide (And.intro h1 h2)
  clear h1 h2
  go_wp2_with fail
  go_ret
  exact ⟨rfl, (F.out).1, (F.out).2⟩

set_option maxRecDepth 100000 in
theorem rResume_any (b : Nat) (R : RSt) (vl vd vc vo : Value) (k : Int) (w : World) (h : RefAt w b R vl vd vc vo) (ok : R.Ok) :
    Calls Tryz.prog 85 #[.pointer (some ⟨b, 0, none⟩), I k] w fun e w' => e = .returned (I (restsErr R k false)) ∧ RefAt w' b (restsR R k false) vl vd vc vo ∧ Frm (RefF b vl vd vc vo) w w' := by
  have C := hide (rrests_any b R vl vd vc vo k false w h ok)
  clear h ok
  go_enter Tryz.func85, Tryz.ntmps85
  go_wp2_with fail
  refine (C.out).mono ?_
  rintro e w1 ⟨rfl, h1, h2⟩
  have F := hide (And.intro h1 h2)
  clear h1 h2
  go_wp2_with fail
  go_ret
  exact ⟨rfl, (F.out).1, (F.out).2⟩

end Go.Proofs.YtpilmkipbbengaaGreatDoor

/- The document's pump: Demand. -/
namespace Go.Proofs.YtpilmkipbbengaaGreatDoor
open Go.RowKit

set_option maxRecDepth 100000 in
set_option maxHeartbeats 1600000 in
theorem rDemand_no (b : Nat) (R : RSt) (vl vd vc vo : Value) (k a : Int) (w : World) (h : RefAt w b R vl vd vc vo) (hb : demandBad R k a = true) :
    Calls Tryz.prog 83 #[.pointer (some ⟨b, 0, none⟩), I k, I a] w fun e w' => e = .returned (.tuple #[I 0, I 1]) ∧ w' = w := by
  have ci := ris_any b R vl vd vc vo k w h
  change Calls Tryz.prog 110 _ w fun e w' => e = .returned (.bool (isCh R k)) ∧ w' = w at ci
  have CI := hide ci
  clear ci h
  rcases demandBad_cases hb with h1 | ⟨h1, h2⟩ | ⟨h1, h2, h3⟩
  all_goals clear hb
  all_goals rw [h1] at CI
  all_goals go_enter Tryz.func83, Tryz.ntmps83
  all_goals go_wp2_with fail
  all_goals refine (CI.out).mono ?_
  all_goals rintro e w1 ⟨rfl, hw⟩
  all_goals subst hw
  all_goals go_wp2_with fail
  all_goals go_ret2
  all_goals exact ⟨rfl, rfl⟩

set_option maxRecDepth 100000 in
set_option maxHeartbeats 3200000 in
theorem rDemand_on (b : Nat) (R : RSt) (vl vd vc vo : Value) (k a : Int) (w : World) (h : RefAt w b R vl vd vc vo) (ok : R.Ok) (hb : demandBad R k a = false) (hos : R.os.length ≤ 1000000) :
    Calls Tryz.prog 83 #[.pointer (some ⟨b, 0, none⟩), I k, I a] w fun e w' => e = .returned (.tuple #[I (demandN R k a), I (demandErr R k a)]) ∧
      ∃ vo', RefAt w' b (demandR R k a) vl vd vc vo' ∧ Frm (RefF b vl vd vc vo) w w' ∧ ∀ x, RefF b vl vd vc vo' x → RefF b vl vd vc vo x ∨ w.heap.size ≤ x := by
  have ci := ris_any b R vl vd vc vo k w h
  change Calls Tryz.prog 110 _ w fun e w' => e = .returned (.bool (isCh R k)) ∧ w' = w at ci
  obtain ⟨h1, h2, h3, hob⟩ := demandGood hb
  rw [h1] at ci
  obtain ⟨k0, k1⟩ := isCh_true h1
  obtain ⟨i, rfl⟩ := Int.eq_ofNat_of_zero_le k0
  have hil : i < R.chs.length := by omega
  obtain ⟨c, hc⟩ : ∃ c, R.chs[i]? = some c := ⟨_, List.getElem?_eq_getElem hil⟩
  obtain ⟨g, cap, hv, hcap, hcell, hfz⟩ := row_at h.chs (fun _ => rfl) hc (by decide)
  have d3 := hcell 3 (by decide)
  simp [chC] at d3
  have c5 : w.cell? ⟨b, 5, none⟩ = some (.slice (some ⟨g, 0, none⟩) R.chs.length cap) := by rw [h.head.cell, ← hv]; rfl
  have c3 : w.cell? ⟨b, 3, none⟩ = some (I R.now) := by rw [h.head.cell]; rfl
  have c2 : w.cell? ⟨b, 2, none⟩ = some (I R.lock) := by rw [h.head.cell]; rfl
  have hnc := ok.nc1
  have n0 := ok.now0
  have n1 := ok.now1
  have hch := ok.chs c (List.mem_of_getElem? hc)
  obtain ⟨-, -, -, -, a0, a1⟩ := hch
  have ws : IntKind.i64.wrap (R.now - c.asked) = R.now - c.asked := wrap_id _ (by omega) (by omega)
  have hlb : lockedB R i = (decide (0 ≤ c.asked) && decide (R.now - c.asked < R.lock)) := by simp [lockedB, hc]
  have hbf := hb
  have CI := hide ci
  have H := hide (And.intro h (And.intro ok (And.intro hv (And.intro hc (And.intro hob (And.intro hbf hlb))))))
  clear ci hcell hfz hcap h ok hv hc hob hb hbf hlb
  by_cases q : 0 ≤ c.asked ∧ R.now - c.asked < R.lock
  · obtain ⟨qa, qb⟩ := q
    have e1 : demandErr R i a = 4 := by
      have := (H.out).2.2.2.2.2
      rw [demandErr, this.1, Int.toNat_natCast, this.2]
      simp [qa, qb]
    have e2 : demandN R i a = 0 := by simp [demandN, e1]
    have e3 : demandR R i a = R := by simp [demandR, e1]
    rw [e1, e2, e3]
    clear e1 e2 e3
    go_enter Tryz.func83, Tryz.ntmps83
    go_wp2_with fail
    refine (CI.out).mono ?_
    rintro e w1 ⟨rfl, hw⟩
    have hw' := hw.symm
    subst hw'
    go_wp2_with fail
    go_quiet (fail)
    go_wp2_with fail
    go_ret2
    exact ⟨rfl, vo, (H.out).1.keep ((Frm.refl _ _).drewN _), (Frm.refl _ _).drewN _, fun x hx => Or.inl hx⟩
  · have hl2 : (decide (0 ≤ c.asked) && decide (R.now - c.asked < R.lock)) = false := by
      by_cases q1 : 0 ≤ c.asked
      · have : ¬ R.now - c.asked < R.lock := fun e => q ⟨q1, e⟩
        simp [this]
      · simp [q1]
    have ORD : Hid (∀ W : World, Keep w W → Calls Tryz.prog 82 #[.pointer (some ⟨b, 0, none⟩), I i, I a, I 0, I 1] W fun e w' =>
        (8 ≤ nov R.now R.os ∧ e = .returned (.tuple #[I 0, I 2]) ∧ RefAt w' b R vl vd vc vo ∧ Keep w w') ∨
        (nov R.now R.os < 8 ∧ e = .returned (.tuple #[I ((R.os.length : Int) + 1), I 0]) ∧ w'.cell? ⟨b, 3, none⟩ = some (I R.now) ∧ w'.cell? ⟨b, 5, none⟩ = some (.slice (some ⟨g, 0, none⟩) R.chs.length cap) ∧ (∃ u, w'.cell? ⟨g, i * 4 + 3, none⟩ = some u) ∧ w'.frozen? ⟨g, i * 4 + 3, none⟩ = false ∧ b ≠ g ∧
          ∃ vo', RefAt (w'.setCell ⟨g, i * 4 + 3, none⟩ (I R.now)) b (demandR R i a) vl vd vc vo' ∧ Frm (RefF b vl vd vc vo) w (w'.setCell ⟨g, i * 4 + 3, none⟩ (I R.now)) ∧ ∀ x, RefF b vl vd vc vo' x → RefF b vl vd vc vo x ∨ w.heap.size ≤ x)) := by
      intro W kW
      obtain ⟨h, ok, hv, hc, hob, hbf, hlb⟩ := H.out
      by_cases hm : 8 ≤ nov R.now R.os
      · refine (rOrder_many b R vl vd vc vo i a 0 1 W (h.keep kW) ok hob hm).mono ?_
        rintro e w' ⟨rfl, n, rfl⟩
        exact Or.inl ⟨hm, rfl, (h.keep kW).keep ((Frm.refl _ _).drewN n), kW.drewN n⟩
      · refine (rOrder_yes b R vl vd vc vo i a 0 1 W (h.keep kW) ok hob (by omega) hos).mono ?_
        rintro e w' ⟨rfl, vo', hr, hf, hx⟩
        obtain ⟨g', cap', hv', -, hcell', hfz'⟩ := row_at hr.chs (fun _ => rfl) (show ({ R with os := R.os ++ [⟨(i : Int), R.now + 0, R.now + 0 + 1, a⟩] } : RSt).chs[i]? = some c from hc) (by decide)
        have hvv := hv'
        rw [hv] at hvv
        injection hvv with v1 v2 v3
        injection v1 with v1
        injection v1 with v1
        subst v1
        have hgo : vc.ownBlock = some g := by rw [hv]; rfl
        have hF : RefF b vl vd vc vo g := Or.inr (Or.inr (Or.inr (Or.inl hgo)))
        have s1 := hr.setCh hv' hc (i := 3) (by decide) (c' := { c with asked := R.now }) (u := I R.now) rfl
        have er : demandErr R i a = 0 := by
          rw [demandErr, hbf, Int.toNat_natCast, hlb, hl2]; simp; omega
        have eo : orderErr R i a 0 1 = 0 := by rw [orderErr, hob]; simp; omega
        have ed : demandR R i a = { ({ R with os := R.os ++ [⟨(i : Int), R.now + 0, R.now + 0 + 1, a⟩] } : RSt) with chs := R.chs.set i { c with asked := R.now } } := by
          rw [demandR, if_pos er, Int.toNat_natCast, orderR, if_pos eo]
          simp [askedR, hc]
        refine Or.inr ⟨by omega, rfl, by rw [hr.head.cell]; rfl, by rw [hr.head.cell, hv]; rfl, ⟨_, hcell' 3 (by decide)⟩, hfz' _, fun e => h.sep.bc (by rw [hgo, e]), vo', by rw [ed]; exact s1, ?_, ?_⟩
        · exact ((kW.mono fun _ _ e => e.elim).trans hf).setCell (p := ⟨g, i * 4 + 3, none⟩) hF _
        · intro x hx'
          rcases hx x hx' with e | e
          · exact Or.inl e
          · exact Or.inr (Nat.le_trans kW.size e)
    have er : demandErr R i a = (if 8 ≤ nov R.now R.os then 2 else 0) := by
      rw [demandErr, (H.out).2.2.2.2.2.1, Int.toNat_natCast, (H.out).2.2.2.2.2.2, hl2]; simp
    have ER := hide er
    clear er hl2
    by_cases q1 : 0 ≤ c.asked
    · have qb : ¬ R.now - c.asked < R.lock := fun e => q ⟨q1, e⟩
      have qb' : decide (R.now - c.asked < R.lock) = false := by simpa using qb
      go_enter Tryz.func83, Tryz.ntmps83
      go_wp2_with fail
      refine (CI.out).mono ?_
      rintro e w1 ⟨rfl, hw⟩
      have hw' := hw.symm
      subst hw'
      go_wp2_with fail
      go_quiet (fail)
      go_wp2_with fail
      refine (ORD.out _ ((Frm.refl _ _).drewN _)).mono ?_
      intro e w2 hh
      rcases hh with ⟨hm, rfl, hr, hk⟩ | ⟨hm, rfl, z3, z5, ⟨u, zu⟩, zf, zne, fin⟩
      · have FI := hide (And.intro hr hk)
        have HM := hide hm
        clear hr hk hm
        go_wp2_with fail
        go_ret2
        have e1 : demandErr R i a = 2 := by rw [ER.out, if_pos HM.out]
        have e2 : demandN R i a = 0 := by simp [demandN, e1]
        have e3 : demandR R i a = R := by simp [demandR, e1]
        rw [e1, e2, e3]
        exact ⟨rfl, vo, (FI.out).1, (FI.out).2.mono (fun _ _ e => e.elim), fun x hx => Or.inl hx⟩
      · have FI := hide fin
        have HM := hide hm
        clear fin hm
        go_wp2_with fail
        go_region
        go_wp2_with fail
        go_ret2
        have e1 : demandErr R i a = 0 := by rw [ER.out, if_neg (by have := HM.out; omega)]
        have e2 : demandN R i a = (R.os.length : Int) + 1 := by simp [demandN, e1]
        rw [e1, e2]
        obtain ⟨vo', r1, r2, r3⟩ := FI.out
        exact ⟨rfl, vo', r1.drew, r2.drew, r3⟩
    · have q1' : decide (0 ≤ c.asked) = false := by simpa using q1
      go_enter Tryz.func83, Tryz.ntmps83
      go_wp2_with fail
      refine (CI.out).mono ?_
      rintro e w1 ⟨rfl, hw⟩
      have hw' := hw.symm
      subst hw'
      go_wp2_with fail
      go_quiet (fail)
      go_wp2_with fail
      refine (ORD.out _ ((Frm.refl _ _).drewN _)).mono ?_
      intro e w2 hh
      rcases hh with ⟨hm, rfl, hr, hk⟩ | ⟨hm, rfl, z3, z5, ⟨u, zu⟩, zf, zne, fin⟩
      · have FI := hide (And.intro hr hk)
        have HM := hide hm
        clear hr hk hm
        go_wp2_with fail
        go_ret2
        have e1 : demandErr R i a = 2 := by rw [ER.out, if_pos HM.out]
        have e2 : demandN R i a = 0 := by simp [demandN, e1]
        have e3 : demandR R i a = R := by simp [demandR, e1]
        rw [e1, e2, e3]
        exact ⟨rfl, vo, (FI.out).1, (FI.out).2.mono (fun _ _ e => e.elim), fun x hx => Or.inl hx⟩
      · have FI := hide fin
        have HM := hide hm
        clear fin hm
        go_wp2_with fail
        go_region
        go_wp2_with fail
        go_ret2
        have e1 : demandErr R i a = 0 := by rw [ER.out, if_neg (by have := HM.out; omega)]
        have e2 : demandN R i a = (R.os.length : Int) + 1 := by simp [demandN, e1]
        rw [e1, e2]
        obtain ⟨vo', r1, r2, r3⟩ := FI.out
        exact ⟨rfl, vo', r1.drew, r2.drew, r3⟩

end Go.Proofs.YtpilmkipbbengaaGreatDoor

/- What the law asks of a pump besides: orders, demands, rests. -/
namespace Go.Proofs.YtpilmkipbbengaaGreatDoor
open Go.RowKit

theorem ref_orderly : Orderly 82 83 80 84 85 ra where
  order := by
    rintro k a d t w F b R hra ok full
    obtain ⟨vl, vd, vc, vo, h, hF⟩ := id hra
    have hos := full_os ok full
    cases hb : orderBad R k a d t with
    | true =>
      have e1 : orderErr R k a d t = 1 := by simp [orderErr, hb]
      have e2 : orderN R k a d t = 0 := by simp [orderN, e1]
      have e3 : orderR R k a d t = R := by simp [orderR, e1]
      rw [e1, e2, e3]
      refine (rOrder_no b R vl vd vc vo k a d t w h hb).mono ?_
      rintro e w' ⟨rfl, rfl⟩
      exact ⟨rfl, ra_keep hra (Frm.refl _ _)⟩
    | false =>
      by_cases hm : 8 ≤ nov R.now R.os
      · have e1 : orderErr R k a d t = 2 := by simp [orderErr, hb, hm]
        have e2 : orderN R k a d t = 0 := by simp [orderN, e1]
        have e3 : orderR R k a d t = R := by simp [orderR, e1]
        rw [e1, e2, e3]
        refine (rOrder_many b R vl vd vc vo k a d t w h ok hb hm).mono ?_
        rintro e w' ⟨rfl, n, rfl⟩
        exact ⟨rfl, ra_keep hra ((Frm.refl _ _).drewN n)⟩
      · have e1 : orderErr R k a d t = 0 := by simp [orderErr, hb]; omega
        have e2 : orderN R k a d t = (R.os.length : Int) + 1 := by simp [orderN, e1]
        have e3 : orderR R k a d t = { R with os := R.os ++ [⟨k, R.now + d, R.now + d + t, a⟩] } := by simp [orderR, e1]
        rw [e1, e2, e3]
        refine (rOrder_yes b R vl vd vc vo k a d t w h ok hb (by omega) (by omega)).mono ?_
        rintro e w' ⟨rfl, vo', h1, h2, h3⟩
        subst hF
        exact ⟨rfl, h2, _, ⟨vl, vd, vc, vo', h1, rfl⟩, h3⟩
  demand := by
    rintro k a w F b R hra ok full
    obtain ⟨vl, vd, vc, vo, h, hF⟩ := id hra
    have hos := full_os ok full
    cases hb : demandBad R k a with
    | true =>
      have e1 : demandErr R k a = 1 := by simp [demandErr, hb]
      have e2 : demandN R k a = 0 := by simp [demandN, e1]
      have e3 : demandR R k a = R := by simp [demandR, e1]
      rw [e1, e2, e3]
      refine (rDemand_no b R vl vd vc vo k a w h hb).mono ?_
      rintro e w' ⟨rfl, rfl⟩
      exact ⟨rfl, ra_keep hra (Frm.refl _ _)⟩
    | false =>
      refine (rDemand_on b R vl vd vc vo k a w h ok hb (by omega)).mono ?_
      rintro e w' ⟨rfl, vo', h1, h2, h3⟩
      subst hF
      exact ⟨rfl, h2, _, ⟨vl, vd, vc, vo', h1, rfl⟩, h3⟩
  rest := by
    rintro j w F b R hra ok full
    obtain ⟨vl, vd, vc, vo, h, hF⟩ := id hra
    refine (rRest_any b R vl vd vc vo j w h ok).mono ?_
    rintro e w' ⟨rfl, n, rfl⟩
    exact ⟨rfl, ra_keep hra ((Frm.refl _ _).drewN n)⟩
  pause := by
    rintro k w F b R hra ok full
    obtain ⟨vl, vd, vc, vo, h, hF⟩ := id hra
    refine (rPause_any b R vl vd vc vo k w h ok).mono ?_
    rintro e w' ⟨rfl, h1, h2⟩
    subst hF
    exact ⟨rfl, h2, _, ⟨vl, vd, vc, vo, h1, rfl⟩, fun x hx => Or.inl hx⟩
  resume := by
    rintro k w F b R hra ok full
    obtain ⟨vl, vd, vc, vo, h, hF⟩ := id hra
    refine (rResume_any b R vl vd vc vo k w h ok).mono ?_
    rintro e w' ⟨rfl, h1, h2⟩
    subst hF
    exact ⟨rfl, h2, _, ⟨vl, vd, vc, vo, h1, rfl⟩, fun x hx => Or.inl hx⟩

end Go.Proofs.YtpilmkipbbengaaGreatDoor
