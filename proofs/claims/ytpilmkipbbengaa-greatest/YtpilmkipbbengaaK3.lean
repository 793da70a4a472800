/- ticks. -/
import Derived.Test.YtpilmkipbbengaaK2
namespace Go.Proofs.Ytpilmkipbbengaa
open Go.RowKit

set_option maxRecDepth 100000 in
set_option maxHeartbeats 3200000 in
theorem kticks_many {fNew fBasal fRoom fWait : FuncId} {pa : Rep} (P : Pumpy fNew fBasal 19 fRoom fWait pa) (B : Nat → Prop) (rb pb : Nat) (F : Nat → Prop) (R : RSt) (vl vd : Value) (n : Nat) (w : World) (h : KAt pa B w rb pb F R vl vd) (ok : KOk R) (hB : ∀ x, w.heap.size ≤ x → B x) (n1 : 1 ≤ n) (n2 : n ≤ 100) (hm : 400 < R.now + n) :
    Calls Try.prog 11 #[.pointer (some ⟨rb, 0, none⟩), I n] w fun e w' => e = .returned (.bool true) ∧ KGo pa B w w' rb R := by
  have e1 : runErr R n = 2 := by rw [runErr, if_neg (by omega), if_pos hm]
  have hd := h.rd.head
  have c0 : w.cell? ⟨rb, 0, none⟩ = some (.pointer (some ⟨pb, 0, none⟩)) := by rw [hd.cell]; rfl
  have RUN : Hid (Calls Try.prog 19 #[.pointer (some ⟨pb, 0, none⟩), I n] w fun e w1 => ∃ a c, e = .returned (.tuple #[.slice a 0 c, I 2]) ∧ w1.cell? ⟨rb, 5, none⟩ = some (I R.now) ∧ Hid (KGo pa B w w1 rb R)) := by
    refine (P.run n w F pb R h.pump ok.ok ok.full).mono ?_
    rintro e w1 ⟨vout, rfl, hrow, f1, F', p1, F1, -⟩
    have e2 : runDs R n = [] := by simp [runDs, e1]
    have e3 : runR R n = R := by simp [runR, e1]
    rw [e2] at hrow
    rw [e3] at p1
    obtain ⟨a, c, rfl⟩ := row_slice hrow
    have hk := h.moved f1
    have hb : rb < w.heap.size := h.rd.head.lt
    refine ⟨a, c, by rw [e1]; rfl, by rw [hk.head.cell]; rfl, f1.mono fun x _ e => h.lf x e, pb, F', vl, vd, hk, p1, ?_, ?_, ?_, h.lb, ?_, h.ld⟩
    · intro e
      rcases F1 rb e with q | q
      · exact h.fr q
      · omega
    · intro x hx e
      rcases F1 x hx with q | q
      · exact h.fd x q e
      · have := (h.rd.row.lt x e).2; omega
    · intro x hx e
      rcases F1 x hx with q | q
      · exact h.fl x q e
      · have := (h.rd.lims.lt x e).2; omega
    · intro x hx
      rcases F1 x hx with q | q
      · exact h.lf x q
      · exact hB x q
  have n0 := ok.ok.now0
  have n3 := ok.ok.now1
  clear h ok hd
  go_enter Try.func11, Try.ntmps11
  go_wp2_with fail
  refine (RUN.out).mono ?_
  rintro e w1 ⟨a, c, rfl, c5, G⟩
  go_wp2_with fail
  go_ret
  exact ⟨rfl, G.out⟩

set_option maxRecDepth 100000 in
set_option maxHeartbeats 3200000 in
theorem kticks_yes {fNew fBasal fRoom fWait : FuncId} {pa : Rep} (P : Pumpy fNew fBasal 19 fRoom fWait pa) (B : Nat → Prop) (rb pb : Nat) (F : Nat → Prop) (R : RSt) (vl vd : Value) (n : Nat) (w : World) (h : KAt pa B w rb pb F R vl vd) (ok : KOk R) (hB : ∀ x, w.heap.size ≤ x → B x) (n1 : 1 ≤ n) (n2 : n ≤ 100) (hm : R.now + n ≤ 400) :
    Calls Try.prog 11 #[.pointer (some ⟨rb, 0, none⟩), I n] w fun e w' => e = .returned (.bool true) ∧ KGo pa B w w' rb (rticks n R) := by
  obtain ⟨i, hi, hz0, hz1, hz2⟩ := info_parts infoD
  have e1 : runErr R n = 0 := by rw [runErr, if_neg (by omega), if_neg (by omega)]
  have hd := h.rd.head
  have c0 : w.cell? ⟨rb, 0, none⟩ = some (.pointer (some ⟨pb, 0, none⟩)) := by rw [hd.cell]; rfl
  have okn := runs_ok ok n hm
  have hlen : (rticks n R).doses.length ≤ 2000 := okn.ok.nd
  have hpre := rticks_pre n R
  obtain ⟨s1, s2, s3, s4, -⟩ := rticks_same n R
  have RUN : Hid (Calls Try.prog 19 #[.pointer (some ⟨pb, 0, none⟩), I n] w fun e w1 => ∃ a c, e = .returned (.tuple #[.slice a ((rticks n R).doses.drop R.doses.length).length c, I 0]) ∧ w1.cell? ⟨rb, 5, none⟩ = some (I R.now) ∧ rb < w1.heap.size ∧ Hid (KRd w1 rb (kv pb vl vd R) ∧ w1.ownsRow 0 52 3 (.slice a ((rticks n R).doses.drop R.doses.length).length c) ((rticks n R).doses.drop R.doses.length).length (((rticks n R).doses.drop R.doses.length).flatMap dsC) ∧
      ∀ (wr w3 : World) (v' : Value), Keep w1 wr → w3.ownsRow 0 52 3 v' (R.doses.length + ((rticks n R).doses.drop R.doses.length).length) (R.doses.flatMap dsC ++ ((rticks n R).doses.drop R.doses.length).flatMap dsC) → wr.grownBy w3 vd.ownBlock → (v'.ownBlock = vd.ownBlock ∨ (v'.ownBlock = some wr.heap.size ∧ wr.grownBy w3 none)) → KGo pa B w ((w3.setCell ⟨rb, 4, none⟩ v').setCell ⟨rb, 5, none⟩ (I (rticks n R).now)) rb (rticks n R))) := by
    refine (P.run n w F pb R h.pump ok.ok ok.full).mono ?_
    rintro e w1 ⟨vout, rfl, hrow, f1, F', p1, F1, -⟩
    have e2 : runDs R n = (rticks n R).doses.drop R.doses.length := by simp [runDs, e1]
    have e3 : runR R n = rticks n R := by simp [runR, e1]
    rw [e2] at hrow
    rw [e3] at p1
    obtain ⟨a, c, rfl⟩ := row_slice hrow
    have hk := h.moved f1
    refine ⟨a, c, by rw [e1], by rw [hk.head.cell]; rfl, hk.head.lt, hk, hrow, ?_⟩
    intro wr w3 v' kr hown hg hnew
    exact h.ticked P.frm P.lt hB f1 p1 F1 kr (ds_join hpre).symm s2 s4 s1 hown hg hnew
  have H := hide (And.intro ok (And.intro hm hpre))
  have n0 := ok.ok.now0
  have n3 := ok.ok.now1
  have w5 : IntKind.i64.wrap (R.now + n) = R.now + n := wrap_id _ (by omega) (by omega)
  have hxl : ((rticks n R).doses.drop R.doses.length).length ≤ 2000 := by simp; omega
  have hdl : R.doses.length ≤ 2000 := ok.ok.nd
  clear h ok hd okn hlen hpre s1 s2 s4
  go_enter Try.func11, Try.ntmps11
  go_wp2_with fail
  refine (RUN.out).mono ?_
  rintro e w1 ⟨a, c, rfl, c5, lr, G⟩
  generalize hxs : (rticks n R).doses.drop R.doses.length = xs at *
  have HX := hide hxs
  clear hxs RUN c0
  go_wp2_with fail
  go_loopg [8, 9] xs.length (fun q i _ wr => ∃ j : Nat, q + j = xs.length ∧ i = I j ∧ Hid (Keep w1 wr ∧ Blk wr w1.heap.size #[I (lastD R.now xs j).tick, I (lastD R.now xs j).ch, I (lastD R.now xs j).amt] 52))
  case atStart => exact ⟨0, by omega, rfl, (Frm.refl _ _).alloc _, Blk.new _ _ _⟩
  case round =>
    obtain ⟨j, hq, rfl, hk⟩ := hrel
    obtain ⟨kw, bl⟩ := hk.out
    have hK := (G.out).1.keep kw
    have x5 : wr.cell? ⟨rb, 5, none⟩ = some (I R.now) := by rw [hK.head.cell]; rfl
    by_cases hj : j < xs.length
    · obtain ⟨d, hd⟩ : ∃ d, xs[j]? = some d := ⟨_, List.getElem?_eq_getElem hj⟩
      have hrow := row_frm (G.out).2.1 kw (fun _ _ e => e)
      obtain ⟨g, cap, hv, -, hcell, -⟩ := row_at hrow (fun _ => rfl) hd (by decide)
      injection hv with hv1 hv2 hv3
      subst hv1
      have d0 := hcell 0 (by decide)
      have d1 := hcell 1 (by decide)
      have d2 := hcell 2 (by decide)
      simp [dsC] at d0 d1 d2
      have hdd : ((rticks n R).doses.drop R.doses.length)[j]? = some d := by rw [HX.out]; exact hd
      have lastb := last_before (H.out).1 n (H.out).2.1 hdd
      rw [HX.out] at lastb
      obtain ⟨q1, q2, q3, k, ch, q4, q5, q6⟩ := (rticks_told (H.out).1.ok (H.out).1.full (H.out).1.told n (H.out).2.1).2 d (List.mem_of_getElem? hdd)
      have hk3 : k < 3 := by
        have := (List.getElem?_eq_some_iff.1 q5).1
        have := (H.out).1.nch
        omega
      have hr : wr.cell? ⟨rb, 6 + k, none⟩ = some (.bool false) := by
        have hc : rst R k = false := by rw [rst_of q5]; exact q6
        rw [hK.head.cell]
        have : k = 0 ∨ k = 1 ∨ k = 2 := by omega
        rcases this with rfl | rfl | rfl
        · show some (Value.bool (rst R 0)) = _; rw [hc]
        · show some (Value.bool (rst R 1)) = _; rw [hc]
        · show some (Value.bool (rst R 2)) = _; rw [hc]
      have m0 : wr.cell? ⟨w1.heap.size, 0, none⟩ = some (I (lastD R.now xs j).tick) := by rw [bl.cell]; rfl
      have m1 : wr.cell? ⟨w1.heap.size, 1, none⟩ = some (I (lastD R.now xs j).ch) := by rw [bl.cell]; rfl
      have ml := bl.lt
      have lr2 := hK.head.lt
      have lg := (hrow.lt g rfl).2
      have m2 : wr.cell? ⟨w1.heap.size, 2, none⟩ = some (I (lastD R.now xs j).amt) := by rw [bl.cell]; rfl
      have fz0 : wr.frozen? ⟨w1.heap.size, 0, none⟩ = false := bl.frozen 0
      have fz1 : wr.frozen? ⟨w1.heap.size, 1, none⟩ = false := bl.frozen 1
      have fz2 : wr.frozen? ⟨w1.heap.size, 2, none⟩ = false := bl.frozen 2
      rw [q4] at d1 lastb
      have hlt : (lastD R.now xs (j + 1)) = d := by simp [lastD, hd]
      have NX := hide (And.intro hq (And.intro kw (And.intro bl hlt)))
      obtain ⟨lb1, lb2⟩ := lastb
      have f1 : decide (d.tick < (lastD R.now xs j).tick) = false := decide_eq_false (by omega)
      have f3 : decide (R.now + (n : Int) ≤ d.tick) = false := decide_eq_false (by omega)
      have f4 : decide ((k : Int) < 0) = false := decide_eq_false (by omega)
      have f5 : decide (3 ≤ (k : Int)) = false := decide_eq_false (by omega)
      have f6 : decide (d.amt < 1) = false := decide_eq_false (by omega)
      have f2 : (lastD R.now xs j).tick = d.tick → decide ((k : Int) ≤ (lastD R.now xs j).ch) = false := fun e => decide_eq_false (by have := lb2 e; omega)
      have d1' : wr.cell? ⟨g, j * 3 + 1, none⟩ = some (I (k : Int)) := d1
      have KT : Hid (∀ (wz : World) (m : Nat), wz = (((((wr.alloc (.cells #[I d.tick, I k, I d.amt] 52)).drewN m).setCell ⟨w1.heap.size, 0, none⟩ (I d.tick)).setCell ⟨w1.heap.size, 1, none⟩ (I k)).setCell ⟨w1.heap.size, 2, none⟩ (I d.amt)) → ∃ j' : Nat, gk - 1 + j' = xs.length ∧ I ((j : Int) + 1) = I j' ∧ Hid (Keep w1 wz ∧ Blk wz w1.heap.size #[I (lastD R.now xs j').tick, I (lastD R.now xs j').ch, I (lastD R.now xs j').amt] 52)) := by
        intro wz m hw
        refine ⟨j + 1, by omega, by simp, ?_, ?_⟩
        · rw [hw]
          exact ((((kw.alloc _).drewN m).setNew (p := ⟨w1.heap.size, 0, none⟩) (Nat.le_refl _) _).setNew (p := ⟨w1.heap.size, 1, none⟩) (Nat.le_refl _) _).setNew (p := ⟨w1.heap.size, 2, none⟩) (Nat.le_refl _) _
        · rw [hlt, hw, q4]
          have := ((((bl.alloc (.cells #[I d.tick, I k, I d.amt] 52)).drewN m).set 0 (I d.tick)).set 1 (I k)).set 2 (I d.amt)
          simpa using this
      clear hk kw bl hK hrow hcell hv2 hv3 hdd hd hlt q1 q2 q3 q5 q6 lb1 lb2 G HX H hq
      generalize lastD R.now xs j = L at *
      by_cases he : L.tick = d.tick
      · have f2' := f2 he
        rw [he] at m0 f1
        clear f2
        go_wp2_with fail
        go_quiet (fail)
        go_wp2_with fail
        go_roundg (gk - 1)
        case measure => have := (NX.out).1; omega
        case rel => exact KT.out _ _ rfl
      · have f7 : (d.tick == L.tick) = false := by simpa using fun e => he e.symm
        clear f2
        go_wp2_with fail
        go_quiet (fail)
        go_wp2_with fail
        go_roundg (gk - 1)
        case measure => have := (NX.out).1; omega
        case rel => exact KT.out _ _ rfl
    · have hje : j = xs.length := by omega
      obtain ⟨ad, cpd, hvd⟩ := row_slice hK.row
      have hvd' : vd = .slice ad R.doses.length cpd := hvd
      have x4 : wr.cell? ⟨rb, 4, none⟩ = some (.slice ad R.doses.length cpd) := by rw [hK.head.cell, ← hvd']; rfl
      have lr2 := hK.head.lt
      have hbd : Blk wr rb (kv pb vl vd R).cells 39 := hK.head
      have hne : (Value.slice ad R.doses.length cpd).ownBlock ≠ some rb := by rw [← hvd']; exact hK.sd
      have hr1 : wr.ownsRow 0 52 3 (.slice ad R.doses.length cpd) R.doses.length (R.doses.flatMap dsC) := by rw [← hvd']; exact hK.row
      have hr2 := row_frm (G.out).2.1 kw (fun _ _ e => e)
      have FIN : Hid (∀ (w3 : World) (v' : Value), w3.ownsRow 0 52 3 v' (R.doses.length + xs.length) (R.doses.flatMap dsC ++ xs.flatMap dsC) → wr.grownBy w3 (Value.slice ad R.doses.length cpd).ownBlock → (v'.ownBlock = (Value.slice ad R.doses.length cpd).ownBlock ∨ (v'.ownBlock = some wr.heap.size ∧ wr.grownBy w3 none)) → w3.cell? ⟨rb, 4, none⟩ = some (.slice ad R.doses.length cpd) ∧ w3.cell? ⟨rb, 5, none⟩ = some (I R.now) ∧ w3.frozen? ⟨rb, 4, none⟩ = false ∧ w3.frozen? ⟨rb, 5, none⟩ = false ∧ rb < w3.heap.size ∧ Hid (KGo pa B w ((w3.setCell ⟨rb, 4, none⟩ v').setCell ⟨rb, 5, none⟩ (I (R.now + n))) rb (rticks n R))) := by
        intro w3 v' hown hg hnew
        have b3 := hbd.frm (grown_frm hg) (fun e => hne e)
        rw [← hvd'] at hg hnew
        refine ⟨by rw [b3.cell, ← hvd']; rfl, by rw [b3.cell]; rfl, b3.frozen 4, b3.frozen 5, b3.lt, ?_⟩
        rw [← s3]
        exact (G.out).2.2 wr w3 v' kw hown hg hnew
      have ROWS := hide (And.intro hr1 hr2)
      clear hk kw bl hK hvd hvd' hbd hne hr1 hr2 hq hje G HX H
      go_wp2_with (at_builtin; refine wpList_append_rows _ rfl (.tmp 107) (.tmp 108) 36 rfl 52 i (.agg #[I 0, I 0, I 0]) 3 24 Try.underlying36 hi hz0 hz1 hz2 rfl (by decide) _ _ _ rfl (ROWS.out).1 _ _ _ rfl (ROWS.out).2 (dsC_one _) (by unfold maxLen; omega) (by omega) ?_; intro v' w3 hown hg hnew; obtain ⟨a5, cp5, hv5⟩ := row_slice hown; subst hv5; obtain ⟨y4, y5, z4, z5, l3, GO⟩ := FIN.out w3 _ hown hg hnew; clear hown hg hnew)
      go_ret
      exact ⟨rfl, GO.out⟩

end Go.Proofs.Ytpilmkipbbengaa
