/- take. -/
import Derived.Test.YtpilmkipbbengaaGreatDoorOtake2
namespace Go.Proofs.YtpilmkipbbengaaGreatDoor
open Go.RowKit

set_option maxRecDepth 100000 in
set_option maxHeartbeats 3200000 in
theorem take_call (b : Nat) (D : GSt) (vc vw : Value) (ods : List OrdD) (R : RSt) (k : Nat) (a d t : Int) (w : World) (h : PAt w b D vc vw ods) (rel : ORel D ods R) (ok : R.Ok) (full : R.Full) (hk : k < D.chs.length) (_a0 : 1 ≤ a) (_a1 : a ≤ 1000) (d0 : 0 ≤ d) (d1 : d ≤ 400) (t0 : 1 ≤ t) (t1 : t ≤ 400) :
    Calls Tryz.prog 67 #[ptr b 0, I k, I a, I d, I t] w fun e w' => e = .returned (I ((ods.length : Int) + 1)) ∧ Goes w b D vc vw ods { R with os := R.os ++ [⟨k, R.now + d, R.now + d + t, a⟩] } w' := by
  have hol : ods.length ≤ 3208 := by
    have q1 := congrArg List.length rel.os
    simp only [List.length_map] at q1
    have q2 := full.2.1
    have q3 := full.2.2
    have q4 := ok.now1
    omega
  have nc : D.chs.length ≤ 4 := by rw [rel.nch]; exact ok.nc1
  have hes := h.esLen nc (by omega)
  obtain ⟨c, hc⟩ : ∃ c, D.chs[k]? = some c := ⟨_, List.getElem?_eq_getElem hk⟩
  obtain ⟨g, cap, hv, -⟩ := h.g.chan hc
  obtain ⟨av, cp, hvo⟩ := row_slice h.o.vor
  obtain ⟨sl, ag⟩ := h.g.ag
  have c0 : w.cell? ⟨b, 0, none⟩ = some (I R.now) := by rw [ag.head.cell, ← rel.now]; rfl
  have c6 : w.cell? ⟨b, 6, none⟩ = some (.slice av ods.length cp) := by rw [ag.head.cell, ← hvo]; rfl
  have lb := ag.head.lt
  have n0 := ok.now0
  have n1 := ok.now1
  have wa : IntKind.i64.wrap (R.now + d) = R.now + d := wrap_id _ (by omega) (by omega)
  have wb : IntKind.i64.wrap (R.now + d + t) = R.now + d + t := wrap_id _ (by omega) (by omega)
  have two : Hid (∀ w2 : World, w2 = (((w.alloc (.cells #[ptr b 0] 34)).alloc (.cells #[I ((ods.length : Int) + 1), I a, I (R.now + d + t)] 148)).alloc (.cells #[pt (w.heap.size + 1)] 149)) →
      w2.cell? ⟨w.heap.size, 0, none⟩ = some (ptr b 0) ∧ w2.cell? ⟨w.heap.size + 1 + 1, 0, none⟩ = some (pt (w.heap.size + 1)) ∧ w2.cell? ⟨b, 6, none⟩ = some (.slice av ods.length cp) ∧ b < w2.heap.size ∧ w.heap.size + 1 + 1 < w2.heap.size ∧ w.heap.size < w2.heap.size ∧
      Hid (w2.ownsRow 0 149 1 (.slice av ods.length cp) ods.length (ods.flatMap fun o => [pt o.blk]) ∧ (∃ hc, Blk w2 b hc 75 ∧ hc[6]? = some (.slice av ods.length cp)) ∧ Blk w2 w.heap.size #[ptr b 0] 34 ∧ (Value.slice av ods.length cp).ownBlock ≠ some b ∧ (Value.slice av ods.length cp).ownBlock ≠ some w.heap.size)) := by
    intro w2 hw2
    have k2 : Keep w w2 := by rw [hw2]; exact (((Frm.refl _ _).alloc _).alloc _).alloc _
    have b1 : Blk w2 w.heap.size #[ptr b 0] 34 := by rw [hw2]; exact ((Blk.new w _ _).alloc _).alloc _
    have b3 : Blk w2 (w.heap.size + 1 + 1) #[pt (w.heap.size + 1)] 149 := by
      rw [hw2]
      have := Blk.new ((w.alloc (.cells #[ptr b 0] 34)).alloc (.cells #[I ((ods.length : Int) + 1), I a, I (R.now + d + t)] 148)) #[pt (w.heap.size + 1)] 149
      simpa using this
    have hb2 := k2.blk ag.head
    have hr2 : w2.ownsRow 0 149 1 (.slice av ods.length cp) ods.length (ods.flatMap fun o => [pt o.blk]) := by rw [← hvo]; exact row_frm h.o.vor k2 fun _ _ e => e
    refine ⟨by rw [b1.cell]; rfl, by rw [b3.cell]; rfl, k2.cell (p := ⟨b, 6, none⟩) c6 id, hb2.lt, b3.lt, b1.lt, hr2, ⟨_, hb2, by rw [← hvo]; rfl⟩, b1, ?_, ?_⟩
    · intro e
      have := (row_ty hr2 e).uniq ⟨_, hb2⟩
      revert this; decide
    · intro e
      have := (row_ty hr2 e).uniq ⟨_, b1⟩
      revert this; decide
  have MK : Hid (∀ (w2 W w5 : World) (v5 : Value), w2 = (((w.alloc (.cells #[ptr b 0] 34)).alloc (.cells #[I ((ods.length : Int) + 1), I a, I (R.now + d + t)] 148)).alloc (.cells #[pt (w.heap.size + 1)] 149)) → Keep w2 W →
      w5.ownsRow 0 149 1 v5 (ods.length + 1) ((ods.flatMap fun o => [pt o.blk]) ++ [pt (w.heap.size + 1)]) → W.grownBy w5 (Value.slice av ods.length cp).ownBlock → (v5.ownBlock = (Value.slice av ods.length cp).ownBlock ∨ (v5.ownBlock = some W.heap.size ∧ W.grownBy w5 none)) →
      ∃ vo', TakeA w (w5.setCell ⟨b, 6, none⟩ v5) b D vc vw ods a (R.now + d + t) vo') := by
    intro w2 W w5 v5 hw2 kW hown hg hnew
    rw [← hvo] at hg hnew
    exact ⟨v5, takeA_of h hw2 kW hown hg hnew⟩
  obtain ⟨iO, hiO, hzO0, hzO1, hzO2⟩ := info_parts infoPO
  have H := hide (And.intro h (And.intro rel (And.intro ok (And.intro hc (And.intro hv hvo)))))
  clear h rel ok hc hv hvo ag full
  go_enter Tryz.func67, Tryz.ntmps67
  go_wp2_with fail
  generalize hw2 : (((w.alloc (.cells #[ptr b 0] 34)).alloc (.cells #[I ((ods.length : Int) + 1), I a, I (R.now + d + t)] 148)).alloc (.cells #[pt (w.heap.size + 1)] 149)) = w2
  obtain ⟨x1, x2, x3, x4, x5, x6, X⟩ := two.out w2 hw2.symm
  have HW2 := hide hw2
  clear hw2 two
  go_cut [] from 32 to 42 (fun wx => Hid (∃ vo', TakeA w wx b D vc vw ods a (R.now + d + t) vo'))
  case first =>
    go_region_law (refine step_append_row rfl (.tmp 36) (.tmp 38) 73 rfl 149 iO (.pointer none) 1 8 Tryz.underlying73 hiO hzO0 hzO1 hzO2 rfl (by decide) (.slice av ods.length cp) ods.length (ods.flatMap fun o => [pt o.blk]) (by first | simp [Act.eval] | simp [Act.eval, Act.put]) (by exact row_frm (X.out).1 (show Keep _ _ from ((Frm.refl _ _).alloc _).drew) (fun _ _ e => e)) ⟨w2.heap.size, 0, none⟩ 1 1 [pt (w.heap.size + 1)] (by first | simp [Act.eval] | simp [Act.eval, Act.put]) rfl (by exact cell_news _ [pt (w.heap.size + 1)] _ _ rfl) (by intro u hu; simp at hu; subst hu; rfl) (by unfold maxLen; omega) (by omega) ?_; intro v5 w5 hown5 hgr5 hnew5; obtain ⟨a5, cp5, hv5⟩ := row_slice hown5; subst hv5; obtain ⟨hcc, hcb, hc6⟩ := (X.out).2.1; have bb5 := ((show Keep _ _ from ((Frm.refl _ _).alloc _).drew).blk hcb).frm (grown_frm hgr5) (fun e => (X.out).2.2.2.1 e); have c56 : w5.cell? ⟨b, 6, none⟩ = some (.slice av ods.length cp) := (by { rw [bb5.cell]; exact hc6 }); have f56 := bb5.frozen 6; have bp5 := ((show Keep _ _ from ((Frm.refl _ _).alloc _).drew).blk (X.out).2.2.1).frm (grown_frm hgr5) (fun e => (X.out).2.2.2.2 e); have p5 : w5.cell? ⟨w.heap.size, 0, none⟩ = some (ptr b 0) := (by { rw [bp5.cell]; rfl }); have FIVE := hide (And.intro hown5 (And.intro hgr5 hnew5)); clear hown5 hgr5 hnew5 bb5 bp5 hcc hcb hc6)
    all_goals (go_wp2_with fail; go_meet)
    all_goals exact MK.out w2 _ _ _ (HW2.out).symm (show Keep _ _ from ((Frm.refl _ _).alloc _).drew) (FIVE.out).1 (FIVE.out).2.1 (FIVE.out).2.2
  case rest =>
    obtain ⟨vo', A⟩ := hcut.out
    obtain ⟨sl1, ag1⟩ := A.g.ag
    have y0 : wc.cell? ⟨b, 0, none⟩ = some (I R.now) := by rw [ag1.head.cell, ← (H.out).2.1.now]; rfl
    have y1 : wc.cell? ⟨w.heap.size, 0, none⟩ = some (ptr b 0) := by rw [A.bpc.cell]; rfl
    have y2 : wc.cell? ⟨b, 2, none⟩ = some (.slice (some ⟨g, 0, none⟩) D.chs.length cap) := by rw [ag1.head.cell, ← (H.out).2.2.2.2.1]; rfl
    have y7 : wc.cell? ⟨b, 7, none⟩ = some (I D.nv) := by rw [ag1.head.cell]; rfl
    have z7 : wc.frozen? ⟨b, 7, none⟩ = false := ag1.head.frozen 7
    have lb1 := ag1.head.lt
    have lp1 := A.bpc.lt
    have lo1 := A.boc.lt
    have hbp : w.heap.size ≠ b := fun e => by
      have := HasT.uniq ⟨_, A.bpc⟩ (e ▸ ⟨_, ag1.head⟩ : HasT wc w.heap.size 75)
      revert this; decide
    have nvb : 0 ≤ D.nv ∧ D.nv ≤ 3208 := by
      have q1 := (H.out).1.o.cnt
      have q2 := fins_len ods
      omega
    obtain ⟨nv0, nv1⟩ := nvb
    obtain ⟨s1, sf⟩ := A.g.setHead (D' := { D with vo := vo', nv := D.nv + 1 }) 7 (by decide) (I (D.nv + 1)) (fun sl => by simp [gCells]) rfl rfl rfl rfl rfl
    have ka : Keep (wc.setCell ⟨b, 7, none⟩ (I (D.nv + 1))) ((wc.setCell ⟨b, 7, none⟩ (I (D.nv + 1))).alloc (.cells #[ptr g (k * 5)] 130)) := (Frm.refl _ _).alloc _
    have g5 := s1.keep ka
    have f5 : Frm (GW b { D with vo := vo' } vc vw) wc ((wc.setCell ⟨b, 7, none⟩ (I (D.nv + 1))).alloc (.cells #[ptr g (k * 5)] 130)) := (sf.mono fun x _ e => Or.inl (Or.inl e)).trans2 ka fun _ _ e => e.elim
    have AD1 : Hid (Calls Tryz.prog 64 #[ptr b 4, I (R.now + d), .func (.func 101) #[] #[ptr wc.heap.size 0, ptr (w.heap.size + 1 + 1) 0]] ((wc.setCell ⟨b, 7, none⟩ (I (D.nv + 1))).alloc (.cells #[ptr g (k * 5)] 130)) fun e w6 => ∃ v, e = .returned v ∧
        w6.cell? ⟨w.heap.size, 0, none⟩ = some (ptr b 0) ∧ w6.cell? ⟨w.heap.size + 1 + 1, 0, none⟩ = some (pt (w.heap.size + 1)) ∧ w6.cell? ⟨w.heap.size + 1, 2, none⟩ = some (I (R.now + d + t)) ∧
        Hid (∀ m, Calls Tryz.prog 64 #[ptr b 4, I (R.now + d + t), .func (.func 103) #[] #[ptr wc.heap.size 0, ptr (w.heap.size + 1 + 1) 0, ptr w.heap.size 0]] (w6.drewN m) fun e w7 => ∃ v, e = .returned v ∧
          w7.cell? ⟨w.heap.size, 0, none⟩ = some (ptr b 0) ∧ w7.cell? ⟨b, 0, none⟩ = some (I R.now) ∧
          Hid (∀ m, Calls Tryz.prog 105 #[ptr b 4, I R.now] (w7.drewN m) fun e w8 => e = .returned (.tuple #[]) ∧ Taken w b D vc vw ods { R with os := R.os ++ [⟨k, R.now + d, R.now + d + t, a⟩] } w8))) := by
      refine (add_put b { D with vo := vo', nv := D.nv + 1 } vc vw (R.now + d) 101 #[ptr wc.heap.size 0, ptr (w.heap.size + 1 + 1) 0] _ g5 (by show D.es.length ≤ 10000; omega)).mono ?_
      rintro e w6 ⟨e1, es1, eb1, n1', rfl, q1, q2, G1⟩
      have f6 : Frm (GW b { D with vo := vo', nv := D.nv + 1 } vc vw) _ w6 := G1.frm.mono fun x _ e => Or.inl e
      have all6 : ∀ {x : Nat} {c : Array Value} {T : TypeId}, Blk wc x c T → OTy T → Blk w6 x c T := fun hb ho => g5.oblk f6 (A.g.oblk f5 hb ho) ho
      have b61 := all6 A.bpc (Or.inr (Or.inr (Or.inr rfl)))
      have b62 := all6 A.boc (Or.inr (Or.inl rfl))
      have b63 := all6 A.bob (Or.inl rfl)
      refine ⟨_, rfl, by rw [b61.cell]; rfl, by rw [b62.cell]; rfl, by rw [b63.cell]; rfl, fun m => ?_⟩
      have k6 : Keep w6 (w6.drewN m) := (Frm.refl _ _).drewN _
      have g6 := G1.lie.keep k6
      have hl6 : es1.length ≤ 10000 := by
        have : es1.length = D.es.length + 1 := G1.len
        omega
      refine (add_put b _ vc vw (R.now + d + t) 103 #[ptr wc.heap.size 0, ptr (w.heap.size + 1 + 1) 0, ptr w.heap.size 0] _ g6 hl6).mono ?_
      rintro e w7 ⟨e2, es2, eb2, n2', rfl, r1, r2, G2⟩
      obtain ⟨p1, p2, p3⟩ := take_in (H.out).1 A (H.out).2.2.2.2.1 hk (show R.now + d < R.now + d + t by omega) rfl G1 k6 G2 q1 q2 r1 r2
      obtain ⟨sl7, ag7⟩ := p1.g.ag
      have b71 := g6.oblk (G2.frm.mono fun x _ e => Or.inl e) (k6.blk b61) (Or.inr (Or.inr (Or.inr rfl)))
      refine ⟨_, rfl, by rw [b71.cell]; rfl, by rw [ag7.head.cell, ← (H.out).2.1.now]; rfl, fun m => ?_⟩
      exact take_reach (H.out).2.1 (H.out).2.2.1 hol (by omega) p1 rfl rfl rfl rfl p2 p3 m
    have hkk : (k : Int) < D.chs.length := by omega
    clear hcut A ag1 s1 sf ka g5 f5 MK X HW2 x1 x2 x3 x4 x5 x6
    go_wp2_with fail
    refine (AD1.out).mono ?_
    rintro e w6 ⟨v6, rfl, j1, j2, j3, AD2⟩
    clear AD1 y0 y1 y2 y7 z7
    go_wp2_with fail
    go_cut [] from 61 to 70 (fun w7 => w7.cell? ⟨w.heap.size, 0, none⟩ = some (ptr b 0) ∧ w7.cell? ⟨b, 0, none⟩ = some (I R.now) ∧
          Hid (∀ m, Calls Tryz.prog 105 #[ptr b 4, I R.now] (w7.drewN m) fun e w8 => e = .returned (.tuple #[]) ∧ Taken w b D vc vw ods { R with os := R.os ++ [⟨k, R.now + d, R.now + d + t, a⟩] } w8))
    case first =>
      go_region_with (go_at_call 64; refine (AD2.out _).mono ?_; rintro e w7 ⟨v7, rfl, l1, l2, RE⟩)
      all_goals (go_wp2_with fail; go_meet)
      all_goals exact ⟨l1, l2, RE⟩
    case rest =>
      obtain ⟨l1, l2, RE⟩ := hcut
      clear AD2 j1 j2 j3
      go_wp2_with fail
      go_region_with (go_at_call 105; refine (RE.out _).mono ?_; rintro e w8 ⟨rfl, T⟩)
      all_goals (obtain ⟨T1, T2, T3⟩ := T)
      all_goals (have HT := hide T1)
      all_goals (clear T1)
      all_goals (have T2' : w8.cell? ⟨w.heap.size + 1 + 1, 0, none⟩ = some (pt (w.heap.size + 1)) := T2)
      all_goals go_wp2_with fail
      all_goals go_ret
      all_goals exact ⟨rfl, HT.out⟩

end Go.Proofs.YtpilmkipbbengaaGreatDoor
