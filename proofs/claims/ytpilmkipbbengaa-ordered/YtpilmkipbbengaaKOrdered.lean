/- Ordered. -/
import Derived.Test.YtpilmkipbbengaaKOpure
import Derived.Test.YtpilmkipbbengaaK10
import Derived.Test.YtpilmkipbbengaaK12
namespace Go.Proofs.Ytpilmkipbbengaa
open Go.RowKit

theorem sum_take_succ {D : List Ds} {j : Nat} {x : Ds} (h : D[j]? = some x) : ((D.take (j + 1)).map (·.amt)).sum = ((D.take j).map (·.amt)).sum + x.amt := by
  rw [take_snoc' h]
  simp

theorem OInv.bounds {a s e q : Int} {k : Nat} {t : Int} {D : List Ds} {r : Int} (h : OInv a s e q k t D r) (hq : q ≤ 1000) (j : Nat) : 0 ≤ ((D.take j).map (·.amt)).sum ∧ ((D.take j).map (·.amt)).sum ≤ 1000 * j := by
  have key : ∀ l : List Ds, (∀ x ∈ l, 0 ≤ x.amt ∧ x.amt ≤ 1000) → 0 ≤ (l.map (·.amt)).sum ∧ (l.map (·.amt)).sum ≤ 1000 * l.length := by
    intro l
    induction l with
    | nil => intro _; simp
    | cons y r ih =>
      intro hl
      have h1 := hl y (by simp)
      have h2 := ih fun x hx => hl x (List.mem_cons_of_mem _ hx)
      simp only [List.map_cons, List.sum_cons, List.length_cons]
      omega
  have hle : ∀ x ∈ D.take j, 0 ≤ x.amt ∧ x.amt ≤ 1000 := by
    intro x hx
    have := h.each x (List.mem_of_mem_take hx)
    omega
  have h1 := key _ hle
  have h2 := List.length_take_le j D
  omega

set_option maxRecDepth 100000 in
set_option maxHeartbeats 3200000 in
theorem ordered_any {pa : Rep} (P : Pumpy 24 18 19 13 16 pa) (O : Orderly 20 22 21 25 43 pa) (channel amount delay ticks : Int) (w : World) (h0 : In64 channel) (h1 : In64 amount) (h2 : In64 delay) (h3 : In64 ticks) :
    Calls Try.prog 6 #[I channel, I amount, I delay, I ticks] w fun e w' => e = .returned (.bool true) ∧ Keep w w' := by
  obtain ⟨k, -, k0, k1, PK⟩ := kpick_some channel 3 (by omega) (by omega) h0
  obtain ⟨a', -, a0, a1, PA⟩ := kpick_some amount 1000 (by omega) (by omega) h1
  obtain ⟨d, -, d0, d1, PD⟩ := kpick_some delay 100 (by omega) (by omega) h2
  obtain ⟨n', -, n0, n1, PN⟩ := kpick_some ticks 100 (by omega) (by omega) h3
  obtain ⟨k, rfl⟩ := Int.eq_ofNat_of_zero_le k0
  have OR : Hid (Calls Try.prog 8 #[] w fun e w' => e = .returned (.bool true) ∧ Hid (Keep w w')) := (kordered_any P O w).mono fun e w' q => q
  have cfg0 : ∀ W : World, CfgAt W (.slice none 0 0) [] 0 := fun W => ⟨World.ownsRow_nil .., by simp, by simp, by omega, by omega⟩
  have FR : Hid (∀ w0, Keep w w0 → Calls Try.prog 17 #[.agg #[I 3, .slice none 0 0, I 0]] w0 fun e w1 => ∃ rb, e = .returned (.pointer (some ⟨rb, 0, none⟩)) ∧ Hid (KGo pa (fun x => w.heap.size ≤ x) w w1 rb (rnew 3 [] 0))) := by
    intro w0 kk
    refine (kfresh_any P (fun x => w.heap.size ≤ x) _ [] 0 w0 (cfg0 w0) (fun x hx => Nat.le_trans kk.size hx)).mono ?_
    rintro e w1 ⟨rb, pb, F, rfl, k1, hk⟩
    exact ⟨rb, rfl, (kk.trans k1).mono fun _ _ e => e.elim, pb, F, _, _, hk⟩
  have ORD : Hid (∀ w1 rb, Hid (KGo pa (fun x => w.heap.size ≤ x) w w1 rb (rnew 3 [] 0)) → ∃ pb, w1.cell? ⟨rb, 0, none⟩ = some (.pointer (some ⟨pb, 0, none⟩)) ∧ Calls Try.prog 20 #[.pointer (some ⟨pb, 0, none⟩), I k, I (1 + a'), I d, I (1 + n')] w1 fun e w2 => e = .returned (.tuple #[I 1, I 0]) ∧ Hid (KOk (oSt [] 0 k d (d + (1 + n')) (1 + a')) ∧ KGo pa (fun x => w.heap.size ≤ x) w w2 rb (oSt [] 0 k d (d + (1 + n')) (1 + a')))) := by
    intro w1 rb hg
    have ok := new_kok (cfg0 w).fine
    obtain ⟨gf, pb, F, vl, vd, hh⟩ := hg.out
    refine ⟨pb, by rw [hh.rd.head.cell]; rfl, ?_⟩
    have hb : orderBad (rnew 3 [] 0) k (1 + a') d (1 + n') = false := by
      have hi : isCh (rnew 3 [] 0) k = true := by simp [isCh, rnew]; omega
      simp [orderBad, hi]; omega
    have e0 : orderErr (rnew 3 [] 0) k (1 + a') d (1 + n') = 0 := by unfold orderErr; rw [hb]; rfl
    have e1 : orderN (rnew 3 [] 0) k (1 + a') d (1 + n') = 1 := by unfold orderN; rw [if_pos e0]; rfl
    have e2 : orderR (rnew 3 [] 0) k (1 + a') d (1 + n') = oSt [] 0 k d (d + (1 + n')) (1 + a') := by
      unfold orderR
      rw [if_pos e0]
      simp [rnew, oSt, List.replicate]
    refine (O.order k (1 + a') d (1 + n') w1 F pb _ hh.pump ok.ok ok.full).mono ?_
    rintro e w2 ⟨rfl, mv⟩
    obtain ⟨st, sr⟩ := orderR_still (rnew 3 [] 0) k (1 + a') d (1 + n')
    have g := hh.still (fun x hx => Nat.le_trans gf.size hx) (Frm.refl _ _) mv st sr
    have okr := st.kok ok (orderR_ok ok.ok ok.full k (1 + a') d (1 + n'))
    rw [e2] at g okr
    exact ⟨by rw [e0, e1], okr, KGo.trans gf g⟩
  have hst0 : OInv (1 + a') d (d + (1 + n')) (((1 + a') + (d + (1 + n') - d) - 1) / (d + (1 + n') - d)) k 0 [] (1 + a') := OInv.start (by omega) d0 (by omega)
  generalize hq : ((1 + a') + (d + (1 + n') - d) - 1) / (d + (1 + n') - d) = q at *
  have TK : Hid (∀ w1 rb (i : Nat), i < 4 → Hid (∃ D r, OInv (1 + a') d (d + (1 + n')) q k (60 * i) D r ∧ KOk (oSt D (60 * i) k d (d + (1 + n')) r) ∧ KGo pa (fun x => w.heap.size ≤ x) w w1 rb (oSt D (60 * i) k d (d + (1 + n')) r)) →
      Calls Try.prog 11 #[.pointer (some ⟨rb, 0, none⟩), I 60] w1 fun e w2 => e = .returned (.bool true) ∧ Hid (∃ D r, OInv (1 + a') d (d + (1 + n')) q k (60 * (i + 1 : Nat)) D r ∧ KOk (oSt D (60 * (i + 1 : Nat)) k d (d + (1 + n')) r) ∧ KGo pa (fun x => w.heap.size ≤ x) w w2 rb (oSt D (60 * (i + 1 : Nat)) k d (d + (1 + n')) r))) := by
    intro w1 rb i hi hh
    obtain ⟨D, r, inv, ok, gf, pb, F, vl, vd, hk⟩ := hh.out
    obtain ⟨D', r', e1, inv'⟩ := oticks (show k < 3 by omega) hq.symm (by omega) (by omega) (by omega) 60 (60 * i) D r inv
    have er : runR (oSt D (60 * i) k d (d + (1 + n')) r) 60 = oSt D' (60 * (i + 1 : Nat)) k d (d + (1 + n')) r' := by
      have hn : (oSt D (60 * i) k d (d + (1 + n')) r).now = 60 * i := rfl
      have e0 : runErr (oSt D (60 * i) k d (d + (1 + n')) r) 60 = 0 := by rw [runErr, if_neg (by omega), if_neg (by rw [hn]; omega)]
      have e2 : (60 * (i : Int)) + (60 : Nat) = 60 * ((i + 1 : Nat) : Int) := by omega
      rw [← e2, ← e1]
      simp [runR, e0]
    refine (kticks_did P _ rb pb F _ vl vd 60 w1 hk ok (fun x hx => Nat.le_trans gf.size hx) (by omega) (by omega)).mono ?_
    rintro e w2 ⟨rfl, ok', g'⟩
    rw [er] at ok' g'
    have e2 : (60 * (i : Int)) + (60 : Nat) = 60 * ((i + 1 : Nat) : Int) := by omega
    rw [e2] at inv'
    exact ⟨rfl, D', r', inv', ok', KGo.trans gf g'⟩
  have wa : IntKind.i64.wrap (1 + a') = 1 + a' := wrap_id _ (by omega) (by omega)
  have wn : IntKind.i64.wrap (1 + n') = 1 + n' := wrap_id _ (by omega) (by omega)
  have ST0 := hide hst0
  have HQ := hide hq
  clear h0 h1 h2 h3 cfg0 hst0 hq
  go_enter Try.func6, Try.ntmps6
  go_wp2_with fail
  refine (OR.out).mono ?_
  rintro e w0 ⟨rfl, K0⟩
  go_wp2_with fail
  refine (FR.out w0 K0.out).mono ?_
  rintro e w1 ⟨rb, rfl, G1⟩
  go_wp2_with fail
  refine (PK.out _).mono ?_
  rintro e w5 ⟨rfl, hw⟩
  have hw' := hw.symm
  subst hw'
  go_wp2_with fail
  refine (PA.out _).mono ?_
  rintro e w5 ⟨rfl, hw⟩
  have hw' := hw.symm
  subst hw'
  go_wp2_with fail
  refine (PD.out _).mono ?_
  rintro e w5 ⟨rfl, hw⟩
  have hw' := hw.symm
  subst hw'
  go_wp2_with fail
  refine (PN.out _).mono ?_
  rintro e w5 ⟨rfl, hw⟩
  have hw' := hw.symm
  subst hw'
  obtain ⟨pb, x0, OC⟩ := ORD.out w1 rb G1
  have OC' := hide OC
  clear OC OR FR ORD K0 G1
  go_wp2_with fail
  refine (OC'.out).mono ?_
  rintro e w2 ⟨rfl, G2⟩
  clear OC' x0
  go_wp2_with fail
  go_loopg [17, 18] 4 (fun q' i _ wr => ∃ j : Nat, q' + j = 4 ∧ i = I j ∧ Hid (∃ D r, OInv (1 + a') d (d + (1 + n')) q k (60 * j) D r ∧ KOk (oSt D (60 * j) k d (d + (1 + n')) r) ∧ KGo pa (fun x => w.heap.size ≤ x) w wr rb (oSt D (60 * j) k d (d + (1 + n')) r)))
  case atStart => exact ⟨0, by omega, rfl, [], 1 + a', by simpa using ST0.out, by simpa using (G2.out).1, by simpa using (G2.out).2⟩
  case round =>
    obtain ⟨j, hq', rfl, hst⟩ := hrel
    by_cases hj : j < 4
    · have T := hide (TK.out wr rb j hj hst)
      have MS : Hid (gk - 1 < gk) := by unfold Hid; omega
      have NX : Hid (gk - 1 + (j + 1) = 4) := by unfold Hid; omega
      clear hst hq'
      go_wp2_with fail
      refine (T.out).mono ?_
      rintro e w3 ⟨rfl, G3⟩
      go_wp2_with fail
      go_roundg (gk - 1)
      case measure => exact MS.out
      case rel => exact ⟨j + 1, NX.out, by simp, G3⟩
    · have hj4 : j = 4 := by omega
      obtain ⟨D, r, inv, ok, g⟩ := hst.out
      rw [hj4] at inv ok g
      have q1000 : q ≤ 1000 := by
        have hL : (0 : Int) < d + (1 + n') - d := by omega
        rw [← HQ.out]
        have := (ceil_mul (r := 1 + a') hL).2
        rcases Int.lt_or_le 1000 (((1 + a') + (d + (1 + n') - d) - 1) / (d + (1 + n') - d)) with z | z
        · have h2 := Int.mul_le_mul_of_nonneg_left (show 1 ≤ d + (1 + n') - d by omega) (show 0 ≤ ((1 + a') + (d + (1 + n') - d) - 1) / (d + (1 + n') - d) - 1 by omega)
          omega
        · exact z
      have hr0 : r = 0 := inv.late (by omega)
      have hsum := inv.sum
      rw [hr0, Int.add_zero] at hsum
      have hDl : D.length ≤ 2000 := ok.ok.nd
      obtain ⟨gf, pb, F, vl, vd, hk⟩ := g
      obtain ⟨ad, cpd, hvd⟩ := row_slice hk.rd.row
      have hvd' : vd = .slice ad D.length cpd := hvd
      have RS : Hid (∀ W, Keep wr W → Calls Try.prog 21 #[.pointer (some ⟨pb, 0, none⟩), I 1] W fun e w7 => e = .returned (.tuple #[I 0, I 0]) ∧ Hid (Keep w w7)) := by
        intro W kW
        have e1 : restV (oSt D (60 * (4 : Nat)) k d (d + (1 + n')) r) 1 = 0 := by rw [hr0]; rfl
        have e2 : restErr (oSt D (60 * (4 : Nat)) k d (d + (1 + n')) r) 1 = 0 := rfl
        refine (O.rest 1 W F pb _ (P.frm hk.pump kW fun _ _ e => e) ok.ok ok.full).mono ?_
        rintro e w7 ⟨rfl, mv⟩
        refine ⟨by rw [e1, e2], ?_⟩
        exact ((gf.trans2 kW fun _ _ e => e.elim).trans2 mv.1 fun x _ e => hk.lf x e).mono fun x hx e => by omega
      have H := hide (And.intro hk.rd (And.intro inv (And.intro hvd' hsum)))
      have BD := hide (fun j => inv.bounds q1000 j)
      have x0 : wr.cell? ⟨rb, 0, none⟩ = some (.pointer (some ⟨pb, 0, none⟩)) := by rw [hk.rd.head.cell]; rfl
      have x4 : wr.cell? ⟨rb, 4, none⟩ = some (.slice ad D.length cpd) := by rw [hk.rd.head.cell, ← hvd']; rfl
      clear hst inv ok gf hk hvd hvd' hq' hsum hj4 TK
      go_wp2_with fail
      generalize hWR : wr = WR at *
      clear hWR
      go_loopg [19, 20, 21] D.length (fun q' sm i _ wz => ∃ j : Nat, q' + j = D.length ∧ i = I j ∧ sm = I ((D.take j).map (·.amt)).sum ∧ Hid (Keep WR wz))
      case atStart => exact ⟨0, by omega, rfl, rfl, Frm.refl _ _⟩
      case round =>
        obtain ⟨j, hq', rfl, rfl, hkz⟩ := hrel
        have hrd := (H.out).1.keep hkz.out
        have y0 := (hkz.out).cell (p := ⟨rb, 0, none⟩) x0 id
        have y4 := (hkz.out).cell (p := ⟨rb, 4, none⟩) x4 id
        by_cases hj : j < D.length
        · obtain ⟨x, hx⟩ : ∃ x, D[j]? = some x := ⟨_, List.getElem?_eq_getElem hj⟩
          obtain ⟨g, cap, hv, -, hcell, -⟩ := row_at hrd.row (fun _ => rfl) hx (by decide)
          have hv' : vd = .slice (some ⟨g, 0, none⟩) D.length cap := hv
          rw [(H.out).2.2.1] at hv'
          injection hv' with hv1 hv2 hv3
          subst hv1
          have z0 := hcell 0 (by decide)
          have z1 := hcell 1 (by decide)
          have z2 := hcell 2 (by decide)
          simp [dsC] at z0 z1 z2
          obtain ⟨c1, c2, c3, c4, c5, c6⟩ := (H.out).2.1.each x (List.mem_of_getElem? hx)
          rw [c1] at z1
          have f2 : decide (x.tick < d) = false := decide_eq_false (by omega)
          have f3 : decide (d + (1 + n') ≤ x.tick) = false := decide_eq_false (by omega)
          have wd : IntKind.i64.wrap (d + (1 + n')) = d + (1 + n') := wrap_id _ (by omega) (by omega)
          have lrb := hrd.head.lt
          have lg := (hrd.row.lt g (by rw [hv]; rfl)).2
          have hb := BD.out j
          have ws : IntKind.i64.wrap (((D.take j).map (·.amt)).sum + x.amt) = ((D.take j).map (·.amt)).sum + x.amt := wrap_id _ (by omega) (by omega)
          have NX : Hid (∀ wz2, Keep wz2 wz2 → Keep WR wz2 → ∃ j' : Nat, gk - 1 + j' = D.length ∧ I ((j : Int) + 1) = I j' ∧ I (((D.take j).map (·.amt)).sum + x.amt) = I ((D.take j').map (·.amt)).sum ∧ Hid (Keep WR wz2)) := fun wz2 _ h2 => ⟨j + 1, by omega, by simp, by rw [sum_take_succ hx], h2⟩
          have MS : Hid (gk - 1 < gk) := by unfold Hid; omega
          cases j with
          | zero =>
            clear hrd hcell hv hv2 hv3 hq' hx c1
            generalize ((D.take 0).map (·.amt)).sum = sm at *
            go_wp2_with fail
            go_quiet (fail)
            go_wp2_with fail
            go_roundg (gk - 1)
            case measure => exact MS.out
            case rel =>
              obtain ⟨j', e1, e2, e3, e4⟩ := NX.out _ (Frm.refl _ _) (((hkz.out).alloc _).drewN _)
              exact ⟨j', e1, by simpa using e2, e3, e4⟩
          | succ i =>
            obtain ⟨y, hy⟩ : ∃ y, D[i]? = some y := ⟨_, List.getElem?_eq_getElem (by omega)⟩
            obtain ⟨u, hu⟩ : ∃ u, D[0]? = some u := ⟨_, List.getElem?_eq_getElem (by omega)⟩
            obtain ⟨g1, cap1, hw1, -, hcell1, -⟩ := row_at hrd.row (fun _ => rfl) hy (by decide)
            obtain ⟨g2, cap2, hw2, -, hcell2, -⟩ := row_at hrd.row (fun _ => rfl) hu (by decide)
            have hw1' : vd = .slice (some ⟨g1, 0, none⟩) D.length cap1 := hw1
            have hw2' : vd = .slice (some ⟨g2, 0, none⟩) D.length cap2 := hw2
            rw [(H.out).2.2.1] at hw1' hw2'
            injection hw1' with r1 r2 r3
            injection r1 with r1; injection r1 with r1
            injection hw2' with s1 s2 s3
            injection s1 with s1; injection s1 with s1
            subst r1; subst s1
            have b2 : wr.cell? ⟨g, i * 3 + 2, none⟩ = some (I y.amt) := hcell1 2 (by decide)
            have u2 : wr.cell? ⟨g, 2, none⟩ = some (I u.amt) := hcell2 2 (by decide)
            have hxy : x.amt ≤ y.amt := by
              obtain ⟨l1, v1⟩ := List.getElem?_eq_some_iff.1 hy
              obtain ⟨l2, v2⟩ := List.getElem?_eq_some_iff.1 hx
              have := List.pairwise_iff_getElem.1 (H.out).2.1.falls i (i + 1) l1 l2 (by omega)
              rw [v1, v2] at this; exact this
            have huq : u.amt = q := by
              obtain ⟨rest, hrest⟩ := (H.out).2.1.head (by omega)
              rw [hrest] at hu
              simp at hu
              rw [← hu]
            have f4 : decide (y.amt < x.amt) = false := decide_eq_false (by omega)
            have f5 : decide (x.amt < u.amt - 1) = false := decide_eq_false (by omega)
            have wu : IntKind.i64.wrap (u.amt - 1) = u.amt - 1 := wrap_id _ (by omega) (by omega)
            clear hrd hcell hcell1 hcell2 hv hw1 hw2 hv2 hv3 r2 r3 s2 s3 hq' hx hy hu c1 hxy huq
            generalize ((D.take (i + 1)).map (·.amt)).sum = sm at *
            go_wp2_with fail
            go_quiet (fail)
            go_wp2_with fail
            go_roundg (gk - 1)
            case measure => exact MS.out
            case rel =>
              obtain ⟨j', e1, e2, e3, e4⟩ := NX.out _ (Frm.refl _ _) (((hkz.out).alloc _).drewN _)
              exact ⟨j', e1, by simpa using e2, e3, e4⟩
        · have hsm : ((D.take j).map (·.amt)).sum = 1 + a' := by
            rw [List.take_of_length_le (by omega)]
            exact (H.out).2.2.2
          have R5 := hide (RS.out wr hkz.out)
          rw [hsm]
          clear hrd hq' hsm hkz
          go_wp2_with fail
          refine (R5.out).mono ?_
          rintro e w7 ⟨rfl, K7⟩
          go_wp2_with fail
          go_ret
          exact ⟨rfl, K7.out⟩

end Go.Proofs.Ytpilmkipbbengaa
