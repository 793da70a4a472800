/- Roomy. -/
import Derived.Test.YtpilmkipbbengaaK10
import Derived.Test.YtpilmkipbbengaaK1r
import Derived.Test.YtpilmkipbbengaaK12
import Derived.Test.YtpilmkipbbengaaKcfg
namespace Go.Proofs.Ytpilmkipbbengaa
open Go.RowKit

section
variable {fNew fBasal fRun : FuncId} {pa : Rep}

theorem KGo.keep (P : Pumpy fNew fBasal fRun 13 16 pa) {B : Nat → Prop} {w w' w2 : World} {rb : Nat} {R : RSt} (g : KGo pa B w w' rb R) (k : Keep w' w2) : KGo pa B w w2 rb R := by
  obtain ⟨gf, pb, F, vl, vd, hk⟩ := g
  exact ⟨gf.trans2 k fun _ _ e => e.elim, pb, F, vl, vd, hk.keep P.frm k⟩

theorem KGo.kroom (P : Pumpy fNew fBasal fRun 13 16 pa) {B : Nat → Prop} {w w' : World} {rb : Nat} {R : RSt} (g : KGo pa B w w' rb R) (ok : KOk R) (k : Nat) (hk : k ≤ 3) (z : Int) (z0 : 0 ≤ z) (z1 : z ≤ 100) :
    Calls Try.prog 14 #[.pointer (some ⟨rb, 0, none⟩), I k, I z] w' fun e w2 => e = .returned (I (rroom R.doses R.lims k (R.now + z))) ∧ Hid (KGo pa B w w2 rb R) := by
  have g' := g
  obtain ⟨gf, pb, F, vl, vd, hh⟩ := g
  refine (kroom_any rb (kv pb vl vd R) k z w' hh.rd (ok.kvok pb vl vd) hk z0 z1).mono ?_
  rintro e w2 ⟨rfl, kk⟩
  exact ⟨rfl, g'.keep P kk⟩

theorem KGo.asks (P : Pumpy fNew fBasal fRun 13 16 pa) {B : Nat → Prop} {w w' : World} {rb : Nat} {R : RSt} (g : KGo pa B w w' rb R) (ok : KOk R) (hB : ∀ x, w'.heap.size ≤ x → B x) :
    ∃ pb : Nat, w'.cell? ⟨rb, 0, none⟩ = some (.pointer (some ⟨pb, 0, none⟩)) ∧ (∀ k : Int, Calls Try.prog 13 #[.pointer (some ⟨pb, 0, none⟩), I k] w' fun e w2 => e = .returned (roomV R k) ∧ Hid (KGo pa B w w2 rb R)) ∧
      (∀ k a : Int, Calls Try.prog 16 #[.pointer (some ⟨pb, 0, none⟩), I k, I a] w' fun e w2 => WaitOut R k a e ∧ Hid (KGo pa B w w2 rb R)) := by
  obtain ⟨gf, pb, F, vl, vd, hh⟩ := g
  have kr : Keep w' w' := Frm.refl _ _
  refine ⟨pb, by rw [hh.rd.head.cell]; rfl, fun k => ?_, fun k a => ?_⟩
  · refine (P.room k w' F pb R hh.pump ok.ok ok.full).mono ?_
    rintro e w2 ⟨rfl, mv⟩
    exact ⟨rfl, KGo.trans gf (hh.still hB kr mv (Still.refl R) fun _ => rfl)⟩
  · refine (P.wait k a w' F pb R hh.pump ok.ok ok.full).mono ?_
    rintro e w2 ⟨he, mv⟩
    exact ⟨he, KGo.trans gf (hh.still hB kr mv (Still.refl R) fun _ => rfl)⟩
end

/-- behind twelve ticks all windows are empty -/
theorem room_late {ds : List Ds} {lims : List Lim} {k : Nat} {now : Int} (hw : ∀ l ∈ lims, l.win ≤ 12) (hd : ∀ d ∈ ds, d.tick < now) (n : Nat) (hn : 12 ≤ n) : rroom ds lims k (now + n) = rroom ds lims k (now + 12) := by
  have key : ∀ (l : Lim) (m : Nat), l.win ≤ 12 → 12 ≤ m → lft ds l (now + m) = l.cap := by
    intro l m hl hm
    unfold lft
    rw [gv_none ds l _ _ (fun d hd' => by have := hd d hd'; omega)]
    omega
  unfold rroom
  generalize (1000 : Int) = s
  induction lims generalizing s with
  | nil => rfl
  | cons l r ih =>
    simp only [List.foldl_cons]
    have h1 := key l n (hw l (by simp)) hn
    have h2 : lft ds l (now + 12) = l.cap := key l 12 (hw l (by simp)) (Nat.le_refl _)
    have e : rstep ds k (now + n) s l = rstep ds k (now + 12) s l := by
      unfold rstep
      rw [h1, h2]
    rw [e]
    exact ih (fun l hl => hw l (List.mem_cons_of_mem _ hl)) _

theorem wait_small {R : RSt} {k : Nat} {a : Int} {n : Nat} (hw : ∀ l ∈ R.lims, l.win ≤ 12) (hd : ∀ d ∈ R.doses, d.tick < R.now) (h : WaitOk R k a (some n)) : n ≤ 12 := by
  obtain ⟨h1, h2, h3⟩ := h
  rcases Nat.lt_or_ge 12 n with q | q
  · have e := room_late (k := k) hw hd n (by omega)
    have := h3 12 q
    rw [e] at h2
    have e2 : ((12 : Nat) : Int) = 12 := rfl
    rw [e2] at this
    omega
  · exact q

theorem limsOf_win (caps : List Lim) : ∀ l ∈ limsOf caps, l.win ≤ 12 := by
  intro l hl
  obtain ⟨x, -, rfl⟩ := List.mem_map.1 hl
  have := pk_hi x.win (n := 12) (by omega)
  simp only [foldL]
  omega

set_option maxRecDepth 100000 in
set_option maxHeartbeats 3200000 in
theorem roomy_any {pa : Rep} (P : Pumpy 24 18 19 13 16 pa) (O : Orderly 20 22 21 25 43 pa) (CF : ConfigSpec) (ac : Option Addr) (caps : List Lim) (cpc : Nat) (sa : Option Addr) (ss : List StepR) (cps : Nat) (channel amount : Int) (w : World)
    (hs : SeeL w ac caps) (hin : ∀ x ∈ caps, x.In) (hss : SeeS (fun x => w.heap.size ≤ x) w sa ss) (hso : ∀ s ∈ ss, s.Ok) (hch : In64 channel) (ham : In64 amount) :
    Calls Try.prog 4 #[.slice ac caps.length cpc, .slice sa ss.length cps, I channel, I amount] w fun e w' => e = .returned (.bool true) ∧ Keep w w' := by
  obtain ⟨kk, -, kk0, kk1, PC⟩ := kpick_some channel 3 (by omega) (by omega) hch
  obtain ⟨aa, -, aa0, aa1, PA⟩ := kpick_some amount 60 (by omega) (by omega) ham
  obtain ⟨kk, rfl⟩ := Int.eq_ofNat_of_zero_le kk0
  have OR : Hid (Calls Try.prog 8 #[] w fun e w' => e = .returned (.bool true) ∧ Hid (Keep w w')) := (kordered_any P O w).mono fun e w' q => q
  have CG : Hid (∀ w0, Keep w w0 → Calls Try.prog 10 #[.slice ac caps.length cpc, I 0] w0 fun e w1 => ∃ v, e = .returned (.agg #[I 3, v, I (pk 0 10)]) ∧ Hid (Keep w w1 ∧ CfgAt w1 v (limsOf caps) (pk 0 10) ∧ ∀ x, v.ownBlock = some x → w.heap.size ≤ x)) := by
    intro w0 k0
    refine (CF ac caps cpc 0 w0 (hs.frm k0 fun _ _ _ e => e) hin ⟨by omega, by omega⟩).mono ?_
    rintro e w1 ⟨v, rfl, k1, hr, hn⟩
    have := k0.size
    exact ⟨v, rfl, k0.trans k1, cfg_at hr, fun x hx => by have := hn x hx; omega⟩
  have RN : Hid (∀ w1 v, Hid (Keep w w1 ∧ CfgAt w1 v (limsOf caps) (pk 0 10) ∧ ∀ x, v.ownBlock = some x → w.heap.size ≤ x) → Calls Try.prog 9 #[.agg #[I 3, v, I (pk 0 10)], .slice sa ss.length cps] w1 fun e w2 => ∃ rb R, e = .returned (.pointer (some ⟨rb, 0, none⟩)) ∧ Hid (KOk R ∧ R.lims = limsOf caps) ∧ Hid (KGo pa (fun x => w.heap.size ≤ x) w w2 rb R)) := by
    intro w1 v hh
    obtain ⟨k1, hc, -⟩ := hh.out
    refine (krun_any P O (fun x => w.heap.size ≤ x) v (limsOf caps) (pk 0 10) sa ss cps w1 hc (fun x hx => Nat.le_trans k1.size hx) (hss.frm (k1.mono fun _ _ e => e.elim)) hso).mono ?_
    rintro e w2 ⟨rb, R, rfl, ok, l1, -, g⟩
    exact ⟨rb, R, rfl, ⟨ok, l1⟩, KGo.trans (k1.mono fun _ _ e => e.elim) g⟩
  clear hs hin hss hso
  generalize pk 0 10 = lk at *
  go_enter Try.func4, Try.ntmps4
  go_wp2_with fail
  refine (OR.out).mono ?_
  rintro e w0 ⟨rfl, K0⟩
  go_wp2_with fail
  refine (CG.out w0 K0.out).mono ?_
  rintro e w1 ⟨v, rfl, H1⟩
  go_wp2_with fail
  refine (RN.out w1 v H1).mono ?_
  rintro e w2 ⟨rb, R, rfl, OK, H2⟩
  clear OR CG RN K0 H1
  go_wp2_with fail
  go_loopg [11, 12, 13] 3 (fun q i _ _ wr => ∃ j : Nat, q + j = 3 ∧ i = I j ∧ Hid (KGo pa (fun x => w.heap.size ≤ x) w wr rb R))
  case atStart => exact ⟨0, by omega, rfl, H2.out⟩
  case round =>
    obtain ⟨j, hq, rfl, hst⟩ := hrel
    by_cases hj : j < 3
    · obtain ⟨pb, x0, ROOM, -⟩ := (hst.out).asks P (OK.out).1 (fun x hx => Nat.le_trans (hst.out).1.size hx)
      have hr : roomV R j = .tuple #[I (rroom R.doses R.lims j R.now), I 0] := by
        have h1 : isCh R j = true := by
          have := (OK.out).1.nch
          simp [isCh]; omega
        simp [roomV, h1]
      have RM : Hid (Calls Try.prog 13 #[.pointer (some ⟨pb, 0, none⟩), I j] wr fun e w2 => e = .returned (.tuple #[I (rroom R.doses R.lims j R.now), I 0]) ∧ Hid (KGo pa (fun x => w.heap.size ≤ x) w w2 rb R)) := by
        have := ROOM j
        rw [hr] at this
        exact this
      have KR : Hid (∀ w3, Hid (KGo pa (fun x => w.heap.size ≤ x) w w3 rb R) → Calls Try.prog 14 #[.pointer (some ⟨rb, 0, none⟩), I j, I 0] w3 fun e w4 => e = .returned (I (rroom R.doses R.lims j R.now)) ∧ Hid (KGo pa (fun x => w.heap.size ≤ x) w w4 rb R)) := by
        intro w3 h3
        have := (h3.out).kroom P (OK.out).1 j (by omega) 0 (by omega) (by omega)
        rw [Int.add_zero] at this
        exact this
      have NX : Hid (∀ w4, Hid (KGo pa (fun x => w.heap.size ≤ x) w w4 rb R) → ∃ k' : Nat, k' < gk ∧ ∃ j' : Nat, k' + j' = 3 ∧ I ((j : Int) + 1) = I j' ∧ Hid (KGo pa (fun x => w.heap.size ≤ x) w w4 rb R)) := fun w4 h4 => ⟨gk - 1, by omega, j + 1, by omega, by simp, h4⟩
      clear ROOM hr hst hq
      generalize rroom R.doses R.lims j R.now = rm at *
      go_wp2_with fail
      refine (RM.out).mono ?_
      rintro e w3 ⟨rfl, h3⟩
      go_wp2_with fail
      refine (KR.out w3 h3).mono ?_
      rintro e w4 ⟨rfl, h4⟩
      go_wp2_with fail
      obtain ⟨k', m1, m2⟩ := NX.out w4 h4
      go_roundg k'
      case measure => exact m1
      case rel => exact m2
    · clear hq
      go_wp2_with fail
      refine (PC.out _).mono ?_
      rintro e w5 ⟨rfl, hw⟩
      have hw' := hw.symm
      subst hw'
      go_wp2_with fail
      refine (PA.out _).mono ?_
      rintro e w5 ⟨rfl, hw⟩
      have hw' := hw.symm
      subst hw'
      obtain ⟨pb, x0, -, WAIT⟩ := (hst.out).asks P (OK.out).1 (fun x hx => Nat.le_trans (hst.out).1.size hx)
      have WT : Hid (Calls Try.prog 16 #[.pointer (some ⟨pb, 0, none⟩), I kk, I aa] wr fun e w2 => ∃ r, e = .returned (waitV r) ∧ Hid (WaitOk R kk aa r) ∧ Hid (KGo pa (fun x => w.heap.size ≤ x) w w2 rb R)) := by
        refine (WAIT kk aa).mono ?_
        rintro e w2 ⟨⟨hb, -⟩ | ⟨-, -, -, r, rfl, hr⟩, g⟩
        · exfalso
          have h1 : isCh R kk = true := by
            have := (OK.out).1.nch
            simp [isCh]; omega
          rw [h1] at hb
          rcases hb with hb | hb | hb
          · cases hb
          · omega
          · omega
        · rw [Int.toNat_natCast] at hr
          exact ⟨r, rfl, hr, g⟩
      have KR : Hid (∀ (w3 : World) (z : Nat), z ≤ 12 → Hid (KGo pa (fun x => w.heap.size ≤ x) w w3 rb R) → Calls Try.prog 14 #[.pointer (some ⟨rb, 0, none⟩), I kk, I z] w3 fun e w4 => e = .returned (I (rroom R.doses R.lims kk (R.now + z))) ∧ Hid (KGo pa (fun x => w.heap.size ≤ x) w w4 rb R)) :=
        fun w3 z hz h3 => (h3.out).kroom P (OK.out).1 kk (by omega) z (by omega) (by omega)
      clear WAIT hst hj
      go_wp2_with fail
      refine (WT.out).mono ?_
      rintro e w6 ⟨r, rfl, WO, G6⟩
      cases r with
      | some n =>
        have hn12 : n ≤ 12 := wait_small (by rw [(OK.out).2]; exact limsOf_win caps) (OK.out).1.told.past WO.out
        unfold waitV
        go_wp2_with fail
        go_loopg [19] (n + 1) (fun q i wr => ∃ z : Nat, q + z = n + 1 ∧ z ≤ n ∧ i = I z ∧ Hid (KGo pa (fun x => w.heap.size ≤ x) w wr rb R))
        case atStart => exact ⟨0, by omega, by omega, rfl, G6.out⟩
        case round =>
          obtain ⟨z, hq, hzn, rfl, hst⟩ := hrel
          have KZ := hide (KR.out wr z (by omega) hst)
          have hlt : z < n → decide (aa ≤ rroom R.doses R.lims kk (R.now + z)) = false := fun q => decide_eq_false (by have := (WO.out).2.2 z q; omega)
          have hge : z = n → aa ≤ rroom R.doses R.lims kk (R.now + z) := fun q => by rw [q]; exact (WO.out).2.1
          have z12 : (z : Int) ≤ 12 := by omega
          generalize rroom R.doses R.lims kk (R.now + z) = rm at *
          by_cases hz : z < n
          · have f1 := hlt hz
            clear hlt hge
            go_wp2_with fail
            refine (KZ.out).mono ?_
            rintro e w7 ⟨rfl, G7⟩
            have NX : ∃ j' : Nat, gk - 1 + j' = n + 1 ∧ j' ≤ n ∧ I ((z : Int) + 1) = I j' ∧ Hid (KGo pa (fun x => w.heap.size ≤ x) w w7 rb R) := ⟨z + 1, by omega, by omega, by simp, G7⟩
            have MS : gk - 1 < gk := by omega
            have M1 := hide NX
            have M2 := hide MS
            clear NX MS hq hzn
            go_wp2_with fail
            go_roundg (gk - 1)
            case measure => exact M2.out
            case rel => exact M1.out
          · have hze : z = n := by omega
            have f1 := hge hze
            subst hze
            clear hlt hge hq hzn
            go_wp2_with fail
            refine (KZ.out).mono ?_
            rintro e w7 ⟨rfl, G7⟩
            go_wp2_with fail
            go_ret
            exact ⟨rfl, (G7.out).1.mono fun x hx e => by omega⟩
      | none =>
        unfold waitV
        go_wp2_with fail
        go_loopg [19] 13 (fun q i wr => ∃ z : Nat, q + z = 13 ∧ i = I z ∧ Hid (KGo pa (fun x => w.heap.size ≤ x) w wr rb R))
        case atStart => exact ⟨0, by omega, rfl, G6.out⟩
        case round =>
          obtain ⟨z, hq, rfl, hst⟩ := hrel
          by_cases hz : z ≤ 12
          · have KZ := hide (KR.out wr z hz hst)
            have f1 : decide (aa ≤ rroom R.doses R.lims kk (R.now + z)) = false := decide_eq_false (by have := WO.out z (by omega); omega)
            generalize rroom R.doses R.lims kk (R.now + z) = rm at *
            go_wp2_with fail
            refine (KZ.out).mono ?_
            rintro e w7 ⟨rfl, G7⟩
            have NX : ∃ j' : Nat, gk - 1 + j' = 13 ∧ I ((z : Int) + 1) = I j' ∧ Hid (KGo pa (fun x => w.heap.size ≤ x) w w7 rb R) := ⟨z + 1, by omega, by simp, G7⟩
            have MS : gk - 1 < gk := by omega
            have M1 := hide NX
            have M2 := hide MS
            clear NX MS hq
            go_wp2_with fail
            go_roundg (gk - 1)
            case measure => exact M2.out
            case rel => exact M1.out
          · clear hq
            go_wp2_with fail
            go_ret
            exact ⟨rfl, (hst.out).1.mono fun x hx e => by omega⟩

end Go.Proofs.Ytpilmkipbbengaa
