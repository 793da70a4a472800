/- Greatest. -/
import Derived.Test.YtpilmkipbbengaaKGst
import Derived.Test.YtpilmkipbbengaaK12
namespace Go.Proofs.Ytpilmkipbbengaa
open Go.RowKit

/-- a slice of ints, read only -/
def SeeI (w : World) (a : Option Addr) (ns : List Int) : Prop := ns = [] ∨ ∃ g o, a = some ⟨g, o, none⟩ ∧ g < w.heap.size ∧ ∀ (i : Nat) (n : Int), ns[i]? = some n → w.cell? ⟨g, o + i, none⟩ = some (I n)

def rho (ns : List Int) (k : Nat) : Int := match ns[k]? with
  | some n => pk n 20
  | none => 0

theorem rho_bd (ns : List Int) (k : Nat) : 0 ≤ rho ns k ∧ rho ns k ≤ 1000 := by
  unfold rho
  split
  · rename_i n _
    have := pk_lo n (n := 20) (by omega)
    have := pk_hi n (n := 20) (by omega)
    exact ⟨by omega, by omega⟩
  · exact ⟨by omega, by omega⟩

/-- the pump behind the first rates -/
def gPump (lims : List Lim) (lk : Int) (ρ : Nat → Int) : Nat → RSt
  | 0 => rnew 3 lims lk
  | k + 1 => basalR (gPump lims lk ρ k) k (ρ k) 0

def gArr (ρ : Nat → Int) (j k : Nat) : Int := if k < j then ρ k else 0

set_option maxRecDepth 100000 in
set_option maxHeartbeats 3200000 in
theorem greatest_any {pa : Rep} (P : Pumpy 24 18 19 13 16 pa) (O : Orderly 20 22 21 25 43 pa) (CF : ConfigSpec) (ac : Option Addr) (caps : List Lim) (cpc : Nat) (ra : Option Addr) (ns : List Int) (cpr : Nat) (ticks : Int) (w : World)
    (hs : SeeL w ac caps) (hin : ∀ x ∈ caps, x.In) (hr : SeeI w ra ns) (hni : ∀ n ∈ ns, In64 n) (ht : In64 ticks) :
    Calls Try.prog 5 #[.slice ac caps.length cpc, .slice ra ns.length cpr, I ticks] w fun e w' => e = .returned (.bool true) ∧ Keep w w' := by
  obtain ⟨tt, -, tt0, tt1, PT⟩ := kpick_some ticks 40 (by omega) (by omega) ht
  obtain ⟨tt, rfl⟩ := Int.eq_ofNat_of_zero_le tt0
  have OR : Hid (Calls Try.prog 8 #[] w fun e w' => e = .returned (.bool true) ∧ Hid (Keep w w')) := (kordered_any P O w).mono fun e w' q => q
  have CG : Hid (∀ w0, Keep w w0 → Calls Try.prog 10 #[.slice ac caps.length cpc, I 0] w0 fun e w1 => ∃ a n c, e = .returned (.agg #[I 3, .slice a n c, I (pk 0 10)]) ∧ Hid (Keep w w1 ∧ CfgAt w1 (.slice a n c) (limsOf caps) (pk 0 10))) := by
    intro w0 k0
    refine (CF ac caps cpc 0 w0 (hs.frm k0 fun _ _ _ e => e) hin ⟨by omega, by omega⟩).mono ?_
    rintro e w1 ⟨v, rfl, k1, hr, -⟩
    obtain ⟨a, c, rfl⟩ := row_slice hr
    exact ⟨a, _, c, rfl, k0.trans k1, cfg_at hr⟩
  generalize pk 0 10 = lk at *
  generalize limsOf caps = lims at *
  have FR : Hid (∀ w1 a n c, Hid (Keep w w1 ∧ CfgAt w1 (.slice a n c) lims lk) → Calls Try.prog 17 #[.agg #[I 3, .slice a n c, I lk]] w1 fun e w3 => ∃ rb, e = .returned (.pointer (some ⟨rb, 0, none⟩)) ∧ w.heap.size ≤ w3.heap.size ∧ Hid (KGSt pa w (w3.alloc (.cells #[I 0, I 0, I 0] 47)) rb w3.heap.size (gPump lims lk (rho ns) 0) (gArr (rho ns) 0))) := by
    intro w1 a n c hh
    obtain ⟨k1, hc⟩ := hh.out
    refine (kfresh_any P (fun x => w1.heap.size ≤ x) (.slice a n c) lims lk _ hc (fun x hx => hx)).mono ?_
    rintro e w3 ⟨rb, pb, F, rfl, k3, hk⟩
    have kb : Keep w3 (w3.alloc (.cells #[I 0, I 0, I 0] 47)) := (Frm.refl _ _).alloc _
    have s1 := k1.size
    have s3 := k3.size
    refine ⟨rb, rfl, by omega, ⟨(k1.trans k3).trans kb, ⟨pb, F, _, _, (hk.into (P.lt hk.pump) (fun x h1 h2 => ?_)).keep P.frm kb⟩, new_kok hc.fine, Blk.new _ _ _⟩⟩
    have h1 : w1.heap.size ≤ x := h1
    exact ⟨by omega, by omega⟩
  have H := hide (And.intro hr hni)
  clear hs hin hr hni
  go_enter Try.func5, Try.ntmps5
  go_wp2_with fail
  refine (OR.out).mono ?_
  rintro e w0 ⟨rfl, K0⟩
  go_wp2_with fail
  refine (CG.out w0 K0.out).mono ?_
  rintro e w1 ⟨a, n, c, rfl, H1⟩
  go_wp2_with fail
  refine (FR.out w1 a n c H1).mono ?_
  rintro e w3 ⟨rb, rfl, hab, H3⟩
  clear OR CG FR H1 K0
  go_wp2_with fail
  generalize w3.alloc (.cells #[I 0, I 0, I 0] 47) = w4 at *
  generalize w3.heap.size = ab at *
  go_loopg [10, 11] 3 (fun q i _ wr => ∃ j : Nat, q + j = 3 ∧ i = I j ∧ Hid (KGSt pa w wr rb ab (gPump lims lk (rho ns) j) (gArr (rho ns) j)))
  case atStart => exact ⟨0, by omega, rfl, H3.out⟩
  case round =>
    obtain ⟨j, hq, rfl, hst⟩ := hrel
    by_cases hj : j < 3
    · have MS : Hid (gk - 1 < gk) := by unfold Hid; omega
      have NX : Hid (∀ wz, KGSt pa w wz rb ab (gPump lims lk (rho ns) (j + 1)) (gArr (rho ns) (j + 1)) → ∃ j' : Nat, gk - 1 + j' = 3 ∧ I ((j : Int) + 1) = I j' ∧ Hid (KGSt pa w wz rb ab (gPump lims lk (rho ns) j') (gArr (rho ns) j'))) := fun wz h => ⟨j + 1, by omega, by simp, h⟩
      obtain ⟨pb, x0, -⟩ := (hst.out).basal P hj (rho_bd ns j).1 (rho_bd ns j).2
      have xr := garr_cell (hst.out).arr hj
      have xf := (hst.out).arr.frozen j
      have lab := (hst.out).arr.lt
      have lrb : rb < wr.heap.size := by
        obtain ⟨pb, F, vl, vd, hh⟩ := (hst.out).at_
        exact hh.rd.head.lt
      have hne : rb ≠ ab := by
        obtain ⟨pb, F, vl, vd, hh⟩ := (hst.out).at_
        exact hh.lb.2
      have BAS : Hid (∀ wz, KGSt pa w wz rb ab (gPump lims lk (rho ns) j) (gArr (rho ns) (j + 1)) → wz.cell? ⟨rb, 0, none⟩ = some (.pointer (some ⟨pb, 0, none⟩)) → ∀ W, Keep wz W → Calls Try.prog 18 #[.pointer (some ⟨pb, 0, none⟩), I j, I (rho ns j), I 0] W fun e w2 => e = .returned (I 0) ∧ w2.cell? ⟨rb, 0, none⟩ = some (.pointer (some ⟨pb, 0, none⟩)) ∧ w2.cell? ⟨ab, j, none⟩ = some (I (rho ns j)) ∧ Hid (KGSt pa w w2 rb ab (gPump lims lk (rho ns) (j + 1)) (gArr (rho ns) (j + 1)))) := by
        intro wz hz c0 W kW
        obtain ⟨pb', y0, B⟩ := hz.basal P hj (rho_bd ns j).1 (rho_bd ns j).2
        rw [c0] at y0
        injection y0 with y0; injection y0 with y0; injection y0 with y0; injection y0 with y0
        subst y0
        refine (B W kW).mono ?_
        rintro e w2 ⟨rfl, z0, z1, h2⟩
        have e1 : gArr (rho ns) (j + 1) j = rho ns j := by simp [gArr]
        rw [e1] at z1
        exact ⟨rfl, z0, z1, h2⟩
      have w1 : IntKind.i64.wrap ((j : Int) + 1) = (j : Int) + 1 := wrap_id _ (by omega) (by omega)
      by_cases hjn : j < ns.length
      · obtain ⟨n', hn'⟩ : ∃ n', ns[j]? = some n' := ⟨_, List.getElem?_eq_getElem hjn⟩
        obtain ⟨hr, hni⟩ := H.out
        rcases hr with e | ⟨g, o, rfl, hg, hcells⟩
        · rw [e] at hn'; simp at hn'
        have cj := (hst.out).frm.cell (hcells j n' hn') id
        have lg : g < wr.heap.size := Nat.lt_of_lt_of_le hg (hst.out).frm.size
        obtain ⟨rr, hrr, r0, r1, PK⟩ := kpick_some n' 20 (by omega) (by omega) (hni n' (List.mem_of_getElem? hn'))
        have erho : rho ns j = rr := by simp [rho, hn', hrr]
        have NG : Hid (KGSt pa w (wr.setCell ⟨ab, j, none⟩ (I (rho ns j))) rb ab (gPump lims lk (rho ns) j) (gArr (rho ns) (j + 1))) := by
          refine ((hst.out).rated P.frm hj hab).sameA fun k hk => ?_
          unfold gArr
          by_cases q : k = j
          · subst q; simp
          · rw [if_neg q]
            by_cases q2 : k < j
            · rw [if_pos q2, if_pos (by omega)]
            · rw [if_neg q2, if_neg (by omega)]
        have ER := hide erho
        rw [erho] at BAS NG
        have hne' : ab ≠ rb := fun e => hne e.symm
        have hj1 : (j : Int) < ns.length := by omega
        have c0' : (wr.setCell ⟨ab, j, none⟩ (I rr)).cell? ⟨rb, 0, none⟩ = some (.pointer (some ⟨pb, 0, none⟩)) := (show Frm (fun x => x = ab) wr _ from (Frm.refl (fun x => x = ab) wr).setCell (p := ⟨ab, j, none⟩) rfl _).cell x0 hne
        clear hst hq hcells hn' hni hjn hrr erho
        go_wp2_with fail
        refine (PK.out _).mono ?_
        rintro e w5 ⟨rfl, hw⟩
        have hw' := hw.symm
        subst hw'
        go_wp2_with fail
        have z1 : (wr.setCell ⟨ab, j, none⟩ (I rr)).cell? ⟨ab, j, none⟩ = some (I rr) := by
          have := garr_cell (NG.out).arr hj
          rwa [show gArr (rho ns) (j + 1) j = rr by simp [gArr, (ER.out)]] at this
        have BB := hide (BAS.out _ NG.out c0')
        clear BAS
        generalize wr.setCell ⟨ab, j, none⟩ (I rr) = wz at *
        go_region_held3 (fun w' => w'.cell? ⟨rb, 0, none⟩ = some (.pointer (some ⟨pb, 0, none⟩)) ∧ w'.cell? ⟨ab, j, none⟩ = some (I rr)) (((try dsimp only); (repeat' apply And.intro) <;> (go_keep; done))) (first | (go_at_call 18; refine (BB.out _ (Frm.refl _ _).drew).mono ?_; rintro e w2 ⟨rfl, y0, y1, G2⟩))
        go_wp2_with fail
        go_roundg (gk - 1)
        case measure => exact MS.out
        case rel => exact NX.out _ G2.out
      · have erho : rho ns j = 0 := by simp [rho, List.getElem?_eq_none (Nat.le_of_not_lt hjn)]
        have NG : Hid (KGSt pa w wr rb ab (gPump lims lk (rho ns) j) (gArr (rho ns) (j + 1))) := by
          refine (hst.out).sameA fun k hk => ?_
          unfold gArr
          by_cases q : k = j
          · subst q; simp [erho]
          · by_cases q2 : k < j
            · rw [if_pos q2, if_pos (by omega)]
            · rw [if_neg q2, if_neg (by omega)]
        have z1 : wr.cell? ⟨ab, j, none⟩ = some (I 0) := by
          have := garr_cell (NG.out).arr hj
          rwa [show gArr (rho ns) (j + 1) j = 0 by simp [gArr, erho]] at this
        have BB := hide (BAS.out _ NG.out x0)
        rw [erho] at BB
        have hj1 : decide (j < ns.length) = false := decide_eq_false hjn
        clear hst hq BAS xr erho hjn
        go_wp2_with fail
        go_region_held3 (fun w' => w'.cell? ⟨rb, 0, none⟩ = some (.pointer (some ⟨pb, 0, none⟩)) ∧ w'.cell? ⟨ab, j, none⟩ = some (I 0)) (((try dsimp only); (repeat' apply And.intro) <;> (go_keep; done))) (first | (go_at_call 18; refine (BB.out _ (Frm.refl _ _).drew).mono ?_; rintro e w2 ⟨rfl, y0, y1, G2⟩))
        go_wp2_with fail
        go_roundg (gk - 1)
        case measure => exact MS.out
        case rel => exact NX.out _ G2.out
    · have hj3 : j = 3 := by omega
      have GG : Hid (∃ D, KGSt pa w wr rb ab (gS lims lk (rho ns) (0 : Nat) D) (rho ns)) := by
        have h := hst.out
        rw [hj3] at h
        have e : gPump lims lk (rho ns) 3 = gS lims lk (rho ns) 0 [] := gbasal lims lk (rho ns) (rho_bd ns)
        rw [e] at h
        exact ⟨[], h.sameA fun k hk => by simp [gArr, hk]⟩
      have wt : IntKind.i64.wrap (1 + (tt : Int)) = 1 + (tt : Int) := wrap_id _ (by omega) (by omega)
      clear hst hq hj3
      go_wp2_with fail
      go_loopg [12, 13, 14, 15, 16, 17, 18] (1 + tt) (fun q i _ _ _ _ _ _ wr => ∃ T : Nat, q + T = 1 + tt ∧ i = I T ∧ Hid (∃ D, KGSt pa w wr rb ab (gS lims lk (rho ns) T D) (rho ns)))
      case atStart => exact ⟨0, by omega, rfl, GG.out⟩
      case round =>
        obtain ⟨T, hq, rfl, hst⟩ := hrel
        obtain ⟨gq, hgq⟩ : ∃ x, x = gk := ⟨_, rfl⟩
        have PT' := hide (PT.out wr)
        by_cases hT : T < 1 + tt
        · obtain ⟨D, hg⟩ := hst.out
          obtain ⟨pb, x0, RUN⟩ := hg.run P (show (gS lims lk (rho ns) T D).now + 1 ≤ 400 by show (T : Int) + 1 ≤ 400; omega)
          have RN := hide (RUN wr (Frm.refl _ _))
          rw [gtick] at RN
          have e1 : (gS lims lk (rho ns) (T + 1) (gD lims (rho ns) T D 3)).doses = gD lims (rho ns) T D 3 := rfl
          have e2 : (gS lims lk (rho ns) T D).doses = D := rfl
          have e3 : (gS lims lk (rho ns) T D).now = T := rfl
          rw [e1, e2, e3] at RN
          have OK : Hid (KOk (gS lims lk (rho ns) (T + 1) (gD lims (rho ns) T D 3))) := by
            have := runs_ok hg.ok 1 (show (T : Int) + 1 ≤ 400 by omega)
            have e : rticks 1 (gS lims lk (rho ns) T D) = rtick (gS lims lk (rho ns) T D) := rfl
            rw [e, gtick] at this
            exact this
          have SAFE : Hid (∀ k, k ≤ 3 → SafeL (gD lims (rho ns) T D k) lims) := by
            intro k hk
            have hn : (gS lims lk (rho ns) T D).doses.length ≤ 1996 := by
              have := hg.ok.full.1
              have e : (gS lims lk (rho ns) T D).now = T := rfl
              rw [e] at this
              omega
            have := (tks_told hg.ok.ok (show (T : Int) < 400 by omega) hn hg.ok.told k (by omega)).safe
            rw [gtks lims lk (rho ns) T D k hk] at this
            exact this
          generalize hxs : (gD lims (rho ns) T D 3).drop D.length = xs at RN
          have HX := hide hxs
          have MS : Hid (gq - 1 < gk) := by unfold Hid; omega
          have NX : Hid (∀ wz, (∃ D, KGSt pa w wz rb ab (gS lims lk (rho ns) (T + 1 : Nat) D) (rho ns)) → ∃ T' : Nat, gq - 1 + T' = 1 + tt ∧ I ((T : Int) + 1) = I T' ∧ Hid (∃ D, KGSt pa w wz rb ab (gS lims lk (rho ns) T' D) (rho ns))) := fun wz h => ⟨T + 1, by omega, by simp, h⟩
          clear hst RUN hg e1 e2 e3 hxs hq hgq
          have lt : (T : Int) < 1 + (tt : Int) := by omega
          go_wp2_with fail
          refine (PT'.out).mono ?_
          rintro e w5 ⟨rfl, hw⟩
          have hw' := hw.symm
          subst hw'
          go_wp2_with fail
          refine (RN.out).mono ?_
          rintro e w6 ⟨al, cl, rfl, G6⟩
          clear PT' x0 RN
          go_wp2_with fail
          go_loopg [15, 16, 17, 18] 3 (fun q at' i _ _ wr => ∃ k : Nat, q + k = 3 ∧ i = I k ∧ at' = I (((gD lims (rho ns) T D k).length - D.length : Nat) : Int) ∧ Hid (KGLag pa w wr rb ab (gS lims lk (rho ns) (T + 1) (gD lims (rho ns) T D 3)) (gD lims (rho ns) T D k) T (rho ns) (.slice al xs.length cl) xs))
          case atStart => exact ⟨0, by omega, rfl, by simp [gD], G6.out⟩
          case round =>
            obtain ⟨k, hq, rfl, rfl, hst⟩ := hrel
            by_cases hk : k < 3
            · have MK : Hid (gk - 1 < gk) := by unfold Hid; omega
              have SF := room_nonneg (k := k) (t := (T : Int)) (fun l hl => (SAFE.out) k (by omega) l hl T)
              have RB := rho_bd ns k
              have hpre : gD lims (rho ns) T D k <+: gD lims (rho ns) T D 3 := by
                have := gD_mono lims (rho ns) T D k (3 - k)
                rwa [show k + (3 - k) = 3 by omega] at this
              have hnx := g_next (lims := lims) (ρ := rho ns) (t := T) (D := D) hk
              rw [HX.out] at hnx
              have hs1 : gD lims (rho ns) T D (k + 1) = if gA lims (rho ns) T (gD lims (rho ns) T D k) k ≤ 0 then gD lims (rho ns) T D k else gD lims (rho ns) T D k ++ [⟨T, k, gA lims (rho ns) T (gD lims (rho ns) T D k) k⟩] := rfl
              have ROOM : Hid (∀ W, Keep wr W → Calls Try.prog 14 #[.pointer (some ⟨rb, 0, none⟩), I k, I 0] W fun e w2 => e = .returned (I (rroom (gD lims (rho ns) T D k) lims k T)) ∧ w2.cell? ⟨ab, k, none⟩ = some (I (rho ns k)) ∧ Hid (Keep wr w2)) := by
                intro W kW
                refine ((hst.out).room OK.out hpre (by omega) (by omega) k (by omega) W kW).mono ?_
                rintro e w2 ⟨rfl, k2⟩
                exact ⟨rfl, garr_cell (k2.blk (hst.out).arr) hk, k2⟩
              have y0 := garr_cell (hst.out).arr hk
              have lab := (hst.out).arr.lt
              have hga : gA lims (rho ns) T (gD lims (rho ns) T D k) k = if rroom (gD lims (rho ns) T D k) lims k T < rho ns k then rroom (gD lims (rho ns) T D k) lims k T else rho ns k := rfl
              generalize rroom (gD lims (rho ns) T D k) lims k T = rm at *
              generalize rho ns k = rk at *
              generalize gA lims (rho ns) T (gD lims (rho ns) T D k) k = n' at *
              have HH := hide (And.intro hs1 (And.intro hnx hga))
              have HQ := hide hq
              clear hs1 hnx hga hq
              go_wp2_with fail
              go_region_held3 (fun w' => w'.cell? ⟨ab, k, none⟩ = some (I rk)) (((try dsimp only); (go_keep; done))) (first | (go_at_call 14; refine (ROOM.out _ (Frm.refl _ _).drew).mono ?_; rintro e w2 ⟨rfl, y1, K2⟩))
              have hga := (HH.out).2.2
              rw [← hga]
              have n0 : 0 ≤ n' := by rw [hga]; split <;> omega
              have n1 : n' ≤ 1000 := by rw [hga]; split <;> omega
              clear hga
              have GK := hide ((hst.out).keep P.frm K2.out)
              by_cases hz : n' = 0
              · have e1 : gD lims (rho ns) T D (k + 1) = gD lims (rho ns) T D k := by
                  rw [(HH.out).1, if_pos (by omega)]
                subst hz
                have RL : Hid (∃ k' : Nat, gk - 1 + k' = 3 ∧ I ((k : Int) + 1) = I k' ∧ I (((gD lims (rho ns) T D k).length - D.length : Nat) : Int) = I (((gD lims (rho ns) T D k').length - D.length : Nat) : Int) ∧ Hid (KGLag pa w w2 rb ab (gS lims lk (rho ns) (T + 1) (gD lims (rho ns) T D 3)) (gD lims (rho ns) T D k') T (rho ns) (.slice al xs.length cl) xs)) := by
                  refine ⟨k + 1, by have := HQ.out; omega, by simp, by rw [e1], ?_⟩
                  rw [e1]
                  exact GK
                clear e1 HH ROOM hst
                go_wp2_with fail
                go_roundg (gk - 1)
                case measure => exact MK.out
                case rel => exact RL.out
              · have e1 : gD lims (rho ns) T D (k + 1) = gD lims (rho ns) T D k ++ [⟨T, k, n'⟩] := by
                  rw [(HH.out).1, if_neg (by omega)]
                have hm := (HH.out).2.1 (by omega)
                obtain ⟨pb, F, vl, vd, h1, hrest⟩ := (GK.out).at_
                have hrow := (GK.out).row
                obtain ⟨g, cap, hv, -, hcell, -⟩ := row_at hrow (fun _ => rfl) hm (by decide)
                injection hv with hv1 hv2 hv3
                subst hv1
                have d0 := hcell 0 (by decide)
                have d1 := hcell 1 (by decide)
                have d2 := hcell 2 (by decide)
                simp [dsC] at d0 d1 d2
                have lg := (hrow.lt g rfl).2
                have lrb := h1.head.lt
                have hml := (List.getElem?_eq_some_iff.1 hm).1
                obtain ⟨ad, cpd, hvd⟩ := row_slice h1.row
                have hvd' : vd = .slice ad (gD lims (rho ns) T D k).length cpd := hvd
                have x4 : w2.cell? ⟨rb, 4, none⟩ = some (.slice ad (gD lims (rho ns) T D k).length cpd) := by rw [h1.head.cell, ← hvd']; rfl
                have hr1 : w2.ownsRow 0 52 3 (.slice ad (gD lims (rho ns) T D k).length cpd) (gD lims (rho ns) T D k).length ((gD lims (rho ns) T D k).flatMap dsC) := by rw [← hvd']; exact h1.row
                have hpl := (gD_pre lims (rho ns) T D k).length_le
                have hdl : (gD lims (rho ns) T D k).length ≤ 2000 := Nat.le_trans hpre.length_le (OK.out).ok.nd
                have hxl : xs.length ≤ 2000 := by
                  rw [← HX.out]
                  have : (gD lims (rho ns) T D 3).length ≤ 2000 := (OK.out).ok.nd
                  simp; omega
                have MORE : Hid (∀ (wz w5 : World) (v5 : Value), Keep w2 wz → w5.ownsRow 0 52 3 v5 ((gD lims (rho ns) T D k).length + 1) ((gD lims (rho ns) T D k).flatMap dsC ++ [I T, I k, I n']) → wz.grownBy w5 (Value.slice ad (gD lims (rho ns) T D k).length cpd).ownBlock → (v5.ownBlock = (Value.slice ad (gD lims (rho ns) T D k).length cpd).ownBlock ∨ (v5.ownBlock = some wz.heap.size ∧ wz.grownBy w5 none)) → w5.cell? ⟨rb, 4, none⟩ = some (.slice ad (gD lims (rho ns) T D k).length cpd) ∧ w5.frozen? ⟨rb, 4, none⟩ = false ∧ rb < w5.heap.size ∧ Hid (∃ k' : Nat, gk - 1 + k' = 3 ∧ I ((k : Int) + 1) = I k' ∧ I ((((gD lims (rho ns) T D k).length - D.length : Nat) : Int) + 1) = I (((gD lims (rho ns) T D k').length - D.length : Nat) : Int) ∧ Hid (KGLag pa w (w5.setCell ⟨rb, 4, none⟩ v5) rb ab (gS lims lk (rho ns) (T + 1) (gD lims (rho ns) T D 3)) (gD lims (rho ns) T D k') T (rho ns) (.slice (some ⟨g, 0, none⟩) xs.length cl) xs))) := by
                  intro wz w5 v5 kz hown hg hnew
                  have b5 := (kz.blk h1.head).frm (grown_frm hg) (fun e => h1.sd (by rw [← hvd'] at e; exact e))
                  rw [← hvd'] at hg hnew
                  refine ⟨by rw [b5.cell, ← hvd']; rfl, b5.frozen 4, b5.lt, k + 1, by have := HQ.out; omega, by simp, ?_, ?_⟩
                  · rw [e1, List.length_append, List.length_singleton]
                    congr 1
                    omega
                  · rw [e1]
                    exact KGLag.more P.frm P.lt (GK.out).frm ⟨h1, hrest⟩ (GK.out).arr hrow kz hown hg hnew
                have ROW := hide hr1
                obtain ⟨iD, hiD, hz0, hz1, hz2⟩ := info_parts infoD
                have wm : IntKind.i64.wrap ((((gD lims (rho ns) T D k).length - D.length : Nat) : Int) + 1) = (((gD lims (rho ns) T D k).length - D.length : Nat) : Int) + 1 := wrap_id _ (by omega) (by omega)
                clear hst hv2 hv3 hcell hvd hvd' hr1 h1 hrest hrow hm e1 GK HH ROOM hpl G6 HX
                generalize gD lims (rho ns) T D k = dk at *
                generalize dk.length - D.length = m at *
                have hz' : (n' == 0) = false := by simpa using hz
                go_wp2_with fail
                go_quiet (fail)
                go_wp2_with fail
                have KW : Keep w2 ((w2.alloc (.cells #[I T, I k, I n'] 52)).drewN nq) := ((Frm.refl _ _).alloc _).drewN nq
                have bW : Blk ((w2.alloc (.cells #[I T, I k, I n'] 52)).drewN nq) w2.heap.size #[I T, I k, I n'] 52 := (Blk.new w2 _ _).drewN nq
                have z4 := KW.cell (p := ⟨rb, 4, none⟩) x4 id
                have u0 : ((w2.alloc (.cells #[I T, I k, I n'] 52)).drewN nq).cell? ⟨w2.heap.size, 0, none⟩ = some (I T) := by rw [bW.cell]; rfl
                have u1 : ((w2.alloc (.cells #[I T, I k, I n'] 52)).drewN nq).cell? ⟨w2.heap.size, 1, none⟩ = some (I k) := by rw [bW.cell]; rfl
                have u2 : ((w2.alloc (.cells #[I T, I k, I n'] 52)).drewN nq).cell? ⟨w2.heap.size, 2, none⟩ = some (I n') := by rw [bW.cell]; rfl
                have lW := bW.lt
                have lrW : rb < ((w2.alloc (.cells #[I T, I k, I n'] 52)).drewN nq).heap.size := Nat.lt_of_lt_of_le lrb KW.size
                have KW' := hide KW
                clear KW bW x4 d0 d1 d2 y1 K2 lrb lg
                generalize (w2.alloc (.cells #[I T, I k, I n'] 52)).drewN nq = W at *
                generalize w2.heap.size = db at *
                go_region_law (refine step_append_row rfl (.tmp 109) (.tmp 111) 36 rfl 52 iD (.agg #[I 0, I 0, I 0]) 3 24 Try.underlying36 hiD hz0 hz1 hz2 rfl (by decide) (.slice ad dk.length cpd) dk.length (dk.flatMap dsC) (by first | simp [Act.eval] | simp [Act.eval, Act.put]) (by exact row_frm (row_frm ROW.out KW'.out (fun _ _ e => e)) (show Keep _ _ from ((Frm.refl _ _).alloc _).drew) (fun _ _ e => e)) ⟨W.heap.size, 0, none⟩ 1 1 [I T, I k, I n'] (by first | simp [Act.eval] | simp [Act.eval, Act.put]) rfl (by exact cell_news _ [I T, I k, I n'] _ _ rfl) (by intro u hu; simp at hu; rcases hu with rfl | rfl | rfl <;> rfl) (by unfold maxLen; omega) (by omega) ?_; intro v5 w5 hown5 hgr5 hnew5; obtain ⟨a5, cp5, hv5⟩ := row_slice hown5; subst hv5; obtain ⟨c54, f54, l54, FIVE⟩ := MORE.out _ w5 _ ((KW'.out).trans (show Keep _ _ from ((Frm.refl _ _).alloc _).drew)) hown5 hgr5 hnew5; clear hown5 hgr5 hnew5)
                all_goals go_wp2_with fail
                all_goals go_roundg (gk - 1)
                all_goals first | exact MK.out | exact FIVE.out
            · have hk3 : k = 3 := by omega
              have h := hst.out
              rw [hk3] at h
              have hml : (gD lims (rho ns) T D k).length - D.length = xs.length := by rw [hk3, ← HX.out]; simp
              have c5 : wr.cell? ⟨rb, 5, none⟩ = some (I (T : Int)) := by
                obtain ⟨pb, F, vl, vd, h1, -⟩ := h.at_
                rw [h1.head.cell]; rfl
              have f5 : wr.frozen? ⟨rb, 5, none⟩ = false := by
                obtain ⟨pb, F, vl, vd, h1, -⟩ := h.at_
                exact h1.head.frozen 5
              have lrb : rb < wr.heap.size := by
                obtain ⟨pb, F, vl, vd, h1, -⟩ := h.at_
                exact h1.head.lt
              have wT : IntKind.i64.wrap ((T : Int) + 1) = (T : Int) + 1 := wrap_id _ (by omega) (by omega)
              have FIN : Hid (∃ T' : Nat, gq - 1 + T' = 1 + tt ∧ I ((T : Int) + 1) = I T' ∧ Hid (∃ D, KGSt pa w (wr.setCell ⟨rb, 5, none⟩ (I ((T : Int) + 1))) rb ab (gS lims lk (rho ns) T' D) (rho ns))) :=
                NX.out _ ⟨_, h.tick P.frm OK.out rfl rfl⟩
              rw [hml]
              clear hst h hq hml hk3 NX HX G6
              go_wp2_with fail
              go_roundg (gq - 1)
              case measure => exact MS.out
              case rel => exact FIN.out
        · have HK := hide (show Keep w wr by obtain ⟨D, hg⟩ := hst.out; exact hg.frm)
          clear hst hq
          go_wp2_with fail
          refine (PT'.out).mono ?_
          rintro e w5 ⟨rfl, hw⟩
          have hw' := hw.symm
          subst hw'
          go_wp2_with fail
          go_ret
          exact ⟨rfl, HK.out⟩

end Go.Proofs.Ytpilmkipbbengaa
