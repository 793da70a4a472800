/- driplaw: played, every kind; All. -/
import Derived.Test.YtpilmkipbbengaaGreatDoorStpM
import Derived.Test.YtpilmkipbbengaaGreatDoorJstep
namespace Go.Proofs.YtpilmkipbbengaaGreatDoor
open Go.RowKit

theorem step_ws13 (pa : Rep) (P : Pumpy 25 32 46 14 78 pa) (O : Orderly 34 35 47 21 15 pa) {tab : World → Prop} (T : Telly 12 13 pa tab) (tk : ∀ {w w' : World}, tab w → Keep w w' → tab w') (RS : RReadSpec) (B wb k : Nat) (r : OpR) (w : World) (tb : tab w) (h : WS pa B wb k w) (hk : k ≤ 1400000000000) (ok : r.Ok w) (h5 : r.k ≤ 13) (hsl : r.s.data.toList.length ≤ 100000000) :
    Calls Tryz.prog 18 #[.pointer (some ⟨wb, 0, none⟩), opV r.k r.p r.a r.b r.c r.d r.ch (.slice r.al r.lims.length r.cl) r.lock (.string r.s)] w fun e w' => e = .returned (.bool true) ∧ WS pa B wb (k + 1) w' ∧ Frm (fun x => B ≤ x) w w' := by
  obtain ⟨vp, vd, vl, vm, ds, ms, ls, ps, h1, h2, h3, h4, h5'⟩ := h
  refine (step_any13 pa P O T tk RS B wb vp vd vl vm ds ms ls ps r.k r.p r.a r.b r.c r.d r.ch r.al r.lims r.cl r.lock r.s w tb h1 h5' ok.see ok.none ok.cap ok.n (by omega) (by omega) (by omega) h5 ok.p1 ok.p2 hsl).mono ?_
  rintro e w' ⟨rfl, vp, vd, vl, vm, ds', ms, ls', ps', g1, g2, g3, g4, g5, g6⟩
  exact ⟨rfl, ⟨vp, vd, vl, vm, ds', ms, ls', ps', g1, by omega, by omega, by omega, g5⟩, g6⟩

set_option maxRecDepth 100000 in
set_option maxHeartbeats 3200000 in
theorem played_any13 (pa : Rep) (P : Pumpy 25 32 46 14 78 pa) (O : Orderly 34 35 47 21 15 pa) {tab : World → Prop} (T : Telly 12 13 pa tab) (tk : ∀ {w w' : World}, tab w → Keep w w' → tab w') (RS : RReadSpec) (al : Option Addr) (rs : List OpR) (cap : Nat) (w : World)
    (tb : ∀ w', Frm (fun x => w.heap.size ≤ x) w w' → tab w') (h : ScriptAt w al rs) (hn : rs.length ≤ 1353245080300) (hsz : ∀ r ∈ rs, r.s.data.toList.length ≤ 100000000) :
    Calls Tryz.prog 8 #[.slice al rs.length cap, I 13] w fun r w' => r = .returned (.bool true) ∧ Frm (fun x => w.heap.size ≤ x) w w' := by
  have H := hide h
  have TB := hide tb
  have HSZ := hide hsz
  clear h tb hsz
  go_enter Tryz.func8, Tryz.ntmps8
  go_wp2_with fail
  refine (step_ws13 pa P O T tk RS w.heap.size w.heap.size 0 ⟨1, 0, 0, 0, 0, 0, 2, some ⟨w.heap.size + 1, 0, none⟩, [⟨3, 5, 10⟩, ⟨2, 2, 4⟩], 2, 3, ⟨#[]⟩⟩ _ (TB.out _ (((Frm.refl _ _).alloc _).alloc _)) (WS.new pa _ _ _ ((Blk.new _ _ _).alloc _) (Nat.le_refl _)) (by omega) (by simpa using ok_first (w.alloc (.cells #[.slice none 0 0, .slice none 0 0, .slice none 0 0, .slice none 0 0] 57)) _) (by simp) (by simp)).mono ?_
  rintro e w1 ⟨rfl, s1, f1⟩
  have S1 := hide (And.intro s1 f1)
  clear s1 f1
  go_wp2_with fail
  refine (step_ws13 pa P O T tk RS w.heap.size w.heap.size 1 ⟨2, 0, 0, 3, 0, 0, 0, none, [], 0, 0, ⟨#[]⟩⟩ _ (TB.out _ ((((Frm.refl _ _).alloc _).alloc _).trans (S1.out).2)) (S1.out).1 (by omega) (ok_nil _ _ _ _) (by simp) (by simp)).mono ?_
  rintro e w2 ⟨rfl, s2, f2⟩
  have S2 := hide (And.intro s2 f2)
  clear s2 f2
  go_wp2_with fail
  refine (step_ws13 pa P O T tk RS w.heap.size w.heap.size 2 ⟨2, 0, 1, 3, 0, 0, 0, none, [], 0, 0, ⟨#[]⟩⟩ _ (TB.out _ (((((Frm.refl _ _).alloc _).alloc _).trans (S1.out).2).trans (S2.out).2)) (S2.out).1 (by omega) (ok_nil _ _ _ _) (by simp) (by simp)).mono ?_
  rintro e w3 ⟨rfl, s3, f3⟩
  have S3 := hide (And.intro s3 f3)
  clear s3 f3
  go_wp2_with fail
  refine (step_ws13 pa P O T tk RS w.heap.size w.heap.size 3 ⟨3, 0, 3, 0, 0, 0, 0, none, [], 0, 0, ⟨#[]⟩⟩ _ (TB.out _ ((((((Frm.refl _ _).alloc _).alloc _).trans (S1.out).2).trans (S2.out).2).trans (S3.out).2)) (S3.out).1 (by omega) (ok_nil _ _ _ _) (by simp) (by simp)).mono ?_
  rintro e w4 ⟨rfl, s4, f4⟩
  have S4 := hide (And.intro s4 ((((S1.out).2.trans (S2.out).2).trans (S3.out).2).trans f4))
  clear s4 f4 S1 S2 S3
  go_wp2_with fail
  go_loopg [6, 7] rs.length (fun q ok i wr => ∃ j : Nat, q + j = rs.length ∧ i = I j ∧ ok = .bool true ∧ Hid (WS pa w.heap.size w.heap.size (4 + j) wr ∧ Frm (fun x => w.heap.size ≤ x) w wr))
  case atStart => exact ⟨0, by omega, rfl, rfl, hide ⟨(S4.out).1, (((Frm.refl _ _).alloc _).alloc _).trans (S4.out).2⟩⟩
  case round =>
    obtain ⟨j, hq, rfl, rfl, hk⟩ := hrel
    by_cases hj : j < rs.length
    · obtain ⟨r, hr⟩ : ∃ r, rs[j]? = some r := ⟨_, List.getElem?_eq_getElem hj⟩
      obtain ⟨g, o, rfl, hc, ok⟩ := script_at H.out (hk.out).2 hr
      have c0 := (hc 0 (by decide)).trans (show _ = some (I r.k) from rfl)
      have c1 := (hc 1 (by decide)).trans (show _ = some (I r.p) from rfl)
      have c2 := (hc 2 (by decide)).trans (show _ = some (I r.a) from rfl)
      have c3 := (hc 3 (by decide)).trans (show _ = some (I r.b) from rfl)
      have c4 := (hc 4 (by decide)).trans (show _ = some (I r.c) from rfl)
      have c5 := (hc 5 (by decide)).trans (show _ = some (I r.d) from rfl)
      have c6 := (hc 6 (by decide)).trans (show _ = some (I r.ch) from rfl)
      have c7 := (hc 7 (by decide)).trans (show _ = some (Value.slice r.al r.lims.length r.cl) from rfl)
      have c8 := (hc 8 (by decide)).trans (show _ = some (I r.lock) from rfl)
      have c9 := (hc 9 (by decide)).trans (show _ = some (Value.string r.s) from rfl)
      simp only [Nat.add_zero] at c0
      have HK := hide (And.intro hk.out (And.intro hq (And.intro ok hn)))
      have HSR := hide (HSZ.out r (List.mem_of_getElem? hr))
      clear hk hq hc ok hr hn
      by_cases h5 : r.k ≤ 13
      · have hb : 4 + j + 1 ≤ 1400000000000 := by have := (HK.out).2.2.2; omega
        have HB := hide hb
        have H5 := hide h5
        go_wp2_with fail
        refine (step_ws13 pa P O T tk RS w.heap.size w.heap.size (4 + j) r _ (TB.out _ (HK.out).1.2) (HK.out).1.1 (by have := HB.out; omega) (HK.out).2.2.1 H5.out HSR.out).mono ?_
        rintro e w5 ⟨rfl, s5, f5⟩
        have S5 := hide (And.intro s5 f5)
        clear s5 f5
        go_wp2_with fail
        refine (looks_ws P w.heap.size w.heap.size (4 + j + 1) _ (S5.out).1 HB.out).mono ?_
        rintro e w6 ⟨rfl, s6, k6⟩
        have S6 := hide (And.intro s6 k6)
        clear s6 k6
        go_wp2_with fail
        go_roundg (gk - 1)
        case measure => have := (HK.out).2.1; omega
        case rel => exact ⟨j + 1, by have := (HK.out).2.1; omega, by simp, rfl, hide ⟨(S6.out).1, ((HK.out).1.2.trans (S5.out).2).trans ((S6.out).2.mono (fun _ _ e => e.elim))⟩⟩
      · have hb : 4 + j ≤ 1400000000000 := by have := (HK.out).2.2.2; omega
        have HB := hide hb
        go_wp2_with fail
        refine (looks_ws P w.heap.size w.heap.size (4 + j) _ (HK.out).1.1 HB.out).mono ?_
        rintro e w6 ⟨rfl, s6, k6⟩
        have S6 := hide (And.intro s6 k6)
        clear s6 k6
        go_wp2_with fail
        go_roundg (gk - 1)
        case measure => have := (HK.out).2.1; omega
        case rel => exact ⟨j + 1, by have := (HK.out).2.1; omega, by simp, rfl, hide ⟨(S6.out).1.more (by omega), (HK.out).1.2.trans ((S6.out).2.mono (fun _ _ e => e.elim))⟩⟩
    · have HK := hide (And.intro hk.out hq)
      clear hk hq
      go_wp2_with fail
      go_ret
      exact ⟨rfl, (HK.out).1.2⟩

set_option maxRecDepth 100000 in
theorem all_any (pa : Rep) (P : Pumpy 25 32 46 14 78 pa) (O : Orderly 34 35 47 21 15 pa) {tab : World → Prop} (T : Telly 12 13 pa tab) (tk : ∀ {w w' : World}, tab w → Keep w w' → tab w') (RS : RReadSpec) (al : Option Addr) (rs : List OpR) (cap : Nat) (w : World)
    (tb : ∀ w', Frm (fun x => w.heap.size ≤ x) w w' → tab w') (h : ScriptAt w al rs) (hn : rs.length ≤ 1353245080300) (hsz : ∀ r ∈ rs, r.s.data.toList.length ≤ 100000000) :
    Calls Tryz.prog 7 #[.slice al rs.length cap] w fun r w' => r = .returned (.bool true) ∧ Frm (fun x => w.heap.size ≤ x) w w' := by
  have C := hide (played_any13 pa P O T tk RS al rs cap w tb h hn hsz)
  clear h hn tb hsz
  go_enter Tryz.func7, Tryz.ntmps7
  go_wp2_with fail
  refine (C.out).mono ?_
  rintro e w2 ⟨rfl, f⟩
  have F := hide f
  clear f
  go_wp2_with fail
  go_ret
  exact ⟨rfl, F.out⟩

end Go.Proofs.YtpilmkipbbengaaGreatDoor
