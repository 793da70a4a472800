/- driplaw: step for KTell and KAgain; for every kind. -/
import Derived.Test.YtpilmkipbbengaaGreatDoorJgM
import Derived.Test.YtpilmkipbbengaaGreatDoorPlM
namespace Go.Proofs.YtpilmkipbbengaaGreatDoor
open Go.RowKit

theorem jtext_len {R : RSt} (ok : R.Ok) : (jtext R.doses R.now).length ≤ 1000000 := by
  have h1 := jbody_len ok.doses
  have h2 := jdig_len (n := R.now) (by have := ok.now1; omega)
  have nd := ok.nd
  have e : jtext R.doses R.now = jbody R.doses ++ (jlast R.now ++ [10]) := rfl
  rw [e]
  simp [jlast]
  omega

theorem row_see {w : World} {v : Value} {lims : List Lim} (h : w.ownsRow 0 60 3 v lims.length (lims.flatMap limC)) : ∃ a cap, v = .slice a lims.length cap ∧ SeeL w a lims ∧ (a = none → lims.length = 0 ∧ cap = 0) := by
  rcases h.2 with ⟨rfl, h2⟩ | ⟨g, cap, cur, rfl, r1, r2, r3⟩
  · have : lims = [] := List.eq_nil_of_length_eq_zero h2
    exact ⟨none, 0, by rw [h2], Or.inl this, fun _ => ⟨h2, rfl⟩⟩
  · refine ⟨some ⟨g, 0, none⟩, cap, rfl, Or.inr ⟨g, 0, rfl, (h.lt g rfl).2, ?_⟩, fun e => by cases e⟩
    intro i l hl
    obtain ⟨g', cap', e, -, hc, -⟩ := row_at h (fun _ => rfl) hl (by decide)
    injection e with e1 e2 e3
    injection e1 with e1
    injection e1 with e1
    subst e1
    have c0 := hc 0 (by decide)
    have c1 := hc 1 (by decide)
    have c2 := hc 2 (by decide)
    simp only [limC] at c0 c1 c2
    refine ⟨?_, ?_, ?_⟩
    · simpa using c0
    · simpa using c1
    · simpa using c2

theorem row_cap {w : World} {v : Value} {lims : List Lim} {a : Option Addr} {cap : Nat} (h : w.ownsRow 0 60 3 v lims.length (lims.flatMap limC)) (hv : v = .slice a lims.length cap) : lims.length ≤ cap := by
  rcases h.2 with ⟨e, h2⟩ | ⟨g, cap', cur, e, r1, r2, r3, -⟩
  · rw [hv] at e; injection e with e1 e2 e3; omega
  · rw [hv] at e; injection e with e1 e2 e3; omega

set_option maxRecDepth 100000 in
set_option maxHeartbeats 3200000 in
theorem step_late (pa : Rep) (P : Pumpy 25 32 46 14 78 pa) {tab : World → Prop} (T : Telly 12 13 pa tab) (tk : ∀ {w w' : World}, tab w → Keep w w' → tab w') (RS : RReadSpec) (B : Nat) (wb : Nat) (vp vd vl vm : Value) (ds : List Value) (ms : List Int) (ls : List Value) (ps : List PR) (kind pp a b c d ch : Int) (al : Option Addr) (nl cl : Nat) (lock : Int) (s : ByteArray) (w : World) (tb : tab w)
    (h : WSt pa B w wb vp vd vl vm ds ms ls ps) (heq : ∀ (j : Nat) (q : PR), ps[j]? = some q → q.rx = q.ry) (hd : ds.length ≤ 5800000000000) (hl : ls.length ≤ 5800000000000) (hpl : ps.length ≤ 5800000000000) (hne : 0 < ps.length) (hk : kind = 11 ∨ kind = 13) (hp1 : -9223372036854775808 ≤ pp) (hp2 : pp ≤ 9223372036854775807) :
    Calls Tryz.prog 18 #[.pointer (some ⟨wb, 0, none⟩), opV kind pp a b c d ch (.slice al nl cl) lock (.string s)] w fun r w' => r = .returned (.bool true) ∧ StepEnd pa B w wb ds.length ls.length ps.length ps w' := by
  obtain ⟨g, cp, hvp, -, -, lg⟩ := row_cells h.pr hne
  have c0 : w.cell? ⟨wb, 0, none⟩ = some vp := by rw [h.L.head.cell]; rfl
  rw [hvp] at c0
  have lw := h.L.head.lt
  have hk12 : (kind == 12) = false := by simp; omega
  have hk1 : (kind == 1) = false := by simp; omega
  have hnz : ((ps.length : Int) == 0) = false := beq_eq_false_iff_ne.2 (by omega)
  have get : ∀ k : Nat, k < ps.length → ∃ q, ps[k]? = some q ∧ w.cell? ⟨g, k * 2, none⟩ = some (.pointer (some ⟨q.x, 0, none⟩)) ∧ w.cell? ⟨g, k * 2 + 1, none⟩ = some (.pointer (some ⟨q.y, 0, none⟩)) := by
    intro k hk
    obtain ⟨q, hq⟩ : ∃ q, ps[k]? = some q := ⟨_, List.getElem?_eq_getElem hk⟩
    obtain ⟨g', cap', hv, -, hc, -⟩ := row_at h.pr (fun _ => rfl) hq (by decide)
    rw [hvp] at hv
    simp at hv
    obtain ⟨rfl, rfl⟩ := hv
    have d0 := hc 0 (by decide)
    have d1 := hc 1 (by decide)
    simp only [pairC, Nat.add_zero, List.getElem?_cons_zero, List.getElem?_cons_succ] at d0 d1
    exact ⟨q, hq, d0, d1⟩
  obtain ⟨fx, hfx⟩ : ∃ fx : Nat → Nat, ∀ (k : Nat) (q : PR), ps[k]? = some q → fx k = q.x := ⟨fun k => match ps[k]? with | some q => q.x | none => 0, by intro k q h; simp [h]⟩
  obtain ⟨fy, hfy⟩ : ∃ fy : Nat → Nat, ∀ (k : Nat) (q : PR), ps[k]? = some q → fy k = q.y := ⟨fun k => match ps[k]? with | some q => q.y | none => 0, by intro k q h; simp [h]⟩
  have g0 : ∀ k : Nat, k < ps.length → w.cell? ⟨g, k * 2, none⟩ = some (.pointer (some ⟨fx k, 0, none⟩)) := by
    intro k hk
    obtain ⟨q, hq, d0, -⟩ := get k hk
    rw [hfx k q hq]; exact d0
  have g1 : ∀ k : Nat, k < ps.length → w.cell? ⟨g, k * 2 + 1, none⟩ = some (.pointer (some ⟨fy k, 0, none⟩)) := by
    intro k hk
    obtain ⟨q, hq, -, d1⟩ := get k hk
    rw [hfy k q hq]; exact d1
  have HF := hide (And.intro hfx hfy)
  have H := hide (And.intro h (And.intro heq hvp))
  have PK := hide (fun W => pick_any pp ps.length W hne (by omega) hp1 hp2)
  clear h heq hvp hp1 hp2 get hfx hfy
  have n1 : g ≠ w.heap.size := by omega
  have n2 : g ≠ w.heap.size + 1 := by omega
  have n3 : wb ≠ w.heap.size := by omega
  have n4 : wb ≠ w.heap.size + 1 := by omega
  go_enter Tryz.func18, Tryz.ntmps18
  go_upto_region 8 with fail
  go_cut [5] from 28 to 41 (fun s5 wx => Hid (∃ (i : Nat) (p : PR) (bx : Nat), s5 = .pointer (some ⟨bx, 0, none⟩) ∧ ps[i]? = some p ∧ Keep w wx ∧ Blk wx w.heap.size #[I kind, I pp, I a, I b, I c, I d, I ch, .slice al nl cl, I lock, .string s] 62 ∧ Blk wx bx #[.pointer (some ⟨p.x, 0, none⟩), .pointer (some ⟨p.y, 0, none⟩)] 92))
  case first =>
    go_region_held3 (fun w' => w'.cell? ⟨wb, 0, none⟩ = some (.slice (some ⟨g, 0, none⟩) ps.length cp) ∧ w'.cell? ⟨w.heap.size, 1, none⟩ = some (I pp) ∧ (∀ k : Nat, k < ps.length → w'.cell? ⟨g, k * 2, none⟩ = some (.pointer (some ⟨fx k, 0, none⟩))) ∧ (∀ k : Nat, k < ps.length → w'.cell? ⟨g, k * 2 + 1, none⟩ = some (.pointer (some ⟨fy k, 0, none⟩)))) (((try dsimp only); (repeat' apply And.intro) <;> (first | (go_keep; done) | (intro k hk; have e1 := g0 k hk; have e2 := g1 k hk; go_keep)))) (first | (go_at_call 39; refine (PK.out _).mono ?_; rintro e w' ⟨⟨k, hk, rfl⟩, hw'⟩; have hw8 := hw'.symm; subst hw8))
    all_goals (go_wp2_with fail; go_meet)
    all_goals
      obtain ⟨q, hq⟩ : ∃ q, ps[k]? = some q := ⟨_, List.getElem?_eq_getElem hk⟩
      have ex := (HF.out).1 k q hq
      have ey := (HF.out).2 k q hq
      rw [ex, ey]
      exact hide ⟨k, q, w.heap.size + 1, rfl, hq, (((Frm.refl _ _).alloc _).alloc _).drew, ((Blk.new _ _ _).alloc _).drew, by
        have hb := (Blk.new (w.alloc (.cells #[I kind, I pp, I a, I b, I c, I d, I ch, .slice al nl cl, I lock, .string s] 62)) #[.pointer (some ⟨q.x, 0, none⟩), .pointer (some ⟨q.y, 0, none⟩)] 92).drew
        simpa using hb⟩
  case rest =>
    obtain ⟨i, p, bx, rfl, hp, kw, bo, bp⟩ := hcut.out
    have o0 := (bo.cell 0).trans (show _ = some (I kind) from rfl)
    have o1 := (bo.cell 1).trans (show _ = some (I pp) from rfl)
    have o2 := (bo.cell 2).trans (show _ = some (I a) from rfl)
    have o3 := (bo.cell 3).trans (show _ = some (I b) from rfl)
    have o4 := (bo.cell 4).trans (show _ = some (I c) from rfl)
    have o5 := (bo.cell 5).trans (show _ = some (I d) from rfl)
    have o6 := (bo.cell 6).trans (show _ = some (I ch) from rfl)
    have o7 := (bo.cell 7).trans (show _ = some (Value.slice al nl cl) from rfl)
    have o8 := (bo.cell 8).trans (show _ = some (I lock) from rfl)
    have o9 := (bo.cell 9).trans (show _ = some (Value.string s) from rfl)
    have p0 := (bp.cell 0).trans (show _ = some (Value.pointer (some ⟨p.x, 0, none⟩)) from rfl)
    have p1 := (bp.cell 1).trans (show _ = some (Value.pointer (some ⟨p.y, 0, none⟩)) from rfl)
    have KW := hide kw
    have HP := hide hp
    have HD := hide (And.intro hd hl)
    clear hk1 hk12 c0 lw hnz g0 g1 HF PK n1 n2 n3 n4 lg hne kw hp bo bp hcut
    have HPL := hide hpl
    clear hd hl hpl
    rcases hk with hk | hk
    · subst hk
      have C := hide (fun W (k : Keep w W) hw => asks_tell pa P T tk B wb vp vd vl vm ds ms ls ps i p pp a b c d ch al nl cl lock s W (tk tb k) hw HP.out (H.out).2.1)
      go_wp2_with fail
      refine (C.out _ KW.out (WSt.keep P (H.out).1 KW.out)).mono ?_
      rintro e w2 ⟨rfl, hs⟩
      go_wp2_with fail
      go_ret
      exact ⟨rfl, hs.after KW.out⟩
    · subst hk
      obtain ⟨-, -, ok3, ok4⟩ := (H.out).1.ok i p HP.out
      obtain ⟨vl', vd', vc', vo', hra, -⟩ := (WSt.keep P (H.out).1 KW.out).ry i p HP.out
      obtain ⟨a', cap', hvl, hsee, hnone⟩ := row_see hra.lims
      have hcapl := row_cap hra.lims hvl
      subst hvl
      have r0 : wc.cell? ⟨p.y, 0, none⟩ = some (I p.ry.chs.length) := by rw [hra.head.cell]; rfl
      have r1 : wc.cell? ⟨p.y, 1, none⟩ = some (.slice a' p.ry.lims.length cap') := by rw [hra.head.cell]; rfl
      have r2 : wc.cell? ⟨p.y, 2, none⟩ = some (I p.ry.lock) := by rw [hra.head.cell]; rfl
      have hnl := ok3.nl
      have hjl := jtext_len ok3
      have JN : Hid (∀ W, Hid (Keep wc W) → Calls Tryz.prog 43 #[.pointer (some ⟨p.y, 0, none⟩)] W fun e w' => e = .returned (.string ⟨(jtext p.ry.doses p.ry.now).toArray⟩) ∧ w'.cell? ⟨bx, 1, none⟩ = some (.pointer (some ⟨p.y, 0, none⟩)) ∧ w'.cell? ⟨p.y, 0, none⟩ = some (I p.ry.chs.length) ∧ w'.cell? ⟨p.y, 1, none⟩ = some (.slice a' p.ry.lims.length cap') ∧ w'.cell? ⟨p.y, 2, none⟩ = some (I p.ry.lock) ∧ Hid (Keep wc w')) := by
        intro W kW
        refine (rJournal_any p.y p.ry _ _ _ _ W (hra.keep kW.out) ok3).mono ?_
        rintro e w' ⟨rfl, k'⟩
        have k2 := (kW.out).trans k'
        exact ⟨rfl, k2.cell p1 (fun e => e), k2.cell r0 (fun e => e), k2.cell r1 (fun e => e), k2.cell r2 (fun e => e), k2⟩
      have OPN : Hid (∀ W, Hid (Keep wc W) → Calls Tryz.prog 38 #[.pointer (some ⟨wb, 0, none⟩), .agg #[I p.ry.chs.length, .slice a' p.ry.lims.length cap', I p.ry.lock], .string ⟨(jtext p.ry.doses p.ry.now).toArray⟩] W fun e w' => e = .returned (.bool true) ∧ Hid (StepEnd pa B w wb ds.length ls.length ps.length ps w')) := by
        intro W kW
        have kwW := (KW.out).trans kW.out
        refine (opens_any pa P T tk RS (jtext p.ry.doses p.ry.now) (by omega) B wb vp vd vl vm ds ms ls ps p.ry.chs.length a' p.ry.lims cap' p.ry.lock W (tk tb kwW) (WSt.keep P (H.out).1 kwW) (H.out).2.1 (hsee.frm kW.out (fun _ _ _ e => e)) hnone hcapl (by omega) (HD.out).1 (HD.out).2 HPL.out).mono ?_
        rintro e w' ⟨rfl, hs⟩
        exact ⟨rfl, hs.after kwW⟩
      have START : Hid (Keep wc wc.drew) := (Frm.refl _ _).drew
      clear hra hsee hnone hcapl ok3 ok4 hnl hjl H HD HPL KW HP
      generalize jtext p.ry.doses p.ry.now = t at *
      go_wp2_with fail
      go_region_with ((first | (go_at_call 43; refine (JN.out _ START).mono ?_; rintro e w4 ⟨rfl, x0, x1, x2, x3, K4⟩) | (go_at_call 38; refine (OPN.out _ K4).mono ?_; rintro e w5 ⟨rfl, K5⟩)))
      all_goals go_wp2_with fail
      all_goals go_ret
      all_goals exact ⟨rfl, K5.out⟩

theorem step_any13 (pa : Rep) (P : Pumpy 25 32 46 14 78 pa) (O : Orderly 34 35 47 21 15 pa) {tab : World → Prop} (T : Telly 12 13 pa tab) (tk : ∀ {w w' : World}, tab w → Keep w w' → tab w') (RS : RReadSpec) (B : Nat) (wb : Nat) (vp vd vl vm : Value) (ds : List Value) (ms : List Int) (ls : List Value) (ps : List PR) (kind pp a b c d ch : Int) (al : Option Addr) (lims : List Lim) (cl : Nat) (lock : Int) (s : ByteArray) (w : World) (tb : tab w)
    (h : WSt pa B w wb vp vd vl vm ds ms ls ps) (heq : ∀ (j : Nat) (q : PR), ps[j]? = some q → q.rx = q.ry) (hs : SeeL w al lims) (hnone : al = none → lims.length = 0 ∧ cl = 0) (hcap : lims.length ≤ cl) (hn : lims.length ≤ 5864062014634) (hd : ds.length ≤ 5800000000000) (hl : ls.length ≤ 5800000000000) (hpl : ps.length ≤ 5800000000000) (hk5 : kind ≤ 13) (hp1 : -9223372036854775808 ≤ pp) (hp2 : pp ≤ 9223372036854775807) (hsl : s.data.toList.length ≤ 100000000) :
    Calls Tryz.prog 18 #[.pointer (some ⟨wb, 0, none⟩), opV kind pp a b c d ch (.slice al lims.length cl) lock (.string s)] w fun r w' => r = .returned (.bool true) ∧ StepEnd pa B w wb ds.length ls.length ps.length ps w' := by
  by_cases h10 : kind ≤ 10
  · exact step_any10 pa P O B wb vp vd vl vm ds ms ls ps kind pp a b c d ch al lims cl lock s w h heq hs hnone hcap hn hd hl hpl h10 hp1 hp2
  · by_cases h12 : kind = 12
    · subst h12
      exact step_open pa P T tk RS B wb vp vd vl vm ds ms ls ps pp a b c d ch al lims cl lock s.data.toList w tb h heq hs hnone hcap hn hd hl hpl hsl
    · have hk : kind = 11 ∨ kind = 13 := by omega
      cases ps with
      | nil => exact step_empty pa P B wb vp vd vl vm ds ms ls kind pp a b c d ch al lims.length cl lock s w h (beq_eq_false_iff_ne.2 (by omega)) (beq_eq_false_iff_ne.2 (by omega))
      | cons q qs => exact step_late pa P T tk RS B wb vp vd vl vm ds ms ls (q :: qs) kind pp a b c d ch al lims.length cl lock s w tb h heq hd hl hpl (by simp) hk hp1 hp2

end Go.Proofs.YtpilmkipbbengaaGreatDoor
