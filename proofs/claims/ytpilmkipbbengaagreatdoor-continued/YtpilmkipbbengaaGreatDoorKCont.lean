/- Continued: the law. -/
import Derived.Test.YtpilmkipbbengaaGreatDoorKfM
import Derived.Test.YtpilmkipbbengaaGreatDoorKbM
import Derived.Test.YtpilmkipbbengaaGreatDoorKcfg
import Derived.Test.YtpilmkipbbengaaGreatDoorKTold
import Derived.Test.YtpilmkipbbengaaGreatDoorJref
namespace Go.Proofs.YtpilmkipbbengaaGreatDoor
open Go.RowKit Go.Lib

/-- the first pump has run -/
structure CRun (pa : Rep) (w wA w2 : World) (rb pb : Nat) (lims : List Lim) (R : RSt) (v vdr : Value) : Prop where
  kA : Keep w wA
  k2 : Keep wA w2
  ok : KOk R
  ch : ChOk R
  el : R.lims = lims
  ek : R.lock = 0
  cfg : CfgAt wA v lims 0
  at_ : ∃ F vl, KAt pa (fun x => wA.heap.size ≤ x) w2 rb pb F R vl vdr

theorem jtext_len {R : RSt} (ok : R.Ok) : (jtext R.doses R.now).length ≤ 1000000 := by
  have h1 := jbody_len ok.doses
  have h2 := jdig_len (n := R.now) (by have := ok.now1; omega)
  have nd := ok.nd
  have e : jtext R.doses R.now = jbody R.doses ++ (jlast R.now ++ [10]) := rfl
  rw [e]
  simp [jlast]
  omega

theorem SeeS.wide {B B' : Nat → Prop} {w : World} {a : Option Addr} {ss : List StepR} (h : SeeS B w a ss) (hb : ∀ x, B' x → B x) : SeeS B' w a ss := by
  rcases h with h | ⟨g, o, e, hg, hc⟩
  · exact Or.inl h
  · exact Or.inr ⟨g, o, e, fun q => hg (hb g q), hc⟩

theorem CRun.fine {pa : Rep} {w wA w2 : World} {rb pb : Nat} {lims : List Lim} {R : RSt} {v vdr : Value} (h : CRun pa w wA w2 rb pb lims R v vdr) : fineB 3 R.lims R.lock = true := by
  rw [h.el, h.ek]; exact h.cfg.fine

theorem CRun.jok {pa : Rep} {w wA w2 : World} {rb pb : Nat} {lims : List Lim} {R : RSt} {v vdr : Value} (h : CRun pa w wA w2 rb pb lims R v vdr) : JOk 3 ds0 R.doses R.now :=
  h.ok.jok fun d hd => by have := h.ch d hd; have := h.ok.nch; omega

theorem CRun.opened {pa : Rep} {w wA w2 : World} {rb pb : Nat} {lims : List Lim} {R : RSt} {v vdr : Value} (h : CRun pa w wA w2 rb pb lims R v vdr) : Go.Proofs.YtpilmkipbbengaaGreatDoor.opened 3 lims 0 (jtext R.doses R.now) = .ok (qR R 0) := by
  have hb : jbrk R.lims [] R.doses = 0 := safe_brk h.ok.told.safe h.ok.ok.doses (fun l hl => (h.ok.ok.lims l hl).w0) R.doses [] rfl
  have := opened_text h.fine h.jok hb
  rw [h.el, h.ek] at this
  rw [this, ← qR_zero, h.el, h.ek]
  rfl

section
variable {pa : Rep} {tab : World → Prop}

set_option maxRecDepth 100000 in
set_option maxHeartbeats 6400000 in
theorem continued_any (P : Pumpy 25 32 46 14 78 pa) (O : Orderly 34 35 47 21 15 pa) (T : Telly 12 13 pa tab) (tk : ∀ {w w' : World}, tab w → Keep w w' → tab w') (CF : ConfigSpec)
    (ac : Option Addr) (caps : List Lim) (cpc : Nat) (sa : Option Addr) (ss : List StepR) (cps : Nat) (ma : Option Addr) (ms : List StepR) (cpm : Nat) (w : World) (tb : tab w) (hs : SeeL w ac caps) (hin : ∀ x ∈ caps, x.In)
    (hss : SeeS (fun x => w.heap.size ≤ x) w sa ss) (hso : ∀ s ∈ ss, s.Ok) (hms : SeeS (fun x => w.heap.size ≤ x) w ma ms) (hmo : ∀ s ∈ ms, s.Ok) :
    Calls Tryz.prog 5 #[.slice ac caps.length cpc, .slice sa ss.length cps, .slice ma ms.length cpm] w fun e w' => e = .returned (.bool true) ∧ Keep w w' := by
  obtain ⟨iD, hiD, hzD0, hzD1, hzD2⟩ := info_parts infoD
  have OR : Hid (Calls Tryz.prog 9 #[] w fun e w' => e = .returned (.bool true) ∧ Hid (Keep w w')) := (kopened_any P O T tk w tb).mono fun e w' q => q
  have CG : Hid (∀ w0, Keep w w0 → Calls Tryz.prog 10 #[.slice ac caps.length cpc, I 0] w0 fun e w1 => ∃ a cap, e = .returned (.agg #[I 3, .slice a (limsOf caps).length cap, I 0]) ∧ Hid (Keep w w1 ∧ CfgAt w1 (.slice a (limsOf caps).length cap) (limsOf caps) 0)) := by
    intro w0 k0
    refine (CF ac caps cpc 0 w0 (hs.frm k0 fun _ _ _ e => e) hin (by unfold In64; omega)).mono ?_
    rintro e w1 ⟨v, rfl, k1, hr, hn⟩
    have hc := cfg_at (lockout := 0) hr
    rw [pk010] at hc ⊢
    obtain ⟨a, cap, rfl, -⟩ := hc.see
    exact ⟨a, cap, rfl, k0.trans k1, hc⟩
  generalize limsOf caps = lims at *
  have RN : Hid (∀ w1 a cap, Hid (Keep w w1 ∧ CfgAt w1 (.slice a lims.length cap) lims 0) → Calls Tryz.prog 11 #[.agg #[I 3, .slice a lims.length cap, I 0], .slice sa ss.length cps] (w1.alloc (.cells #[I 3, .slice a lims.length cap, I 0] 30)) fun e w2 => ∃ rb pb R ar cpr, e = .returned (.pointer (some ⟨rb, 0, none⟩)) ∧
      w2.cell? ⟨rb, 0, none⟩ = some (.pointer (some ⟨pb, 0, none⟩)) ∧ w2.cell? ⟨rb, 4, none⟩ = some (.slice ar (List.length (α := Ds) R.doses) cpr) ∧ w2.cell? ⟨rb, 5, none⟩ = some (I (RSt.now R)) ∧ w2.cell? ⟨w1.heap.size, 0, none⟩ = some (I 3) ∧ w2.cell? ⟨w1.heap.size, 1, none⟩ = some (.slice a lims.length cap) ∧ w2.cell? ⟨w1.heap.size, 2, none⟩ = some (I 0) ∧
      Hid (CRun pa w (w1.alloc (.cells #[I 3, .slice a lims.length cap, I 0] 30)) w2 rb pb lims R (.slice a lims.length cap) (.slice ar R.doses.length cpr))) := by
    intro w1 a cap hh
    obtain ⟨k1, hc⟩ := hh.out
    have kA : Keep w1 (w1.alloc (.cells #[I 3, .slice a lims.length cap, I 0] 30)) := (Frm.refl _ _).alloc _
    have bA := Blk.new w1 #[I 3, .slice a lims.length cap, I 0] 30
    generalize w1.alloc (.cells #[I 3, .slice a lims.length cap, I 0] 30) = wA at *
    have sz := (k1.trans kA).size
    refine (krun_any P.c O.c (fun x => wA.heap.size ≤ x) (.slice a lims.length cap) lims 0 sa ss cps wA (hc.keep kA) (fun x hx => hx) ((hss.frm ((k1.trans kA).mono fun _ _ e => e.elim)).wide fun x hx => Nat.le_trans sz hx) hso).mono ?_
    rintro e w2 ⟨rb, R, rfl, ok, e1, e2, gf, pb, F, vl, vdr, hk⟩
    have f2 : Keep wA w2 := gf.mono fun x hx e => by omega
    have bx := f2.blk bA
    have hrow : w2.ownsRow 0 100 3 vdr R.doses.length (R.doses.flatMap dsC) := hk.rd.row
    obtain ⟨ar, cpr, rfl⟩ := row_slice hrow
    refine ⟨rb, pb, R, ar, cpr, rfl, by rw [hk.rd.head.cell]; rfl, by rw [hk.rd.head.cell]; rfl, by rw [hk.rd.head.cell]; rfl, by rw [bx.cell]; rfl, by rw [bx.cell]; rfl, by rw [bx.cell]; rfl, k1.trans kA, f2, ok, hk.pump.2, e1, e2, hc.keep kA, F, vl, ?_⟩
    exact ⟨hk.rd, hk.pump.1, hk.fr, hk.fd, hk.fl, hk.lb, hk.lf, hk.ld⟩
  have TL : Hid (∀ {wA w2 : World} {rb pb : Nat} {R : RSt} {v vdr : Value} (W : World), Hid (CRun pa w wA w2 rb pb lims R v vdr) → Keep w2 W → Calls Tryz.prog 12 #[.pointer (some ⟨pb, 0, none⟩)] W fun e w3 => e = .returned (.string ⟨(jtext R.doses R.now).toArray⟩) ∧ Hid (Keep w2 w3)) := by
    intro wA w2 rb pb R v vdr W hh kW
    obtain ⟨F, vl, hk⟩ := (hh.out).at_
    refine (T.tell W F pb R (tk tb (((hh.out).kA.trans (hh.out).k2).trans kW)) (P.frm hk.pump kW (fun _ _ e => e)) (hh.out).ok.ok (hh.out).ok.full).mono ?_
    rintro e w3 ⟨rfl, k3⟩
    exact ⟨rfl, kW.trans k3⟩
  have OP : Hid (∀ {wA w2 : World} {rb pb : Nat} {R : RSt} {a : Option Addr} {cap : Nat} {vdr : Value} (W : World), Hid (CRun pa w wA w2 rb pb lims R (.slice a lims.length cap) vdr) → Hid (Keep w2 W) → Calls Tryz.prog 13 #[.agg #[I 3, .slice a lims.length cap, I 0], .string ⟨(jtext R.doses R.now).toArray⟩] W fun e w3 => ∃ qb, e = .returned (.tuple #[.pointer (some ⟨qb, 0, none⟩), I 0, I 0]) ∧ Hid (Keep w2 w3 ∧ ∃ G, pa w3 G qb (qR R 0) ∧ ∀ x, G x → w2.heap.size ≤ x)) := by
    intro wA w2 rb pb R a cap vdr W hh hW
    have kW := hW.out
    have hc := (hh.out).cfg.keep ((hh.out).k2.trans kW)
    obtain ⟨a', cap', e, h1, h2⟩ := hc.see
    injection e with e1 e2 e3
    subst e1; subst e3
    have nl := hc.nl
    have sz := kW.size
    have hlen : (jtext R.doses R.now).length ≤ 100000000 := by
      have := jtext_len (hh.out).ok.ok
      omega
    refine (T.opens 3 a lims cap 0 _ W (tk tb (((hh.out).kA.trans (hh.out).k2).trans kW)) h1 h2 (by omega) (by omega)).mono ?_
    rintro e w3 ⟨k3, h3⟩
    rw [(hh.out).opened] at h3
    obtain ⟨b, G, rfl, h4, h5⟩ := h3
    exact ⟨b, rfl, kW.trans k3, G, h4, fun x hx => by have := h5 x hx; omega⟩
  have TQ : Hid (∀ {wA w2 : World} {rb pb qb : Nat} {R : RSt} {v vdr : Value} (W : World), Hid (CRun pa w wA w2 rb pb lims R v vdr) → Hid (Keep w2 W ∧ ∃ G, pa W G qb (qR R 0) ∧ ∀ x, G x → w2.heap.size ≤ x) → Calls Tryz.prog 12 #[.pointer (some ⟨qb, 0, none⟩)] W fun e w3 => e = .returned (.string ⟨(jtext R.doses R.now).toArray⟩) ∧ Hid (Keep w2 w3 ∧ ∃ G, pa w3 G qb (qR R 0) ∧ ∀ x, G x → w2.heap.size ≤ x)) := by
    intro wA w2 rb pb qb R v vdr W hh hW
    obtain ⟨kW, G, hG, hGn⟩ := hW.out
    have okq := qR_ok (hh.out).ok (hh.out).fine (hh.out).jok 0 (by omega)
    refine (T.tell W G qb (qR R 0) (tk tb (((hh.out).kA.trans (hh.out).k2).trans kW)) hG okq.ok okq.full).mono ?_
    rintro e w3 ⟨rfl, k3⟩
    exact ⟨rfl, kW.trans k3, G, P.frm hG k3 (fun _ _ e => e), hGn⟩
  clear hs hin hss hso CF
  go_enter Tryz.func5, Tryz.ntmps5
  go_wp2_with fail
  refine (OR.out).mono ?_
  rintro e w0 ⟨rfl, K0⟩
  go_wp2_with fail
  refine (CG.out w0 K0.out).mono ?_
  rintro e w1 ⟨a, cap, rfl, K1⟩
  go_wp2_with fail
  refine (RN.out w1 a cap K1).mono ?_
  rintro e w2 ⟨rb, pb, R, ar, cpr, rfl, y0, y4, y5, z0', z1', z2', C⟩
  go_wp2_with fail
  refine (TL.out w2 C (Frm.refl _ _)).mono ?_
  rintro e w3 ⟨rfl, K3⟩
  have z0 := (K3.out).cell z0' (fun e => e)
  have z1 := (K3.out).cell z1' (fun e => e)
  have z2 := (K3.out).cell z2' (fun e => e)
  have y0' := (K3.out).cell y0 (fun e => e)
  go_wp2_with fail
  refine (OP.out w3 C K3).mono ?_
  rintro e w4 ⟨qb, rfl, K4⟩
  go_wp2_with fail
  refine (TQ.out w4 C K4).mono ?_
  rintro e w5 ⟨rfl, K5⟩
  have y0 := (K5.out).1.cell y0 (fun e => e)
  have y4 := (K5.out).1.cell y4 (fun e => e)
  have y5 := (K5.out).1.cell y5 (fun e => e)
  have x0 := (K5.out).1.cell z0' (fun e => e)
  have x1 := (K5.out).1.cell z1' (fun e => e)
  have x2 := (K5.out).1.cell z2' (fun e => e)
  have nd := (C.out).ok.ok.nd
  have ROW : Hid (∀ W, Keep w5 W → (ar = none → R.doses.length = 0 ∧ cpr = 0) ∧ ∀ ad, ar = some ad → ∀ j u, (R.doses.flatMap dsC)[j]? = some u → W.cell? (ad.add j) = some u) := by
    intro W kW
    obtain ⟨F, vl, hk⟩ := (C.out).at_
    have hr : w2.ownsRow 0 100 3 (.slice ar R.doses.length cpr) R.doses.length (R.doses.flatMap dsC) := hk.rd.row
    have hr := row_frm hr ((K5.out).1.trans kW) (fun _ _ e => e)
    refine ⟨fun e => ?_, fun ad e => ?_⟩
    · subst e
      rcases hr.2 with ⟨q1, q2⟩ | ⟨g, cp, cur, q1, -⟩
      · injection q1 with q1 q3 q4; exact ⟨q3, q4⟩
      · injection q1 with q1; cases q1
    · subst e
      rcases hr.2 with ⟨q1, -⟩ | ⟨g, cp, cur, q1, -⟩
      · injection q1 with q1; cases q1
      · injection q1 with q1 q3 q4
        injection q1 with q1
        subst q1
        exact hr.cells (g := g) rfl
  have MADE : Hid (∀ W5 w6 v', Keep w5 W5 → Blk W5 w5.heap.size #[.pointer (some ⟨qb, 0, none⟩), I 3, .slice a lims.length cap, I 0, .slice none 0 0, I R.now, .bool false, .bool false, .bool false] 38 → w6.ownsRow 0 100 3 v' R.doses.length (R.doses.flatMap dsC) → W5.grownBy w6 none → (v'.ownBlock = none ∨ v'.ownBlock = some W5.heap.size) →
      CSt pa w (w6.setCell ⟨w5.heap.size, 4, none⟩ v') rb pb w5.heap.size qb R (qR R 0) (.slice a lims.length cap) v') := by
    intro W5 w6 v' k5 hu h1 h2 h3
    obtain ⟨F, vl, hk⟩ := (C.out).at_
    obtain ⟨k25, G, hG, hGn⟩ := K5.out
    have hc := (C.out).cfg
    have hv := row_frm (row_frm hc.row (C.out).k2 (fun _ _ e => e)) k25 (fun _ _ e => e)
    rw [← (C.out).el] at hv
    refine CSt.made P.w hk (C.out).kA k25 hG hGn (by simpa [(C.out).el] using hv) (fun x hx => (hc.row.lt x hx).2) (C.out).k2 k5 (by rw [(C.out).ek]; exact hu) (Nat.le_refl _) h1 h2 h3
  have rlt : rb < w5.heap.size := by
    obtain ⟨F, vl, hk⟩ := (C.out).at_
    exact Nat.lt_of_lt_of_le hk.rd.head.lt (K5.out).1.size
  have KC := hide (And.intro C K5)
  clear C K3 K4 K5 K0 K1 OR CG RN TL OP TQ z0 z1 z2 z0' z1' z2' y0'
  go_wp2_with fail
  go_region
  all_goals go_wp2_with fail
  go_cut [] from 74 to 85 (fun wx => Hid (∃ vd, CSt pa w wx rb pb w5.heap.size qb R (qR R 0) (.slice a lims.length cap) vd))
  case first =>
    go_region_law (refine step_append_src rfl (.tmp 78) (.tmp 82) 35 rfl 100 iD (.agg #[I 0, I 0, I 0]) 3 24 Tryz.underlying35 hiD hzD0 hzD1 hzD2 rfl (by decide) (.slice none 0 0) 0 [] (by simp [Act.eval]) (World.ownsRow_nil _ 0 _ _) ar R.doses.length cpr (R.doses.flatMap dsC) (by simp [Act.eval]) (flat_len dsC 3 (fun _ => rfl) R.doses) (ROW.out w5 (Frm.refl _ _)).1 (by exact (ROW.out _ (((Frm.refl _ _).alloc _).drew.drew)).2) (dsC_one R.doses) (by unfold maxLen; omega) (by omega) ?_; intro v6 w6 hown6 hgr6 hnew6; rw [Nat.zero_add, List.nil_append] at hown6; obtain ⟨a6, cp6, hv6⟩ := row_slice hown6; subst hv6; have bb6 := (show Blk _ w5.heap.size _ _ from (Blk.new w5 #[.pointer (some ⟨qb, 0, none⟩), I 3, .slice a lims.length cap, I 0, .slice none 0 0, I R.now, .bool false, .bool false, .bool false] 38).drew.drew).frm (grown_frm hgr6) (by simp [Value.ownBlock]); have c64 : w6.cell? ⟨w5.heap.size, 4, none⟩ = some (.slice none 0 0) := (by { rw [bb6.cell]; rfl }); have f64 := bb6.frozen 4; have SIX := hide (And.intro hown6 (And.intro hgr6 hnew6)); clear hown6 hgr6 hnew6 bb6)
    all_goals (go_wp2_with fail; go_meet)
    all_goals exact ⟨_, MADE.out _ w6 _ (((Frm.refl _ _).alloc _).drew.drew) ((Blk.new w5 _ _).drew.drew) (SIX.out).1 (SIX.out).2.1 ((SIX.out).2.2.imp (fun e => e) And.left)⟩
  case rest =>
    obtain ⟨vd, hst0⟩ := hcut.out
    have G := hide (And.intro hst0 (And.intro (qR_ok ((KC.out).1.out).ok ((KC.out).1.out).fine ((KC.out).1.out).jok) (And.intro ((KC.out).1.out).ok ((KC.out).1.out).el)))
    clear hcut hst0 ROW MADE KC x0 x1 x2 y0 y4 y5 rlt
    generalize w5.heap.size = ub at *
    generalize Value.slice a lims.length cap = v at *
    generalize hst : jtext R.doses R.now = s at *
    go_wp2_with fail
    go_loopg [15] 3 (fun q i wr => ∃ j : Nat, q + j = 3 ∧ i = I j ∧ Hid (CSt pa w wr rb pb ub qb R (qR R j) v vd))
    case atStart => exact ⟨0, by omega, rfl, (G.out).1⟩
    case round =>
      obtain ⟨j, hq, rfl, hc⟩ := hrel
      by_cases hj : j < 3
      · have okj := (G.out).2.1 j (by omega)
        have okR := (G.out).2.2.1
        obtain ⟨r1, r2⟩ := qR_room R j j hj okR.nch
        have RA : Hid (∀ W, Hid (CSt pa w W rb pb ub qb R (qR R j) v vd) → Calls Tryz.prog 14 #[.pointer (some ⟨qb, 0, none⟩), I j] W fun e w2 => e = .returned (.tuple #[I (rroom R.doses R.lims j R.now), I 0]) ∧ w2.cell? ⟨rb, 0, none⟩ = some (.pointer (some ⟨pb, 0, none⟩)) ∧ Hid (CSt pa w w2 rb pb ub qb R (qR R j) v vd)) := by
          intro W hW
          refine ((hW.out).onR P.w (Q' := qR R j) fun G' hG' => by have := P.room j W G' qb (qR R j) hG' okj.ok okj.full; rw [r1] at this; exact this).mono ?_
          rintro e w2 ⟨rfl, h2⟩
          obtain ⟨rc, q1, q2⟩ := h2.rbl
          exact ⟨rfl, by rw [q1.cell]; exact q2, h2⟩
        have RB : Hid (∀ W, Hid (CSt pa w W rb pb ub qb R (qR R j) v vd) → Calls Tryz.prog 14 #[.pointer (some ⟨pb, 0, none⟩), I j] W fun e w2 => e = .returned (.tuple #[I (rroom R.doses R.lims j R.now), I 0]) ∧ Hid (CSt pa w w2 rb pb ub qb R (qR R j) v vd)) := by
          intro W hW
          exact (hW.out).onL P.w fun F' hF' => by have := P.room j W F' pb R hF' okR.ok okR.full; rw [r2] at this; exact this
        have RC : Hid (∀ W, Hid (CSt pa w W rb pb ub qb R (qR R j) v vd) → Calls Tryz.prog 15 #[.pointer (some ⟨qb, 0, none⟩), I j] W fun e w2 => e = .returned (I 0) ∧ Hid (CSt pa w w2 rb pb ub qb R (qR R (j + 1)) v vd)) := by
          intro W hW
          exact (hW.out).onR P.w (Q' := qR R (j + 1)) fun G' hG' => by have := O.resume j W G' qb (qR R j) hG' okj.ok okj.full; rw [qR_err R j hj, qR_next R j hj] at this; exact this
        clear okj okR r1 r2
        generalize rroom R.doses R.lims j R.now = rm at *
        have hj3 : (j : Int) < 3 := by omega
        go_wp2_with fail
        refine (RA.out _ hc).mono ?_
        rintro e w2 ⟨rfl, u0, K2⟩
        go_wp2_with fail
        refine (RB.out _ K2).mono ?_
        rintro e w3 ⟨rfl, K3⟩
        go_wp2_with fail
        refine (RC.out _ K3).mono ?_
        rintro e w4 ⟨rfl, K4⟩
        go_wp2_with fail
        go_roundg (gk - 1)
        case measure => omega
        case rel => exact ⟨j + 1, by omega, by simp, K4⟩
      · have hje : j = 3 := by omega
        subst hje
        have KG : Hid (∃ Q', KOk Q' ∧ KGo (paX pa qb R.doses) (fun x => w.heap.size ≤ x) w wr ub Q') := ⟨_, (G.out).2.1 3 (Nat.le_refl _), (hc.out).run⟩
        have HS := hide hst
        have HM := hide (And.intro hms hmo)
        have hsl : s.length ≤ 1000000 := by rw [← hst]; exact jtext_len (G.out).2.2.1.ok
        have TL : Hid (∀ W, Hid (∃ Q', KOk Q' ∧ KGo (paX pa qb R.doses) (fun x => w.heap.size ≤ x) w W ub Q') → Calls Tryz.prog 12 #[.pointer (some ⟨qb, 0, none⟩)] W fun e w2 => ∃ t : List UInt8, e = .returned (.string ⟨t.toArray⟩) ∧ t.length ≤ 1000000 ∧ Hid (t.take (jhead R.doses).length = jhead R.doses ∧ (jhead R.doses).length ≤ t.length) ∧ Hid (∃ Q', KOk Q' ∧ KGo (paX pa qb R.doses) (fun x => w.heap.size ≤ x) w w2 ub Q')) := by
          intro W hW
          obtain ⟨Q', ok, gf, pb', F, vl, vd', hk⟩ := hW.out
          obtain ⟨hp1, hp2, hp3⟩ := hk.pump
          subst hp2
          have kW : Keep w W := gf.mono fun x hx e => by omega
          refine (T.tell W F pb' Q' (tk tb kW) hp1 ok.ok ok.full).mono ?_
          rintro e w2 ⟨rfl, k2⟩
          obtain ⟨r, hr⟩ := jhead_pre hp3
          refine ⟨jtext Q'.doses Q'.now, rfl, jtext_len ok.ok, ⟨?_, ?_⟩, Q', ok, gf.trans2 k2 (fun _ _ e => e.elim), pb', F, vl, vd', ?_⟩
          · rw [jtext_head, hr, List.append_assoc, List.take_left']
            rfl
          · rw [jtext_head, hr]; simp
          · exact ⟨hk.rd.frm k2 (fun e => e) (fun _ _ e => e) (fun _ _ e => e), ⟨P.frm hp1 k2 (fun _ _ e => e), rfl, hp3⟩, hk.fr, hk.fd, hk.fl, hk.lb, hk.lf, hk.ld⟩
        have SF : Hid (∀ W, Hid (∃ Q', KOk Q' ∧ KGo (paX pa qb R.doses) (fun x => w.heap.size ≤ x) w W ub Q') → Calls Tryz.prog 17 #[.pointer (some ⟨ub, 0, none⟩)] W fun e w4 => e = .returned (.bool true) ∧ Hid (Keep w w4)) := by
          intro W hW
          obtain ⟨Q', ok, gf, pb', F, vl, vd', hk⟩ := hW.out
          refine (ksafe_any ub (kv pb' vl vd' Q') W hk.rd (ok.kvok pb' vl vd') ok.told.safe).mono ?_
          rintro e w4 ⟨rfl, k4⟩
          exact ⟨rfl, (gf.trans2 k4 fun _ _ e => e.elim).mono fun x hx e => by omega⟩
        clear hc hst hq hj hms hmo
        go_wp2_with fail
        go_loopg [21, 22] (min ms.length 15) (fun q i _ wr => ∃ j : Nat, q + j = min ms.length 15 ∧ i = I j ∧ Hid (∃ Q', KOk Q' ∧ KGo (paX pa qb R.doses) (fun x => w.heap.size ≤ x) w wr ub Q'))
        case atStart => exact ⟨0, by omega, rfl, KG⟩
        case round =>
          obtain ⟨j, hq, rfl, hst⟩ := hrel
          by_cases hj : j < min ms.length 15
          · obtain ⟨st, hsj⟩ : ∃ st, ms[j]? = some st := ⟨_, List.getElem?_eq_getElem (by omega)⟩
            obtain ⟨Q', ok, hg⟩ := hst.out
            have hsee := (HM.out).1.frm hg.1
            rcases hsee with e | ⟨g, o, rfl, hgB, hcells⟩
            · rw [e] at hsj; simp at hsj
            obtain ⟨d0, d1, d2, d3, d4⟩ := hcells j st hsj
            have so := (HM.out).2 st (List.mem_of_getElem? hsj)
            obtain ⟨gf, pb', F, vl, vd', hk⟩ := hg
            have ST : Hid (Calls Tryz.prog 16 #[.pointer (some ⟨ub, 0, none⟩), .agg #[I st.kind, I st.a, I st.b, I st.c, I st.d]] wr fun e w2 => e = .returned (.bool true) ∧ ∃ k' : Nat, k' < gk ∧ ∃ j' : Nat, k' + j' = min ms.length 15 ∧ I ((j : Int) + 1) = I j' ∧ Hid (∃ Q', KOk Q' ∧ KGo (paX pa qb R.doses) (fun x => w.heap.size ≤ x) w w2 ub Q')) := by
              refine (kstep_any (P.w.x qb R.doses) (O.x qb R.doses) (fun x => w.heap.size ≤ x) ub pb' F Q' vl vd' st wr hk ok (fun x hx => Nat.le_trans gf.size hx) so).mono ?_
              rintro e w2 ⟨rfl, Q2, ok2, -, -, g2⟩
              exact ⟨rfl, gk - 1, by omega, j + 1, by omega, by simp, Q2, ok2, KGo.trans gf g2⟩
            have hj1 : (j : Int) < ms.length := by omega
            have hj2 : (j : Int) < 15 := by omega
            clear hst ok gf hk hcells so hsj hq hj KG TL SF
            go_wp2_with fail
            refine (ST.out).mono ?_
            rintro e w2 ⟨rfl, k', m1, m2⟩
            have M1 := hide m1
            have M2 := hide m2
            clear m1 m2
            go_wp2_with fail
            go_roundg k'
            case measure => exact M1.out
            case rel => exact M2.out
          · have hcase : decide (j < ms.length) = false ∨ ((j : Int) < ms.length ∧ decide ((j : Int) < 15) = false) := by
              by_cases q : j < ms.length
              · exact Or.inr ⟨by omega, decide_eq_false (by omega)⟩
              · exact Or.inl (decide_eq_false q)
            clear hj hq KG HM
            rcases hcase with h1 | ⟨h1, h2⟩
            all_goals
              go_wp2_with fail
              refine (TL.out _ hst).mono ?_
              rintro e w2 ⟨t, rfl, htl, HT, K2⟩
              go_wp2_with fail
              refine (SF.out _ K2).mono ?_
              rintro e w3 ⟨rfl, K3⟩
              have hs0 := jeq_start R.doses R.now
              rw [HS.out] at hs0
              obtain ⟨g0, hg0⟩ : ∃ g0, s.length = g0 + 1 := ⟨s.length - 1, by have := hs0.lo; omega⟩
              have JS := hide hs0
              clear hs0 TL SF hst K2
              go_wp2_with fail
              go_loopg [25] g0 (fun q f wr => ∃ g : Nat, q = g ∧ f = I ((g : Int) + 1) ∧ wr = w3 ∧ g < s.length ∧ Hid (JEq s (jhead R.doses).length (g + 1)))
              case atStart => exact ⟨g0, rfl, congrArg I (by omega), rfl, by omega, by rw [← hg0]; exact JS⟩
              case round =>
                obtain ⟨g, hq, rfl, hw, hgl, hj⟩ := hrel
                have hw := hw.symm
                subst hw
                obtain ⟨c, hc⟩ : ∃ c, s[g]? = some c := ⟨_, List.getElem?_eq_getElem hgl⟩
                have hby : (⟨s.toArray⟩ : ByteArray)[g]'hgl = c := (List.getElem?_eq_some_iff.1 hc).2
                by_cases h61 : c = 61
                · have hge : g = (jhead R.doses).length := by
                    have := jeq_end (ds := R.doses) (now := R.now) (f := g + 1) (by rw [HS.out]; exact hj.out) (by rw [HS.out, Nat.add_sub_cancel, hc, h61])
                    omega
                  subst h61
                  have hes : s.take g = jhead R.doses := by
                    rw [← HS.out, hge, jtext_head]
                    simp
                  have het : t.take g = jhead R.doses := by rw [hge]; exact (HT.out).1
                  have hgt : g ≤ t.length := by rw [hge]; exact (HT.out).2
                  have e1 : ({ data := t.toArray } : ByteArray).extract 0 g = ({ data := s.toArray } : ByteArray).extract 0 g := by rw [extr_take, extr_take, het, hes]
                  have b1 : (0 : Int) ≤ (g : Int) := by omega
                  have b2 : (g : Int) ≤ (t.length : Int) := by omega
                  have b3 : (g : Int) ≤ (s.length : Int) := by omega
                  have b4 : IntKind.i64.wrap ((g : Int) + 1 - 1) = (g : Int) := by rw [Int.add_sub_cancel]; exact wrap_id _ (by omega) (by omega)
                  have b5 : decide ((g : Int) ≤ (t.length : Int)) = true := decide_eq_true b2
                  clear hes het hge hj JS HS HT hc
                  go_wp2_with fail
                  go_quiet (fail)
                  go_wp2_with fail
                  go_ret
                  exact ⟨rfl, (K3.out).drewN _⟩
                · have hn := jeq_next (ds := R.doses) (now := R.now) (f := g + 1) (c := c) (by rw [HS.out]; exact hj.out) (by rw [HS.out, Nat.add_sub_cancel]; exact hc) h61
                  rw [HS.out, Nat.add_sub_cancel] at hn
                  have hlo := hn.lo
                  obtain ⟨g', rfl⟩ : ∃ g', g = g' + 1 := ⟨g - 1, by omega⟩
                  have N := hide hn
                  have hz : ((c.toNat : Int) == 61) = false := by
                    simp only [beq_eq_false_iff_ne]
                    intro e
                    exact h61 (UInt8.toNat_inj.1 (show c.toNat = 61 by omega))
                  have hpos : (0 : Int) < ((g' + 1 : Nat) : Int) + 1 := by omega
                  clear hn hc h61 hj JS HS HT
                  go_wp2_with fail
                  go_roundg g'
                  case measure => omega
                  case rel => exact ⟨g', rfl, congrArg I (by omega), rfl, by omega, N⟩

end

end Go.Proofs.YtpilmkipbbengaaGreatDoor
