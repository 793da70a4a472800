/- dripkeep: step. -/
import Derived.Test.YtpilmkipbbengaaK3
import Derived.Test.YtpilmkipbbengaaK4
import Derived.Deep.RegionHeld3
namespace Go.Proofs.Ytpilmkipbbengaa
open Go.RowKit

/-- a step, raw -/
structure StepR where
  kind : Int
  a : Int
  b : Int
  c : Int
  d : Int

def StepR.v (s : StepR) : Value := .agg #[I s.kind, I s.a, I s.b, I s.c, I s.d]
structure StepR.Ok (s : StepR) : Prop where
  k : In64 s.kind
  a : In64 s.a
  b : In64 s.b
  c : In64 s.c
  d : In64 s.d

/-- a step has been done: the limits are as they were -/
def KDid (pa : Rep) (B : Nat → Prop) (w w' : World) (rb : Nat) (R : RSt) : Prop := ∃ R', KOk R' ∧ R'.lims = R.lims ∧ R'.lock = R.lock ∧ KGo pa B w w' rb R'

theorem KGo.did {pa : Rep} {B : Nat → Prop} {w w' : World} {rb : Nat} {R R' : RSt} (g : KGo pa B w w' rb R') (ok : KOk R') (h1 : R'.lims = R.lims) (h2 : R'.lock = R.lock) : KDid pa B w w' rb R := ⟨R', ok, h1, h2, g⟩

section
variable {fNew fRoom fWait fRest : FuncId} {pa : Rep}

set_option maxRecDepth 100000 in
set_option maxHeartbeats 3200000 in
theorem kstep_basal (P : Pumpy fNew 18 19 fRoom fWait pa) (B : Nat → Prop) (rb pb : Nat) (F : Nat → Prop) (R : RSt) (vl vd : Value) (s : StepR) (w : World) (h : KAt pa B w rb pb F R vl vd) (ok : KOk R) (hB : ∀ x, w.heap.size ≤ x → B x) (so : s.Ok) (hk : pk s.kind 8 < 2) :
    Calls Try.prog 26 #[.pointer (some ⟨rb, 0, none⟩), s.v] w fun e w' => e = .returned (.bool true) ∧ KDid pa B w w' rb R := by
  have PK := hide (fun c (n : Int) W h0 h1 hc => kpick_any c n W h0 h1 hc)
  have ha0 := pk_lo s.a (n := 3) (by omega)
  have ha1 := pk_hi s.a (n := 3) (by omega)
  have hb0 := pk_lo s.b (n := 15) (by omega)
  have hb1 := pk_hi s.b (n := 15) (by omega)
  have hc0 := pk_lo s.c (n := 20) (by omega)
  have hc1 := pk_hi s.c (n := 20) (by omega)
  have hd := h.rd.head
  have x0 : w.cell? ⟨rb, 0, none⟩ = some (.pointer (some ⟨pb, 0, none⟩)) := by rw [hd.cell]; rfl
  have lr := hd.lt
  have hg : basalBad R (pk s.a 3) (pk s.b 15) (pk s.c 20) = false := by
    have hi : isCh R (pk s.a 3) = true := by
      have := ok.nch
      simp [isCh]; omega
    simp [basalBad, hi]; omega
  have BAS : Hid (∀ m : Nat, Calls Try.prog 18 #[.pointer (some ⟨pb, 0, none⟩), I (pk s.a 3), I (pk s.b 15), I (pk s.c 20)] ((w.alloc (.cells #[I s.kind, I s.a, I s.b, I s.c, I s.d] 57)).drewN m) fun e w' => e = .returned (I 0) ∧ w'.cell? ⟨rb, 0, none⟩ = some (.pointer (some ⟨pb, 0, none⟩)) ∧ w'.cell? ⟨w.heap.size, 2, none⟩ = some (I s.b) ∧ w'.cell? ⟨w.heap.size, 3, none⟩ = some (I s.c) ∧ Hid (KDid pa B w w' rb R)) := by
    intro m
    have kW : Keep w ((w.alloc (.cells #[I s.kind, I s.a, I s.b, I s.c, I s.d] 57)).drewN m) := ((Frm.refl _ _).alloc _).drewN m
    refine (P.basal _ _ _ _ F pb R (P.frm h.pump kW fun _ _ e => e) ok.ok ok.full).mono ?_
    rintro e w' ⟨rfl, mv⟩
    have st := basalR_still R (pk s.a 3) (pk s.b 15) (pk s.c 20)
    have bx : Blk w' w.heap.size #[I s.kind, I s.a, I s.b, I s.c, I s.d] 57 := ((Blk.new w _ _).drewN m).frm mv.1 fun e => by have := P.lt h.pump _ e; omega
    have bk : KRd w' rb (kv pb vl vd R) := (h.rd.keep kW).frm mv.1 h.fr (fun x hx e => h.fd x e hx) (fun x hx e => h.fl x e hx)
    exact ⟨by simp [basalErr, hg], by rw [bk.head.cell]; rfl, by rw [bx.cell]; rfl, by rw [bx.cell]; rfl, (h.still hB kW mv st (basalR_rst R _ _ _)).did (st.kok ok (kbasal_ok ok.ok ok.full _ _ _)) st.lims st.lock⟩
  obtain ⟨s0, s1, s2, s3, s4⟩ := so
  have p0 := hide s0
  have p1 := hide s1
  have p2 := hide s2
  have p3 := hide s3
  have hkd : decide (pk s.kind 8 < 2) = true := decide_eq_true hk
  clear h ok hd hg s0 s1 s2 s3 s4
  unfold StepR.v
  go_enter Try.func26, Try.ntmps26
  go_wp2_with fail
  refine (PK.out _ _ _ (by omega) (by omega) p1.out).mono ?_
  rintro e w1 ⟨rfl, hw⟩
  subst hw
  go_wp2_with fail
  refine (PK.out _ _ _ (by omega) (by omega) p0.out).mono ?_
  rintro e w1 ⟨rfl, hw⟩
  subst hw
  go_wp2_with fail
  go_region_held3 (fun w' => w'.cell? ⟨rb, 0, none⟩ = some (.pointer (some ⟨pb, 0, none⟩)) ∧ w'.cell? ⟨w.heap.size, 2, none⟩ = some (I s.b) ∧ w'.cell? ⟨w.heap.size, 3, none⟩ = some (I s.c)) (((try dsimp only); (repeat' apply And.intro) <;> (go_keep; done))) (first | (go_at_call 18; refine (BAS.out _).mono ?_; rintro e w2 ⟨rfl, y1, y2, y3, D⟩) | (go_at_call 15; refine (PK.out _ _ _ (by omega) (by omega) (by first | exact p2.out | exact p3.out)).mono ?_; rintro e w1 ⟨rfl, hw⟩; have hw8 := hw.symm; subst hw8))
  all_goals go_wp2_with fail
  all_goals go_ret
  all_goals exact ⟨rfl, D.out⟩

theorem kticks_did (P : Pumpy fNew 18 19 fRoom fWait pa) (B : Nat → Prop) (rb pb : Nat) (F : Nat → Prop) (R : RSt) (vl vd : Value) (n : Int) (w : World) (h : KAt pa B w rb pb F R vl vd) (ok : KOk R) (hB : ∀ x, w.heap.size ≤ x → B x) (n1 : 1 ≤ n) (n2 : n ≤ 100) :
    Calls Try.prog 11 #[.pointer (some ⟨rb, 0, none⟩), I n] w fun e w' => e = .returned (.bool true) ∧ KOk (runR R n) ∧ KGo pa B w w' rb (runR R n) := by
  obtain ⟨N, rfl⟩ := Int.eq_ofNat_of_zero_le (show 0 ≤ n by omega)
  by_cases hm : R.now + (N : Int) ≤ 400
  · have e : runR R N = rticks N R := by
      have e1 : runErr R N = 0 := by rw [runErr, if_neg (by omega), if_neg (by omega)]
      simp [runR, e1]
    rw [e]
    exact (kticks_yes P B rb pb F R vl vd N w h ok hB (by omega) (by omega) hm).mono fun e w' q => ⟨q.1, runs_ok ok N hm, q.2⟩
  · have e : runR R N = R := by
      have e1 : runErr R N = 2 := by rw [runErr, if_neg (by omega), if_pos (by omega)]
      simp [runR, e1]
    rw [e]
    exact (kticks_many P B rb pb F R vl vd N w h ok hB (by omega) (by omega) (by omega)).mono fun e w' q => ⟨q.1, ok, q.2⟩

theorem runR_lims (R : RSt) (n : Int) : (runR R n).lims = R.lims ∧ (runR R n).lock = R.lock := by
  unfold runR
  split
  · obtain ⟨-, s2, -, s4, -⟩ := rticks_same n.toNat R
    exact ⟨s2, s4⟩
  · exact ⟨rfl, rfl⟩

set_option maxRecDepth 100000 in
set_option maxHeartbeats 3200000 in
theorem kstep_ticks (P : Pumpy fNew 18 19 fRoom fWait pa) (B : Nat → Prop) (rb pb : Nat) (F : Nat → Prop) (R : RSt) (vl vd : Value) (s : StepR) (w : World) (h : KAt pa B w rb pb F R vl vd) (ok : KOk R) (hB : ∀ x, w.heap.size ≤ x → B x) (so : s.Ok) (hk0 : 2 ≤ pk s.kind 8) (hk : pk s.kind 8 < 5) :
    Calls Try.prog 26 #[.pointer (some ⟨rb, 0, none⟩), s.v] w fun e w' => e = .returned (.bool true) ∧ KDid pa B w w' rb R := by
  have PK := hide (fun c (n : Int) W h0 h1 hc => kpick_any c n W h0 h1 hc)
  have ha0 := pk_lo s.a (n := 12) (by omega)
  have ha1 := pk_hi s.a (n := 12) (by omega)
  have TK : Hid (Calls Try.prog 11 #[.pointer (some ⟨rb, 0, none⟩), I (1 + pk s.a 12)] (w.alloc (.cells #[I s.kind, I s.a, I s.b, I s.c, I s.d] 57)) fun e w' => e = .returned (.bool true) ∧ Hid (KDid pa B w w' rb R)) := by
    have kW : Keep w (w.alloc (.cells #[I s.kind, I s.a, I s.b, I s.c, I s.d] 57)) := (Frm.refl _ _).alloc _
    refine (kticks_did P B rb pb F R vl vd _ _ (h.keep P.frm kW) ok (fun x hx => hB x (Nat.le_trans kW.size hx)) (by omega) (by omega)).mono ?_
    rintro e w' ⟨rfl, q1, q2⟩
    obtain ⟨l1, l2⟩ := runR_lims R (1 + pk s.a 12)
    exact ⟨rfl, (KGo.trans (kW.mono fun _ _ e => e.elim) q2).did q1 l1 l2⟩
  obtain ⟨s0, s1, s2, s3, s4⟩ := so
  have p0 := hide s0
  have p1 := hide s1
  have hkd : decide (pk s.kind 8 < 2) = false := decide_eq_false (by omega)
  have hke : decide (pk s.kind 8 < 5) = true := decide_eq_true hk
  clear h ok s0 s1 s2 s3 s4
  unfold StepR.v
  go_enter Try.func26, Try.ntmps26
  go_wp2_with fail
  refine (PK.out _ _ _ (by omega) (by omega) p1.out).mono ?_
  rintro e w1 ⟨rfl, hw⟩
  subst hw
  go_wp2_with fail
  refine (PK.out _ _ _ (by omega) (by omega) p0.out).mono ?_
  rintro e w1 ⟨rfl, hw⟩
  subst hw
  go_wp2_with fail
  refine (PK.out _ _ _ (by omega) (by omega) p1.out).mono ?_
  rintro e w1 ⟨rfl, hw⟩
  subst hw
  go_wp2_with fail
  refine (TK.out).mono ?_
  rintro e w2 ⟨rfl, D⟩
  go_wp2_with fail
  go_ret
  exact ⟨rfl, D.out⟩

end

end Go.Proofs.Ytpilmkipbbengaa
