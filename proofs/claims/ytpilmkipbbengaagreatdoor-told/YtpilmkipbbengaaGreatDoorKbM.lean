/- dripkeep: step. -/
import Derived.Test.YtpilmkipbbengaaGreatDoorKaM
import Derived.Deep.RegionHeld3
namespace Go.Proofs.YtpilmkipbbengaaGreatDoor
open Go.RowKit

/-- a step, raw -/
structure StepR where
  kind : Int
  a : Int
  b : Int
  c : Int
  d : Int

def StepR.v (s : StepR) : Value := .agg #[I s.kind, I s.a, I s.b, I s.c, I s.d]
structure StepR.Ok (s : StepR) : Prop where
  k : In64 s.kind
  a : In64 s.a
  b : In64 s.b
  c : In64 s.c
  d : In64 s.d

/-- a step has been done: the limits are as they were -/
def KDid (pa : Rep) (B : Nat → Prop) (w w' : World) (rb : Nat) (R : RSt) : Prop := ∃ R', KOk R' ∧ R'.lims = R.lims ∧ R'.lock = R.lock ∧ KGo pa B w w' rb R'

theorem KGo.did {pa : Rep} {B : Nat → Prop} {w w' : World} {rb : Nat} {R R' : RSt} (g : KGo pa B w w' rb R') (ok : KOk R') (h1 : R'.lims = R.lims) (h2 : R'.lock = R.lock) : KDid pa B w w' rb R := ⟨R', ok, h1, h2, g⟩

section
variable {fNew fRoom fWait fRest : FuncId} {pa : Rep}

set_option maxRecDepth 100000 in
set_option maxHeartbeats 3200000 in
theorem kstep_basal (P : Pumpw 32 46 fRoom fWait pa) (B : Nat → Prop) (rb pb : Nat) (F : Nat → Prop) (R : RSt) (vl vd : Value) (s : StepR) (w : World) (h : KAt pa B w rb pb F R vl vd) (ok : KOk R) (hB : ∀ x, w.heap.size ≤ x → B x) (so : s.Ok) (hk : pk s.kind 8 < 2) :
    Calls Tryz.prog 16 #[.pointer (some ⟨rb, 0, none⟩), s.v] w fun e w' => e = .returned (.bool true) ∧ KDid pa B w w' rb R := by
  have PK := hide (fun c (n : Int) W h0 h1 hc => kpick_any c n W h0 h1 hc)
  have ha0 := pk_lo s.a (n := 3) (by omega)
  have ha1 := pk_hi s.a (n := 3) (by omega)
  have hb0 := pk_lo s.b (n := 15) (by omega)
  have hb1 := pk_hi s.b (n := 15) (by omega)
  have hc0 := pk_lo s.c (n := 20) (by omega)
  have hc1 := pk_hi s.c (n := 20) (by omega)
  have hd := h.rd.head
  have x0 : w.cell? ⟨rb, 0, none⟩ = some (.pointer (some ⟨pb, 0, none⟩)) := by rw [hd.cell]; rfl
  have lr := hd.lt
  have hg : basalBad R (pk s.a 3) (pk s.b 15) (pk s.c 20) = false := by
    have hi : isCh R (pk s.a 3) = true := by
      have := ok.nch
      simp [isCh]; omega
    simp [basalBad, hi]; omega
  have BAS : Hid (∀ m : Nat, Calls Tryz.prog 32 #[.pointer (some ⟨pb, 0, none⟩), I (pk s.a 3), I (pk s.b 15), I (pk s.c 20)] ((w.alloc (.cells #[I s.kind, I s.a, I s.b, I s.c, I s.d] 48)).drewN m) fun e w' => e = .returned (I 0) ∧ w'.cell? ⟨rb, 0, none⟩ = some (.pointer (some ⟨pb, 0, none⟩)) ∧ w'.cell? ⟨w.heap.size, 2, none⟩ = some (I s.b) ∧ w'.cell? ⟨w.heap.size, 3, none⟩ = some (I s.c) ∧ Hid (KDid pa B w w' rb R)) := by
    intro m
    have kW : Keep w ((w.alloc (.cells #[I s.kind, I s.a, I s.b, I s.c, I s.d] 48)).drewN m) := ((Frm.refl _ _).alloc _).drewN m
    refine (P.basal _ _ _ _ F pb R (P.frm h.pump kW fun _ _ e => e) ok.ok ok.full).mono ?_
    rintro e w' ⟨rfl, mv⟩
    have st := basalR_still R (pk s.a 3) (pk s.b 15) (pk s.c 20)
    have bx : Blk w' w.heap.size #[I s.kind, I s.a, I s.b, I s.c, I s.d] 48 := ((Blk.new w _ _).drewN m).frm mv.1 fun e => by have := P.lt h.pump _ e; omega
    have bk : KRd w' rb (kv pb vl vd R) := (h.rd.keep kW).frm mv.1 h.fr (fun x hx e => h.fd x e hx) (fun x hx e => h.fl x e hx)
    exact ⟨by simp [basalErr, hg], by rw [bk.head.cell]; rfl, by rw [bx.cell]; rfl, by rw [bx.cell]; rfl, (h.still hB kW mv st (basalR_rst R _ _ _)).did (st.kok ok (kbasal_ok ok.ok ok.full _ _ _)) st.lims st.lock⟩
  obtain ⟨s0, s1, s2, s3, s4⟩ := so
  have p0 := hide s0
  have p1 := hide s1
  have p2 := hide s2
  have p3 := hide s3
  have hkd : decide (pk s.kind 8 < 2) = true := decide_eq_true hk
  clear h ok hd hg s0 s1 s2 s3 s4
  unfold StepR.v
  go_enter Tryz.func16, Tryz.ntmps16
  go_wp2_with fail
  refine (PK.out _ _ _ (by omega) (by omega) p1.out).mono ?_
  rintro e w1 ⟨rfl, hw⟩
  subst hw
  go_wp2_with fail
  refine (PK.out _ _ _ (by omega) (by omega) p0.out).mono ?_
  rintro e w1 ⟨rfl, hw⟩
  subst hw
  go_wp2_with fail
  go_region_held3 (fun w' => w'.cell? ⟨rb, 0, none⟩ = some (.pointer (some ⟨pb, 0, none⟩)) ∧ w'.cell? ⟨w.heap.size, 2, none⟩ = some (I s.b) ∧ w'.cell? ⟨w.heap.size, 3, none⟩ = some (I s.c)) (((try dsimp only); (repeat' apply And.intro) <;> (go_keep; done))) (first | (go_at_call 32; refine (BAS.out _).mono ?_; rintro e w2 ⟨rfl, y1, y2, y3, D⟩) | (go_at_call 22; refine (PK.out _ _ _ (by omega) (by omega) (by first | exact p2.out | exact p3.out)).mono ?_; rintro e w1 ⟨rfl, hw⟩; have hw8 := hw.symm; subst hw8))
  all_goals go_wp2_with fail
  all_goals go_ret
  all_goals exact ⟨rfl, D.out⟩

theorem kticks_did (P : Pumpw 32 46 fRoom fWait pa) (B : Nat → Prop) (rb pb : Nat) (F : Nat → Prop) (R : RSt) (vl vd : Value) (n : Int) (w : World) (h : KAt pa B w rb pb F R vl vd) (ok : KOk R) (hB : ∀ x, w.heap.size ≤ x → B x) (n1 : 1 ≤ n) (n2 : n ≤ 100) :
    Calls Tryz.prog 33 #[.pointer (some ⟨rb, 0, none⟩), I n] w fun e w' => e = .returned (.bool true) ∧ KOk (runR R n) ∧ KGo pa B w w' rb (runR R n) := by
  obtain ⟨N, rfl⟩ := Int.eq_ofNat_of_zero_le (show 0 ≤ n by omega)
  by_cases hm : R.now + (N : Int) ≤ 400
  · have e : runR R N = rticks N R := by
      have e1 : runErr R N = 0 := by rw [runErr, if_neg (by omega), if_neg (by omega)]
      simp [runR, e1]
    rw [e]
    exact (kticks_yes P B rb pb F R vl vd N w h ok hB (by omega) (by omega) hm).mono fun e w' q => ⟨q.1, runs_ok ok N hm, q.2⟩
  · have e : runR R N = R := by
      have e1 : runErr R N = 2 := by rw [runErr, if_neg (by omega), if_pos (by omega)]
      simp [runR, e1]
    rw [e]
    exact (kticks_many P B rb pb F R vl vd N w h ok hB (by omega) (by omega) (by omega)).mono fun e w' q => ⟨q.1, ok, q.2⟩

theorem runR_lims (R : RSt) (n : Int) : (runR R n).lims = R.lims ∧ (runR R n).lock = R.lock := by
  unfold runR
  split
  · obtain ⟨-, s2, -, s4, -⟩ := rticks_same n.toNat R
    exact ⟨s2, s4⟩
  · exact ⟨rfl, rfl⟩

set_option maxRecDepth 100000 in
set_option maxHeartbeats 3200000 in
theorem kstep_ticks (P : Pumpw 32 46 fRoom fWait pa) (B : Nat → Prop) (rb pb : Nat) (F : Nat → Prop) (R : RSt) (vl vd : Value) (s : StepR) (w : World) (h : KAt pa B w rb pb F R vl vd) (ok : KOk R) (hB : ∀ x, w.heap.size ≤ x → B x) (so : s.Ok) (hk0 : 2 ≤ pk s.kind 8) (hk : pk s.kind 8 < 5) :
    Calls Tryz.prog 16 #[.pointer (some ⟨rb, 0, none⟩), s.v] w fun e w' => e = .returned (.bool true) ∧ KDid pa B w w' rb R := by
  have PK := hide (fun c (n : Int) W h0 h1 hc => kpick_any c n W h0 h1 hc)
  have ha0 := pk_lo s.a (n := 12) (by omega)
  have ha1 := pk_hi s.a (n := 12) (by omega)
  have TK : Hid (Calls Tryz.prog 33 #[.pointer (some ⟨rb, 0, none⟩), I (1 + pk s.a 12)] (w.alloc (.cells #[I s.kind, I s.a, I s.b, I s.c, I s.d] 48)) fun e w' => e = .returned (.bool true) ∧ Hid (KDid pa B w w' rb R)) := by
    have kW : Keep w (w.alloc (.cells #[I s.kind, I s.a, I s.b, I s.c, I s.d] 48)) := (Frm.refl _ _).alloc _
    refine (kticks_did P B rb pb F R vl vd _ _ (h.keep P.frm kW) ok (fun x hx => hB x (Nat.le_trans kW.size hx)) (by omega) (by omega)).mono ?_
    rintro e w' ⟨rfl, q1, q2⟩
    obtain ⟨l1, l2⟩ := runR_lims R (1 + pk s.a 12)
    exact ⟨rfl, (KGo.trans (kW.mono fun _ _ e => e.elim) q2).did q1 l1 l2⟩
  obtain ⟨s0, s1, s2, s3, s4⟩ := so
  have p0 := hide s0
  have p1 := hide s1
  have hkd : decide (pk s.kind 8 < 2) = false := decide_eq_false (by omega)
  have hke : decide (pk s.kind 8 < 5) = true := decide_eq_true hk
  clear h ok s0 s1 s2 s3 s4
  unfold StepR.v
  go_enter Tryz.func16, Tryz.ntmps16
  go_wp2_with fail
  refine (PK.out _ _ _ (by omega) (by omega) p1.out).mono ?_
  rintro e w1 ⟨rfl, hw⟩
  subst hw
  go_wp2_with fail
  refine (PK.out _ _ _ (by omega) (by omega) p0.out).mono ?_
  rintro e w1 ⟨rfl, hw⟩
  subst hw
  go_wp2_with fail
  refine (PK.out _ _ _ (by omega) (by omega) p1.out).mono ?_
  rintro e w1 ⟨rfl, hw⟩
  subst hw
  go_wp2_with fail
  refine (TK.out).mono ?_
  rintro e w2 ⟨rfl, D⟩
  go_wp2_with fail
  go_ret
  exact ⟨rfl, D.out⟩

end

end Go.Proofs.YtpilmkipbbengaaGreatDoor

/- dripkeep: step: orders, demands, rests. -/
namespace Go.Proofs.YtpilmkipbbengaaGreatDoor
open Go.RowKit

/-- what pick answers, as a number of which nothing else is known -/
theorem kpick_some (c n : Int) (h0 : 0 < n) (h1 : n ≤ 1000000000) (hc : In64 c) : ∃ k : Int, k = pk c n ∧ 0 ≤ k ∧ k < n ∧ Hid (∀ W : World, Calls Tryz.prog 22 #[I c, I n] W fun r w' => r = .returned (I k) ∧ w' = W) :=
  ⟨_, rfl, pk_lo c h0, pk_hi c h0, fun W => kpick_any c n W h0 h1 hc⟩

section
variable {fNew fBasal fRun fRoom fWait fRest : FuncId} {pa : Rep}

set_option maxRecDepth 100000 in
set_option maxHeartbeats 3200000 in
theorem kstep_order (P : Pumpw fBasal fRun fRoom fWait pa) (O : Orderly 34 35 fRest 21 15 pa) (B : Nat → Prop) (rb pb : Nat) (F : Nat → Prop) (R : RSt) (vl vd : Value) (s : StepR) (w : World) (h : KAt pa B w rb pb F R vl vd) (ok : KOk R) (hB : ∀ x, w.heap.size ≤ x → B x) (so : s.Ok) (hk : pk s.kind 8 = 5) :
    Calls Tryz.prog 16 #[.pointer (some ⟨rb, 0, none⟩), s.v] w fun e w' => e = .returned (.bool true) ∧ KDid pa B w w' rb R := by
  obtain ⟨kd, kd0, kd1, kd2, PD⟩ := kpick_some s.kind 8 (by omega) (by omega) so.k
  obtain ⟨ca, -, ha0, ha1, PA⟩ := kpick_some s.a 3 (by omega) (by omega) so.a
  obtain ⟨cb, -, hb0, hb1, PB⟩ := kpick_some s.b 60 (by omega) (by omega) so.b
  obtain ⟨cc, -, hc0, hc1, PC⟩ := kpick_some s.c 15 (by omega) (by omega) so.c
  obtain ⟨cd, -, hd0, hd1, PE⟩ := kpick_some s.d 15 (by omega) (by omega) so.d
  have hd := h.rd.head
  have x0 : w.cell? ⟨rb, 0, none⟩ = some (.pointer (some ⟨pb, 0, none⟩)) := by rw [hd.cell]; rfl
  have lr := hd.lt
  have hg : orderBad R ca (1 + cb) cc (1 + cd) = false := by
    have hi : isCh R ca = true := by
      have := ok.nch
      simp [isCh]; omega
    simp [orderBad, hi]; omega
  have ORD : Hid (∀ m : Nat, Calls Tryz.prog 34 #[.pointer (some ⟨pb, 0, none⟩), I ca, I (1 + cb), I cc, I (1 + cd)] ((w.alloc (.cells #[I s.kind, I s.a, I s.b, I s.c, I s.d] 48)).drewN m) fun e w' => ∃ (N E : Int), e = .returned (.tuple #[I N, I E]) ∧ w'.cell? ⟨rb, 0, none⟩ = some (.pointer (some ⟨pb, 0, none⟩)) ∧ w'.cell? ⟨w.heap.size, 2, none⟩ = some (I s.b) ∧ w'.cell? ⟨w.heap.size, 3, none⟩ = some (I s.c) ∧ w'.cell? ⟨w.heap.size, 4, none⟩ = some (I s.d) ∧ Hid (((E = 0 ∧ 0 < N) ∨ (E = 2 ∧ N = 0)) ∧ KDid pa B w w' rb R)) := by
    intro m
    have kW : Keep w ((w.alloc (.cells #[I s.kind, I s.a, I s.b, I s.c, I s.d] 48)).drewN m) := ((Frm.refl _ _).alloc _).drewN m
    refine (O.order _ _ _ _ _ F pb R (P.frm h.pump kW fun _ _ e => e) ok.ok ok.full).mono ?_
    rintro e w' ⟨rfl, mv⟩
    obtain ⟨st, sr⟩ := orderR_still R ca (1 + cb) cc (1 + cd)
    have bx : Blk w' w.heap.size #[I s.kind, I s.a, I s.b, I s.c, I s.d] 48 := ((Blk.new w _ _).drewN m).frm mv.1 fun e => by have := P.lt h.pump _ e; omega
    have bk : KRd w' rb (kv pb vl vd R) := (h.rd.keep kW).frm mv.1 h.fr (fun x hx e => h.fd x e hx) (fun x hx e => h.fl x e hx)
    refine ⟨_, _, rfl, by rw [bk.head.cell]; rfl, by rw [bx.cell]; rfl, by rw [bx.cell]; rfl, by rw [bx.cell]; rfl, ?_, (h.still hB kW mv st sr).did (st.kok ok (orderR_ok ok.ok ok.full _ _ _ _)) st.lims st.lock⟩
    unfold orderN
    by_cases q : 8 ≤ nov R.now R.os
    · have e : orderErr R ca (1 + cb) cc (1 + cd) = 2 := by simp [orderErr, hg, q]
      rw [e]; exact Or.inr ⟨rfl, rfl⟩
    · have e : orderErr R ca (1 + cb) cc (1 + cd) = 0 := by simp [orderErr, hg, q]
      rw [e]; exact Or.inl ⟨rfl, by rw [if_pos rfl]; omega⟩
  have hkd : decide (kd < 2) = false := decide_eq_false (by omega)
  have hke : decide (kd < 5) = false := decide_eq_false (by omega)
  have hkf : (kd == 5) = true := by rw [beq_iff_eq]; omega
  have w1b : IntKind.i64.wrap (1 + cb) = 1 + cb := wrap_id _ (by omega) (by omega)
  have w1d : IntKind.i64.wrap (1 + cd) = 1 + cd := wrap_id _ (by omega) (by omega)
  clear h ok hd hg hk kd0 so
  unfold StepR.v
  go_enter Tryz.func16, Tryz.ntmps16
  go_wp2_with fail
  refine (PA.out _).mono ?_
  rintro e w1 ⟨rfl, hw⟩
  subst hw
  go_wp2_with fail
  refine (PD.out _).mono ?_
  rintro e w1 ⟨rfl, hw⟩
  subst hw
  go_wp2_with fail
  go_region_held3 (fun w' => w'.cell? ⟨rb, 0, none⟩ = some (.pointer (some ⟨pb, 0, none⟩)) ∧ w'.cell? ⟨w.heap.size, 2, none⟩ = some (I s.b) ∧ w'.cell? ⟨w.heap.size, 3, none⟩ = some (I s.c) ∧ w'.cell? ⟨w.heap.size, 4, none⟩ = some (I s.d)) (((try dsimp only); (repeat' apply And.intro) <;> (go_keep; done))) (first | (go_at_call 34; (try rw [w1b]); (try rw [w1d]); refine (ORD.out _).mono ?_; rintro e w2 ⟨N, E, rfl, y1, y2, y3, y4, D⟩) | (go_at_call_of 22 (s.b); refine (PB.out _).mono ?_; rintro e w1 ⟨rfl, hw⟩; have hw8 := hw.symm; subst hw8) | (go_at_call_of 22 (s.c); refine (PC.out _).mono ?_; rintro e w1 ⟨rfl, hw⟩; have hw8 := hw.symm; subst hw8) | (go_at_call_of 22 (s.d); refine (PE.out _).mono ?_; rintro e w1 ⟨rfl, hw⟩; have hw8 := hw.symm; subst hw8))
  all_goals (obtain ⟨⟨rfl, d2⟩ | ⟨rfl, rfl⟩, D2⟩ := D.out)
  all_goals (have D3 := hide D2)
  all_goals clear D D2
  all_goals go_wp2_with fail
  all_goals go_ret
  all_goals exact ⟨rfl, D3.out⟩

end

end Go.Proofs.YtpilmkipbbengaaGreatDoor

/- dripkeep: step: demands, rests; step whole. -/
namespace Go.Proofs.YtpilmkipbbengaaGreatDoor
open Go.RowKit

section
variable {fNew fBasal fRun fRoom fWait fRest : FuncId} {pa : Rep}

set_option maxRecDepth 100000 in
set_option maxHeartbeats 3200000 in
theorem kstep_demand (P : Pumpw fBasal fRun fRoom fWait pa) (O : Orderly 34 35 fRest 21 15 pa) (B : Nat → Prop) (rb pb : Nat) (F : Nat → Prop) (R : RSt) (vl vd : Value) (s : StepR) (w : World) (h : KAt pa B w rb pb F R vl vd) (ok : KOk R) (hB : ∀ x, w.heap.size ≤ x → B x) (so : s.Ok) (hk : pk s.kind 8 = 6) :
    Calls Tryz.prog 16 #[.pointer (some ⟨rb, 0, none⟩), s.v] w fun e w' => e = .returned (.bool true) ∧ KDid pa B w w' rb R := by
  obtain ⟨kd, kd0, kd1, kd2, PD⟩ := kpick_some s.kind 8 (by omega) (by omega) so.k
  obtain ⟨ca, -, ha0, ha1, PA⟩ := kpick_some s.a 3 (by omega) (by omega) so.a
  obtain ⟨cb, -, hb0, hb1, PB⟩ := kpick_some s.b 30 (by omega) (by omega) so.b
  have hd := h.rd.head
  have x0 : w.cell? ⟨rb, 0, none⟩ = some (.pointer (some ⟨pb, 0, none⟩)) := by rw [hd.cell]; rfl
  have lr := hd.lt
  have hg : demandBad R ca (1 + cb) = false := by
    have hi : isCh R ca = true := by
      have := ok.nch
      simp [isCh]; omega
    simp [demandBad, hi]; omega
  have ORD : Hid (∀ m : Nat, Calls Tryz.prog 35 #[.pointer (some ⟨pb, 0, none⟩), I ca, I (1 + cb)] ((w.alloc (.cells #[I s.kind, I s.a, I s.b, I s.c, I s.d] 48)).drewN m) fun e w' => ∃ (N E : Int), e = .returned (.tuple #[I N, I E]) ∧ w'.cell? ⟨rb, 0, none⟩ = some (.pointer (some ⟨pb, 0, none⟩)) ∧ w'.cell? ⟨w.heap.size, 2, none⟩ = some (I s.b) ∧ Hid (((E = 0 ∧ 0 < N) ∨ (E = 2 ∧ N = 0) ∨ (E = 4 ∧ N = 0)) ∧ KDid pa B w w' rb R)) := by
    intro m
    have kW : Keep w ((w.alloc (.cells #[I s.kind, I s.a, I s.b, I s.c, I s.d] 48)).drewN m) := ((Frm.refl _ _).alloc _).drewN m
    refine (O.demand _ _ _ F pb R (P.frm h.pump kW fun _ _ e => e) ok.ok ok.full).mono ?_
    rintro e w' ⟨rfl, mv⟩
    obtain ⟨st, sr⟩ := demandR_still R ca (1 + cb)
    have bx : Blk w' w.heap.size #[I s.kind, I s.a, I s.b, I s.c, I s.d] 48 := ((Blk.new w _ _).drewN m).frm mv.1 fun e => by have := P.lt h.pump _ e; omega
    have bk : KRd w' rb (kv pb vl vd R) := (h.rd.keep kW).frm mv.1 h.fr (fun x hx e => h.fd x e hx) (fun x hx e => h.fl x e hx)
    refine ⟨_, _, rfl, by rw [bk.head.cell]; rfl, by rw [bx.cell]; rfl, ?_, (h.still hB kW mv st sr).did (st.kok ok (demandR_ok ok.ok ok.full _ _)) st.lims st.lock⟩
    unfold demandN
    by_cases q0 : lockedB R ca.toNat = true
    · have e : demandErr R ca (1 + cb) = 4 := by simp [demandErr, hg, q0]
      rw [e]; exact Or.inr (Or.inr ⟨rfl, rfl⟩)
    · by_cases q : 8 ≤ nov R.now R.os
      · have e : demandErr R ca (1 + cb) = 2 := by simp [demandErr, hg, q, q0]
        rw [e]; exact Or.inr (Or.inl ⟨rfl, rfl⟩)
      · have e : demandErr R ca (1 + cb) = 0 := by simp [demandErr, hg, q, q0]
        rw [e]; exact Or.inl ⟨rfl, by rw [if_pos rfl]; omega⟩
  have hkd : decide (kd < 2) = false := decide_eq_false (by omega)
  have hke : decide (kd < 5) = false := decide_eq_false (by omega)
  have hkf : (kd == 5) = false := by rw [beq_eq_false_iff_ne]; omega
  have hkg : (kd == 6) = true := by rw [beq_iff_eq]; omega
  have w1b : IntKind.i64.wrap (1 + cb) = 1 + cb := wrap_id _ (by omega) (by omega)
  clear h ok hd hg hk kd0 so
  unfold StepR.v
  go_enter Tryz.func16, Tryz.ntmps16
  go_wp2_with fail
  refine (PA.out _).mono ?_
  rintro e w1 ⟨rfl, hw⟩
  subst hw
  go_wp2_with fail
  refine (PD.out _).mono ?_
  rintro e w1 ⟨rfl, hw⟩
  subst hw
  go_wp2_with fail
  go_region_held3 (fun w' => w'.cell? ⟨rb, 0, none⟩ = some (.pointer (some ⟨pb, 0, none⟩)) ∧ w'.cell? ⟨w.heap.size, 2, none⟩ = some (I s.b)) (((try dsimp only); (repeat' apply And.intro) <;> (go_keep; done))) (first | (go_at_call 35; (try rw [w1b]); refine (ORD.out _).mono ?_; rintro e w2 ⟨N, E, rfl, y1, y2, D⟩) | (go_at_call_of 22 (s.b); refine (PB.out _).mono ?_; rintro e w1 ⟨rfl, hw⟩; have hw8 := hw.symm; subst hw8))
  all_goals (obtain ⟨⟨rfl, d2⟩ | ⟨rfl, rfl⟩ | ⟨rfl, rfl⟩, D2⟩ := D.out)
  all_goals (have D3 := hide D2)
  all_goals clear D D2
  all_goals go_wp2_with fail
  all_goals go_ret
  all_goals exact ⟨rfl, D3.out⟩

/-- the mark of a channel that rests is turned -/
theorem KAt.flip {pa : Rep} {B : Nat → Prop} {w W w2 : World} {rb pb k : Nat} {F : Nat → Prop} {R : RSt} {vl vd : Value} {yes : Bool} (h : KAt pa B w rb pb F R vl vd) (ok : KOk R) (frmP : ∀ {S : Nat → Prop} {w w' : World} {F : Nat → Prop} {b : Nat} {R : RSt}, pa w F b R → Frm S w w' → (∀ x, F x → ¬ S x) → pa w' F b R)
    (hB : ∀ x, w.heap.size ≤ x → B x) (kW : Keep w W) (hk : k < 3) (hr : rst R k = !yes) (mv : Moved pa W F pb (restsR R k yes) w2) (m : Nat) : KDid pa B w ((w2.setCell ⟨rb, 6 + k, none⟩ (.bool yes)).drewN m) rb R := by
  obtain ⟨-, st, sr⟩ := restsR_flip (show k < R.chs.length by rw [ok.nch]; exact hk) hr
  obtain ⟨F', h1, h2, h3, h4, h5, h6, h7⟩ := h.called hB kW mv
  have f : Frm (fun x => x = rb) w2 ((w2.setCell ⟨rb, 6 + k, none⟩ (.bool yes)).drewN m) := ((Frm.refl (fun x => x = rb) w2).setCell (p := ⟨rb, 6 + k, none⟩) rfl _).drewN m
  have ro := restsR_ok ok.ok ok.full k yes
  refine ⟨restsR R k yes, st.kok ok ro, st.lims, st.lock, ?_⟩
  refine ⟨h3.trans2 f fun x _ e => by subst e; exact h.lb, pb, F', vl, vd, ⟨?_, ?_, ?_⟩, frmP h2 f fun x hx e => h4 (e ▸ hx), h4, h5, h6, h.lb, h7, h.ld⟩
  · have hh := (h1.head.set (6 + k) (.bool yes)).drewN m
    have e : (kv pb vl vd R).cells.setIfInBounds (6 + k) (.bool yes) = (kv pb vl vd (restsR R k yes)).cells := by
      have : k = 0 ∨ k = 1 ∨ k = 2 := by omega
      unfold kv KV.cells
      simp only [st.lock, st.now]
      rw [sr 0, sr 1, sr 2]
      rcases this with rfl | rfl | rfl <;> simp
    rw [e] at hh
    exact hh
  · show World.ownsRow _ 0 60 3 vl (restsR R k yes).lims.length ((restsR R k yes).lims.flatMap limC)
    rw [st.lims]
    exact row_frm h1.lims f fun x hx e => h1.sl (by rw [← e]; exact hx)
  · show World.ownsRow _ 0 100 3 vd (restsR R k yes).doses.length ((restsR R k yes).doses.flatMap dsC)
    rw [st.doses]
    exact row_frm h1.row f fun x hx e => h1.sd (by rw [← e]; exact hx)

set_option maxRecDepth 100000 in
set_option maxHeartbeats 3200000 in
theorem kstep_flip (P : Pumpw fBasal fRun fRoom fWait pa) (O : Orderly 34 35 fRest 21 15 pa) (B : Nat → Prop) (rb pb : Nat) (F : Nat → Prop) (R : RSt) (vl vd : Value) (s : StepR) (w : World) (h : KAt pa B w rb pb F R vl vd) (ok : KOk R) (hB : ∀ x, w.heap.size ≤ x → B x) (so : s.Ok) (hk : pk s.kind 8 = 7) :
    Calls Tryz.prog 16 #[.pointer (some ⟨rb, 0, none⟩), s.v] w fun e w' => e = .returned (.bool true) ∧ KDid pa B w w' rb R := by
  obtain ⟨kd, kd0, kd1, kd2, PD⟩ := kpick_some s.kind 8 (by omega) (by omega) so.k
  obtain ⟨ca, -, ha0, ha1, PA⟩ := kpick_some s.a 3 (by omega) (by omega) so.a
  obtain ⟨k, rfl⟩ := Int.eq_ofNat_of_zero_le ha0
  have hd := h.rd.head
  have x0 : w.cell? ⟨rb, 0, none⟩ = some (.pointer (some ⟨pb, 0, none⟩)) := by rw [hd.cell]; rfl
  have hk3 : k < 3 := by omega
  have cell6 : ∀ {w' : World}, KRd w' rb (kv pb vl vd R) → w'.cell? ⟨rb, 6 + k, none⟩ = some (.bool (rst R k)) := by
    intro w' hh
    rw [hh.head.cell]
    have : k = 0 ∨ k = 1 ∨ k = 2 := by omega
    rcases this with rfl | rfl | rfl <;> rfl
  have x6 := cell6 h.rd
  have lr := hd.lt
  have kW : Keep w (w.alloc (.cells #[I s.kind, I s.a, I s.b, I s.c, I s.d] 48)) := (Frm.refl _ _).alloc _
  have CALL : ∀ yes : Bool, rst R k = !yes → ∀ f : FuncId, (f = 21 ∧ yes = true) ∨ (f = 15 ∧ yes = false) → Calls Tryz.prog f #[.pointer (some ⟨pb, 0, none⟩), I k] (w.alloc (.cells #[I s.kind, I s.a, I s.b, I s.c, I s.d] 48)) fun e w' => e = .returned (I 0) ∧ w'.cell? ⟨rb, 6 + k, none⟩ = some (.bool (!yes)) ∧ w'.frozen? ⟨rb, 6 + k, none⟩ = false ∧ rb < w'.heap.size ∧ Hid (∀ m, KDid pa B w ((w'.setCell ⟨rb, 6 + k, none⟩ (.bool yes)).drewN m) rb R) := by
    intro yes hr f hf
    have hfl := restsR_flip (show k < R.chs.length by rw [ok.nch]; exact hk3) hr
    have fin : ∀ (e : Ending) (w' : World), e = .returned (I (restsErr R k yes)) ∧ Moved pa (w.alloc (.cells #[I s.kind, I s.a, I s.b, I s.c, I s.d] 48)) F pb (restsR R k yes) w' → e = .returned (I 0) ∧ w'.cell? ⟨rb, 6 + k, none⟩ = some (.bool (!yes)) ∧ w'.frozen? ⟨rb, 6 + k, none⟩ = false ∧ rb < w'.heap.size ∧ Hid (∀ m, KDid pa B w ((w'.setCell ⟨rb, 6 + k, none⟩ (.bool yes)).drewN m) rb R) := by
      rintro e w' ⟨rfl, mv⟩
      have bk : KRd w' rb (kv pb vl vd R) := (h.rd.keep kW).frm mv.1 h.fr (fun x hx e => h.fd x e hx) (fun x hx e => h.fl x e hx)
      exact ⟨by rw [hfl.1], by rw [cell6 bk, hr], bk.head.frozen _, bk.head.lt, fun m => h.flip ok P.frm hB kW hk3 hr mv m⟩
    have pp := P.frm h.pump kW fun _ _ e => e
    rcases hf with ⟨rfl, rfl⟩ | ⟨rfl, rfl⟩
    · exact (O.pause k _ F pb R pp ok.ok ok.full).mono fin
    · exact (O.resume k _ F pb R pp ok.ok ok.full).mono fin
  have CL := hide CALL
  have hkd : decide (kd < 2) = false := decide_eq_false (by omega)
  have hke : decide (kd < 5) = false := decide_eq_false (by omega)
  have hkf : (kd == 5) = false := by rw [beq_eq_false_iff_ne]; omega
  have hkg : (kd == 6) = false := by rw [beq_eq_false_iff_ne]; omega
  clear h ok hd hk kd0 so CALL cell6
  cases hr : rst R k with
  | false =>
    have C1 := hide (CL.out true (by rw [hr]; rfl) 21 (Or.inl ⟨rfl, rfl⟩))
    rw [hr] at x6
    clear hr CL
    unfold StepR.v
    go_enter Tryz.func16, Tryz.ntmps16
    go_wp2_with fail
    refine (PA.out _).mono ?_
    rintro e w1 ⟨rfl, hw⟩
    subst hw
    go_wp2_with fail
    refine (PD.out _).mono ?_
    rintro e w1 ⟨rfl, hw⟩
    subst hw
    go_wp2_with fail
    refine (C1.out).mono ?_
    rintro e w2 ⟨rfl, z1, z2, z3, D⟩
    go_wp2_with fail
    go_region
    all_goals go_wp2_with fail
    all_goals go_ret
    all_goals exact ⟨rfl, D.out 1⟩
  | true =>
    have C1 := hide (CL.out false (by rw [hr]; rfl) 15 (Or.inr ⟨rfl, rfl⟩))
    rw [hr] at x6
    clear hr CL
    unfold StepR.v
    go_enter Tryz.func16, Tryz.ntmps16
    go_wp2_with fail
    refine (PA.out _).mono ?_
    rintro e w1 ⟨rfl, hw⟩
    subst hw
    go_wp2_with fail
    refine (PD.out _).mono ?_
    rintro e w1 ⟨rfl, hw⟩
    subst hw
    go_wp2_with fail
    refine (C1.out).mono ?_
    rintro e w2 ⟨rfl, z1, z2, z3, D⟩
    go_wp2_with fail
    go_region
    all_goals go_wp2_with fail
    all_goals go_ret
    all_goals exact ⟨rfl, D.out 1⟩

end

theorem kstep_any {fRoom fWait fRest : FuncId} {pa : Rep} (P : Pumpw 32 46 fRoom fWait pa) (O : Orderly 34 35 fRest 21 15 pa) (B : Nat → Prop) (rb pb : Nat) (F : Nat → Prop) (R : RSt) (vl vd : Value) (s : StepR) (w : World) (h : KAt pa B w rb pb F R vl vd) (ok : KOk R) (hB : ∀ x, w.heap.size ≤ x → B x) (so : s.Ok) :
    Calls Tryz.prog 16 #[.pointer (some ⟨rb, 0, none⟩), s.v] w fun e w' => e = .returned (.bool true) ∧ KDid pa B w w' rb R := by
  have h0 := pk_lo s.kind (n := 8) (by omega)
  have h1 := pk_hi s.kind (n := 8) (by omega)
  by_cases q1 : pk s.kind 8 < 2
  · exact kstep_basal P B rb pb F R vl vd s w h ok hB so q1
  · by_cases q2 : pk s.kind 8 < 5
    · exact kstep_ticks P B rb pb F R vl vd s w h ok hB so (by omega) q2
    · by_cases q3 : pk s.kind 8 = 5
      · exact kstep_order P O B rb pb F R vl vd s w h ok hB so q3
      · by_cases q4 : pk s.kind 8 = 6
        · exact kstep_demand P O B rb pb F R vl vd s w h ok hB so q4
        · exact kstep_flip P O B rb pb F R vl vd s w h ok hB so (by omega)

end Go.Proofs.YtpilmkipbbengaaGreatDoor

/- dripkeep: fresh, run. -/
namespace Go.Proofs.YtpilmkipbbengaaGreatDoor
open Go.RowKit

/-- a config of dripkeep, as config answers it -/
structure CfgAt (w : World) (v : Value) (lims : List Lim) (lock : Int) : Prop where
  row : w.ownsRow 0 60 3 v lims.length (lims.flatMap limC)
  ok : ∀ l ∈ lims, l.Ok ∧ l.ch ≤ 7
  nl : lims.length ≤ 4
  l0 : 0 ≤ lock
  l1 : lock ≤ 400

theorem CfgAt.keep {w w' : World} {v : Value} {lims : List Lim} {lock : Int} (h : CfgAt w v lims lock) (k : Keep w w') : CfgAt w' v lims lock := ⟨row_frm h.row k (fun _ _ e => e), h.ok, h.nl, h.l0, h.l1⟩

theorem CfgAt.fine {w : World} {v : Value} {lims : List Lim} {lock : Int} (h : CfgAt w v lims lock) : fineB 3 lims lock = true := by
  have h1 := h.nl
  have h2 := h.l0
  have h3 := h.l1
  simp only [fineB, Bool.and_eq_true, Bool.not_eq_true', List.all_eq_true]
  refine ⟨by simp [badHead]; omega, ?_⟩
  intro l hl
  obtain ⟨ho, h7⟩ := h.ok l hl
  obtain ⟨a1, a2, a3, a4, a5, a6⟩ := ho
  have hp : (2 : Int) ^ (3 : Int).toNat = 8 := rfl
  simp only [badLim, hp]
  simp
  omega

theorem CfgAt.see {w : World} {v : Value} {lims : List Lim} {lock : Int} (h : CfgAt w v lims lock) : ∃ a cap, v = .slice a lims.length cap ∧ SeeL w a lims ∧ (a = none → lims.length = 0 ∧ cap = 0) := by
  rcases h.row.2 with ⟨rfl, h2⟩ | ⟨g, cap, cur, rfl, r1, r2, r3⟩
  · have : lims = [] := List.eq_nil_of_length_eq_zero h2
    exact ⟨none, 0, by rw [h2], Or.inl this, fun _ => ⟨h2, rfl⟩⟩
  · refine ⟨some ⟨g, 0, none⟩, cap, rfl, Or.inr ⟨g, 0, rfl, (h.row.lt g rfl).2, ?_⟩, fun e => by cases e⟩
    intro i l hl
    obtain ⟨g', cap', e, -, hc, -⟩ := row_at h.row (fun _ => rfl) hl (by decide)
    injection e with e1 e2 e3
    injection e1 with e1
    injection e1 with e1
    subst e1
    have c0 := hc 0 (by decide)
    have c1 := hc 1 (by decide)
    have c2 := hc 2 (by decide)
    simp only [limC] at c0 c1 c2
    refine ⟨?_, ?_, ?_⟩
    · simpa using c0
    · simpa using c1
    · simpa using c2

theorem new_kok {lims : List Lim} {lock : Int} (h : fineB 3 lims lock = true) : KOk (rnew 3 lims lock) := by
  obtain ⟨o1, o2⟩ := knew_ok h
  have e : (3 : Int).toNat = 3 := rfl
  rw [e] at o1 o2
  exact ⟨o1, o2, told_new 3 lims lock fun l hl => (o1.lims l hl).cap0, by simp [rnew]⟩

section
variable {fBasal fRun fRoom fWait : FuncId} {pa : Rep}

set_option maxRecDepth 100000 in
set_option maxHeartbeats 1600000 in
theorem kfresh_any (P : Pumpy 25 fBasal fRun fRoom fWait pa) (B : Nat → Prop) (v : Value) (lims : List Lim) (lock : Int) (w : World) (hc : CfgAt w v lims lock) (hB : ∀ x, w.heap.size ≤ x → B x) :
    Calls Tryz.prog 23 #[.agg #[I 3, v, I lock]] w fun e w' => ∃ rb pb F, e = .returned (.pointer (some ⟨rb, 0, none⟩)) ∧ Keep w w' ∧ KAt pa B w' rb pb F (rnew 3 lims lock) v (.slice none 0 0) := by
  obtain ⟨a, cap, rfl, hs, hn⟩ := hc.see
  have hf := hc.fine
  have nl := hc.nl
  have NEW : Hid (Calls Tryz.prog 25 #[.agg #[I 3, .slice a lims.length cap, I lock]] (w.alloc (.cells #[I 3, .slice a lims.length cap, I lock] 30)) fun e w1 => ∃ pb, e = .returned (.tuple #[.pointer (some ⟨pb, 0, none⟩), I 0]) ∧ w1.cell? ⟨w.heap.size, 0, none⟩ = some (I 3) ∧ w1.cell? ⟨w.heap.size, 1, none⟩ = some (.slice a lims.length cap) ∧ w1.cell? ⟨w.heap.size, 2, none⟩ = some (I lock) ∧ Hid (Keep w w1 ∧ ∃ F, pa w1 F pb (rnew 3 lims lock) ∧ ∀ x, F x → w.heap.size ≤ x)) := by
    have kW : Keep w (w.alloc (.cells #[I 3, .slice a lims.length cap, I lock] 30)) := (Frm.refl _ _).alloc _
    have hs' := hs.frm kW (fun _ _ _ e => e)
    refine (P.new 3 a lims cap lock _ hs' hn (by omega)).mono ?_
    rintro e w1 ⟨k1, ⟨hx, -⟩ | ⟨-, b, F, rfl, hp, hF⟩⟩
    · rw [hf] at hx; cases hx
    · have bx := k1.blk (Blk.new w #[I 3, .slice a lims.length cap, I lock] 30)
      have sz := kW.size
      exact ⟨b, rfl, by rw [bx.cell]; rfl, by rw [bx.cell]; rfl, by rw [bx.cell]; rfl, kW.trans k1, F, hp, fun x hx => Nat.le_trans sz (hF x hx)⟩
  have FIN : Hid (∀ (w1 : World) (pb : Nat), Hid (Keep w w1 ∧ ∃ F, pa w1 F pb (rnew 3 lims lock) ∧ ∀ x, F x → w.heap.size ≤ x) → ∃ F, Keep w (w1.alloc (.cells #[.pointer (some ⟨pb, 0, none⟩), I 3, .slice a lims.length cap, I lock, .slice none 0 0, I 0, .bool false, .bool false, .bool false] 38)) ∧ KAt pa B (w1.alloc (.cells #[.pointer (some ⟨pb, 0, none⟩), I 3, .slice a lims.length cap, I lock, .slice none 0 0, I 0, .bool false, .bool false, .bool false] 38)) w1.heap.size pb F (rnew 3 lims lock) (.slice a lims.length cap) (.slice none 0 0)) := by
    intro w1 pb hh
    obtain ⟨k1, F, hp, hF⟩ := hh.out
    have ka : Keep w1 (w1.alloc (.cells #[.pointer (some ⟨pb, 0, none⟩), I 3, .slice a lims.length cap, I lock, .slice none 0 0, I 0, .bool false, .bool false, .bool false] 38)) := (Frm.refl _ _).alloc _
    have pl := P.lt hp
    have sz := k1.size
    refine ⟨F, k1.trans ka, ⟨Blk.new _ _ _, row_frm (row_frm hc.row k1 (fun _ _ e => e)) ka (fun _ _ e => e), World.ownsRow_nil ..⟩, P.frm hp ka fun _ _ e => e, ?_, ?_, ?_, hB _ (by omega), ?_, ?_⟩
    · intro e; have := pl _ e; omega
    · intro x _ e; simp [Value.ownBlock] at e
    · intro x hx e
      have := hF x hx
      have := (hc.row.lt x e).2
      omega
    · intro x hx; exact hB x (hF x hx)
    · intro x hx; simp [Value.ownBlock] at hx
  clear hc hs hn hf
  go_enter Tryz.func23, Tryz.ntmps23
  go_wp2_with fail
  refine (NEW.out).mono ?_
  rintro e w1 ⟨pb, rfl, c0, c1, c2, hh⟩
  go_wp2_with fail
  go_ret
  obtain ⟨F, h1, h2⟩ := FIN.out w1 pb hh
  exact ⟨_, pb, F, rfl, h1, h2⟩

end

end Go.Proofs.YtpilmkipbbengaaGreatDoor

/- dripkeep: run. -/
namespace Go.Proofs.YtpilmkipbbengaaGreatDoor
open Go.RowKit

/-- a list of steps that can be read, in blocks below B -/
def SeeS (B : Nat → Prop) (w : World) (a : Option Addr) (ss : List StepR) : Prop :=
  ss = [] ∨ ∃ g o, a = some ⟨g, o, none⟩ ∧ ¬ B g ∧ ∀ i s, ss[i]? = some s → w.cell? ⟨g, o + i * 5, none⟩ = some (I s.kind) ∧ w.cell? ⟨g, o + i * 5 + 1, none⟩ = some (I s.a) ∧ w.cell? ⟨g, o + i * 5 + 2, none⟩ = some (I s.b) ∧ w.cell? ⟨g, o + i * 5 + 3, none⟩ = some (I s.c) ∧ w.cell? ⟨g, o + i * 5 + 4, none⟩ = some (I s.d)

theorem SeeS.frm {B : Nat → Prop} {w w' : World} {a : Option Addr} {ss : List StepR} (h : SeeS B w a ss) (f : Frm B w w') : SeeS B w' a ss := by
  rcases h with h | ⟨g, o, rfl, hg, hc⟩
  · exact Or.inl h
  · refine Or.inr ⟨g, o, rfl, hg, fun i s hs => ?_⟩
    obtain ⟨c0, c1, c2, c3, c4⟩ := hc i s hs
    have hn : ¬ B g := hg
    exact ⟨f.cell c0 hn, f.cell c1 hn, f.cell c2 hn, f.cell c3 hn, f.cell c4 hn⟩

section
variable {fRoom fWait fRest : FuncId} {pa : Rep}

set_option maxRecDepth 100000 in
set_option maxHeartbeats 1600000 in
theorem krun_any (P : Pumpy 25 32 46 fRoom fWait pa) (O : Orderly 34 35 fRest 21 15 pa) (B : Nat → Prop) (v : Value) (lims : List Lim) (lock : Int) (a : Option Addr) (ss : List StepR) (cp : Nat) (w : World) (hc : CfgAt w v lims lock) (hB : ∀ x, w.heap.size ≤ x → B x) (hs : SeeS B w a ss) (hso : ∀ s ∈ ss, s.Ok) :
    Calls Tryz.prog 11 #[.agg #[I 3, v, I lock], .slice a ss.length cp] w fun e w' => ∃ rb R, e = .returned (.pointer (some ⟨rb, 0, none⟩)) ∧ KOk R ∧ R.lims = lims ∧ R.lock = lock ∧ KGo pa B w w' rb R := by
  obtain ⟨al, cap, hve, -, -⟩ := hc.see
  have FR : Hid (Calls Tryz.prog 23 #[.agg #[I 3, v, I lock]] (w.alloc (.cells #[I 3, v, I lock] 30)) fun e w1 => ∃ rb, e = .returned (.pointer (some ⟨rb, 0, none⟩)) ∧ Hid (KGo pa B w w1 rb (rnew 3 lims lock))) := by
    have kW : Keep w (w.alloc (.cells #[I 3, v, I lock] 30)) := (Frm.refl _ _).alloc _
    refine (kfresh_any P B v lims lock _ (hc.keep kW) (fun x hx => hB x (Nat.le_trans kW.size hx))).mono ?_
    rintro e w1 ⟨rb, pb, F, rfl, k1, hk⟩
    exact ⟨rb, rfl, (kW.trans k1).mono fun _ _ e => e.elim, pb, F, v, .slice none 0 0, hk⟩
  have H := hide (And.intro hs (And.intro hso (new_kok hc.fine)))
  subst hve
  clear hc hs hso
  go_enter Tryz.func11, Tryz.ntmps11
  go_wp2_with fail
  refine (FR.out).mono ?_
  rintro e w1 ⟨rb, rfl, G0⟩
  go_wp2_with fail
  go_loopg [6, 7] (min ss.length 30) (fun q i _ wr => ∃ j : Nat, q + j = min ss.length 30 ∧ i = I j ∧ Hid (∃ R, KOk R ∧ R.lims = lims ∧ R.lock = lock ∧ KGo pa B w wr rb R))
  case atStart => exact ⟨0, by omega, rfl, _, (H.out).2.2, rfl, rfl, G0.out⟩
  case round =>
    obtain ⟨j, hq, rfl, hst⟩ := hrel
    obtain ⟨R, ok, l1, l2, hg⟩ := hst.out
    by_cases hj : j < min ss.length 30
    · obtain ⟨s, hsj⟩ : ∃ s, ss[j]? = some s := ⟨_, List.getElem?_eq_getElem (by omega)⟩
      have hsee := (H.out).1.frm hg.1
      rcases hsee with e | ⟨g, o, rfl, hgB, hcells⟩
      · rw [e] at hsj; simp at hsj
      obtain ⟨d0, d1, d2, d3, d4⟩ := hcells j s hsj
      have so := (H.out).2.1 s (List.mem_of_getElem? hsj)
      obtain ⟨gf, pb, F, vl, vd, hk⟩ := hg
      have hB1 : ∀ x, wr.heap.size ≤ x → B x := fun x hx => hB x (Nat.le_trans gf.size hx)
      have ST : Hid (Calls Tryz.prog 16 #[.pointer (some ⟨rb, 0, none⟩), .agg #[I s.kind, I s.a, I s.b, I s.c, I s.d]] wr fun e w2 => e = .returned (.bool true) ∧ ∃ k' : Nat, k' < gk ∧ ∃ j' : Nat, k' + j' = min ss.length 30 ∧ I ((j : Int) + 1) = I j' ∧ Hid (∃ R, KOk R ∧ R.lims = lims ∧ R.lock = lock ∧ KGo pa B w w2 rb R)) := by
        refine (kstep_any P.w O B rb pb F R vl vd s wr hk ok hB1 so).mono ?_
        rintro e w2 ⟨rfl, R', ok', e1, e2, g'⟩
        exact ⟨rfl, gk - 1, by omega, j + 1, by omega, by simp, R', ok', e1.trans l1, e2.trans l2, KGo.trans gf g'⟩
      have hj1 : (j : Int) < ss.length := by omega
      have hj2 : (j : Int) < 30 := by omega
      clear hst ok l1 l2 gf hk hcells so hsj hq hj
      go_wp2_with fail
      refine (ST.out).mono ?_
      rintro e w2 ⟨rfl, k', m1, m2⟩
      have M1 := hide m1
      have M2 := hide m2
      clear m1 m2
      go_wp2_with fail
      go_roundg k'
      case measure => exact M1.out
      case rel => exact M2.out
    · have HK := hide (And.intro ok (And.intro l1 (And.intro l2 hg)))
      clear hst ok l1 l2 hg hq
      by_cases h1 : j < ss.length
      · have h2 : decide ((j : Int) < 30) = false := decide_eq_false (by omega)
        have h1' : (j : Int) < ss.length := by omega
        clear h1 hj
        go_wp2_with fail
        go_ret
        exact ⟨rb, R, rfl, HK.out⟩
      · have h1' : decide (j < ss.length) = false := decide_eq_false h1
        clear hj
        go_wp2_with fail
        go_ret
        exact ⟨rb, R, rfl, HK.out⟩

end

end Go.Proofs.YtpilmkipbbengaaGreatDoor
