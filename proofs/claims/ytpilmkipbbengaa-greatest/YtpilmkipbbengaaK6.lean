/- dripkeep: step: orders, demands, rests. -/
import Derived.Test.YtpilmkipbbengaaK5
namespace Go.Proofs.Ytpilmkipbbengaa
open Go.RowKit

/-- what pick answers, as a number of which nothing else is known -/
theorem kpick_some (c n : Int) (h0 : 0 < n) (h1 : n ≤ 1000000000) (hc : In64 c) : ∃ k : Int, k = pk c n ∧ 0 ≤ k ∧ k < n ∧ Hid (∀ W : World, Calls Try.prog 15 #[I c, I n] W fun r w' => r = .returned (I k) ∧ w' = W) :=
  ⟨_, rfl, pk_lo c h0, pk_hi c h0, fun W => kpick_any c n W h0 h1 hc⟩

section
variable {fNew fBasal fRun fRoom fWait fRest : FuncId} {pa : Rep}

set_option maxRecDepth 100000 in
set_option maxHeartbeats 3200000 in
theorem kstep_order (P : Pumpy fNew fBasal fRun fRoom fWait pa) (O : Orderly 20 22 fRest 25 43 pa) (B : Nat → Prop) (rb pb : Nat) (F : Nat → Prop) (R : RSt) (vl vd : Value) (s : StepR) (w : World) (h : KAt pa B w rb pb F R vl vd) (ok : KOk R) (hB : ∀ x, w.heap.size ≤ x → B x) (so : s.Ok) (hk : pk s.kind 8 = 5) :
    Calls Try.prog 26 #[.pointer (some ⟨rb, 0, none⟩), s.v] w fun e w' => e = .returned (.bool true) ∧ KDid pa B w w' rb R := by
  obtain ⟨kd, kd0, kd1, kd2, PD⟩ := kpick_some s.kind 8 (by omega) (by omega) so.k
  obtain ⟨ca, -, ha0, ha1, PA⟩ := kpick_some s.a 3 (by omega) (by omega) so.a
  obtain ⟨cb, -, hb0, hb1, PB⟩ := kpick_some s.b 60 (by omega) (by omega) so.b
  obtain ⟨cc, -, hc0, hc1, PC⟩ := kpick_some s.c 15 (by omega) (by omega) so.c
  obtain ⟨cd, -, hd0, hd1, PE⟩ := kpick_some s.d 15 (by omega) (by omega) so.d
  have hd := h.rd.head
  have x0 : w.cell? ⟨rb, 0, none⟩ = some (.pointer (some ⟨pb, 0, none⟩)) := by rw [hd.cell]; rfl
  have lr := hd.lt
  have hg : orderBad R ca (1 + cb) cc (1 + cd) = false := by
    have hi : isCh R ca = true := by
      have := ok.nch
      simp [isCh]; omega
    simp [orderBad, hi]; omega
  have ORD : Hid (∀ m : Nat, Calls Try.prog 20 #[.pointer (some ⟨pb, 0, none⟩), I ca, I (1 + cb), I cc, I (1 + cd)] ((w.alloc (.cells #[I s.kind, I s.a, I s.b, I s.c, I s.d] 57)).drewN m) fun e w' => ∃ (N E : Int), e = .returned (.tuple #[I N, I E]) ∧ w'.cell? ⟨rb, 0, none⟩ = some (.pointer (some ⟨pb, 0, none⟩)) ∧ w'.cell? ⟨w.heap.size, 2, none⟩ = some (I s.b) ∧ w'.cell? ⟨w.heap.size, 3, none⟩ = some (I s.c) ∧ w'.cell? ⟨w.heap.size, 4, none⟩ = some (I s.d) ∧ Hid (((E = 0 ∧ 0 < N) ∨ (E = 2 ∧ N = 0)) ∧ KDid pa B w w' rb R)) := by
    intro m
    have kW : Keep w ((w.alloc (.cells #[I s.kind, I s.a, I s.b, I s.c, I s.d] 57)).drewN m) := ((Frm.refl _ _).alloc _).drewN m
    refine (O.order _ _ _ _ _ F pb R (P.frm h.pump kW fun _ _ e => e) ok.ok ok.full).mono ?_
    rintro e w' ⟨rfl, mv⟩
    obtain ⟨st, sr⟩ := orderR_still R ca (1 + cb) cc (1 + cd)
    have bx : Blk w' w.heap.size #[I s.kind, I s.a, I s.b, I s.c, I s.d] 57 := ((Blk.new w _ _).drewN m).frm mv.1 fun e => by have := P.lt h.pump _ e; omega
    have bk : KRd w' rb (kv pb vl vd R) := (h.rd.keep kW).frm mv.1 h.fr (fun x hx e => h.fd x e hx) (fun x hx e => h.fl x e hx)
    refine ⟨_, _, rfl, by rw [bk.head.cell]; rfl, by rw [bx.cell]; rfl, by rw [bx.cell]; rfl, by rw [bx.cell]; rfl, ?_, (h.still hB kW mv st sr).did (st.kok ok (orderR_ok ok.ok ok.full _ _ _ _)) st.lims st.lock⟩
    unfold orderN
    by_cases q : 8 ≤ nov R.now R.os
    · have e : orderErr R ca (1 + cb) cc (1 + cd) = 2 := by simp [orderErr, hg, q]
      rw [e]; exact Or.inr ⟨rfl, rfl⟩
    · have e : orderErr R ca (1 + cb) cc (1 + cd) = 0 := by simp [orderErr, hg, q]
      rw [e]; exact Or.inl ⟨rfl, by rw [if_pos rfl]; omega⟩
  have hkd : decide (kd < 2) = false := decide_eq_false (by omega)
  have hke : decide (kd < 5) = false := decide_eq_false (by omega)
  have hkf : (kd == 5) = true := by rw [beq_iff_eq]; omega
  have w1b : IntKind.i64.wrap (1 + cb) = 1 + cb := wrap_id _ (by omega) (by omega)
  have w1d : IntKind.i64.wrap (1 + cd) = 1 + cd := wrap_id _ (by omega) (by omega)
  clear h ok hd hg hk kd0 so
  unfold StepR.v
  go_enter Try.func26, Try.ntmps26
  go_wp2_with fail
  refine (PA.out _).mono ?_
  rintro e w1 ⟨rfl, hw⟩
  subst hw
  go_wp2_with fail
  refine (PD.out _).mono ?_
  rintro e w1 ⟨rfl, hw⟩
  subst hw
  go_wp2_with fail
  go_region_held3 (fun w' => w'.cell? ⟨rb, 0, none⟩ = some (.pointer (some ⟨pb, 0, none⟩)) ∧ w'.cell? ⟨w.heap.size, 2, none⟩ = some (I s.b) ∧ w'.cell? ⟨w.heap.size, 3, none⟩ = some (I s.c) ∧ w'.cell? ⟨w.heap.size, 4, none⟩ = some (I s.d)) (((try dsimp only); (repeat' apply And.intro) <;> (go_keep; done))) (first | (go_at_call 20; (try rw [w1b]); (try rw [w1d]); refine (ORD.out _).mono ?_; rintro e w2 ⟨N, E, rfl, y1, y2, y3, y4, D⟩) | (go_at_call_of 15 (s.b); refine (PB.out _).mono ?_; rintro e w1 ⟨rfl, hw⟩; have hw8 := hw.symm; subst hw8) | (go_at_call_of 15 (s.c); refine (PC.out _).mono ?_; rintro e w1 ⟨rfl, hw⟩; have hw8 := hw.symm; subst hw8) | (go_at_call_of 15 (s.d); refine (PE.out _).mono ?_; rintro e w1 ⟨rfl, hw⟩; have hw8 := hw.symm; subst hw8))
  all_goals (obtain ⟨⟨rfl, d2⟩ | ⟨rfl, rfl⟩, D2⟩ := D.out)
  all_goals (have D3 := hide D2)
  all_goals clear D D2
  all_goals go_wp2_with fail
  all_goals go_ret
  all_goals exact ⟨rfl, D3.out⟩

end

end Go.Proofs.Ytpilmkipbbengaa
