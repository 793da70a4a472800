/- dripkeep: step: demands, rests; step whole. -/
import Derived.Test.YtpilmkipbbengaaK6
namespace Go.Proofs.Ytpilmkipbbengaa
open Go.RowKit

section
variable {fNew fBasal fRun fRoom fWait fRest : FuncId} {pa : Rep}

set_option maxRecDepth 100000 in
set_option maxHeartbeats 3200000 in
theorem kstep_demand (P : Pumpy fNew fBasal fRun fRoom fWait pa) (O : Orderly 20 22 fRest 25 43 pa) (B : Nat → Prop) (rb pb : Nat) (F : Nat → Prop) (R : RSt) (vl vd : Value) (s : StepR) (w : World) (h : KAt pa B w rb pb F R vl vd) (ok : KOk R) (hB : ∀ x, w.heap.size ≤ x → B x) (so : s.Ok) (hk : pk s.kind 8 = 6) :
    Calls Try.prog 26 #[.pointer (some ⟨rb, 0, none⟩), s.v] w fun e w' => e = .returned (.bool true) ∧ KDid pa B w w' rb R := by
  obtain ⟨kd, kd0, kd1, kd2, PD⟩ := kpick_some s.kind 8 (by omega) (by omega) so.k
  obtain ⟨ca, -, ha0, ha1, PA⟩ := kpick_some s.a 3 (by omega) (by omega) so.a
  obtain ⟨cb, -, hb0, hb1, PB⟩ := kpick_some s.b 30 (by omega) (by omega) so.b
  have hd := h.rd.head
  have x0 : w.cell? ⟨rb, 0, none⟩ = some (.pointer (some ⟨pb, 0, none⟩)) := by rw [hd.cell]; rfl
  have lr := hd.lt
  have hg : demandBad R ca (1 + cb) = false := by
    have hi : isCh R ca = true := by
      have := ok.nch
      simp [isCh]; omega
    simp [demandBad, hi]; omega
  have ORD : Hid (∀ m : Nat, Calls Try.prog 22 #[.pointer (some ⟨pb, 0, none⟩), I ca, I (1 + cb)] ((w.alloc (.cells #[I s.kind, I s.a, I s.b, I s.c, I s.d] 57)).drewN m) fun e w' => ∃ (N E : Int), e = .returned (.tuple #[I N, I E]) ∧ w'.cell? ⟨rb, 0, none⟩ = some (.pointer (some ⟨pb, 0, none⟩)) ∧ w'.cell? ⟨w.heap.size, 2, none⟩ = some (I s.b) ∧ Hid (((E = 0 ∧ 0 < N) ∨ (E = 2 ∧ N = 0) ∨ (E = 4 ∧ N = 0)) ∧ KDid pa B w w' rb R)) := by
    intro m
    have kW : Keep w ((w.alloc (.cells #[I s.kind, I s.a, I s.b, I s.c, I s.d] 57)).drewN m) := ((Frm.refl _ _).alloc _).drewN m
    refine (O.demand _ _ _ F pb R (P.frm h.pump kW fun _ _ e => e) ok.ok ok.full).mono ?_
    rintro e w' ⟨rfl, mv⟩
    obtain ⟨st, sr⟩ := demandR_still R ca (1 + cb)
    have bx : Blk w' w.heap.size #[I s.kind, I s.a, I s.b, I s.c, I s.d] 57 := ((Blk.new w _ _).drewN m).frm mv.1 fun e => by have := P.lt h.pump _ e; omega
    have bk : KRd w' rb (kv pb vl vd R) := (h.rd.keep kW).frm mv.1 h.fr (fun x hx e => h.fd x e hx) (fun x hx e => h.fl x e hx)
    refine ⟨_, _, rfl, by rw [bk.head.cell]; rfl, by rw [bx.cell]; rfl, ?_, (h.still hB kW mv st sr).did (st.kok ok (demandR_ok ok.ok ok.full _ _)) st.lims st.lock⟩
    unfold demandN
    by_cases q0 : lockedB R ca.toNat = true
    · have e : demandErr R ca (1 + cb) = 4 := by simp [demandErr, hg, q0]
      rw [e]; exact Or.inr (Or.inr ⟨rfl, rfl⟩)
    · by_cases q : 8 ≤ nov R.now R.os
      · have e : demandErr R ca (1 + cb) = 2 := by simp [demandErr, hg, q, q0]
        rw [e]; exact Or.inr (Or.inl ⟨rfl, rfl⟩)
      · have e : demandErr R ca (1 + cb) = 0 := by simp [demandErr, hg, q, q0]
        rw [e]; exact Or.inl ⟨rfl, by rw [if_pos rfl]; omega⟩
  have hkd : decide (kd < 2) = false := decide_eq_false (by omega)
  have hke : decide (kd < 5) = false := decide_eq_false (by omega)
  have hkf : (kd == 5) = false := by rw [beq_eq_false_iff_ne]; omega
  have hkg : (kd == 6) = true := by rw [beq_iff_eq]; omega
  have w1b : IntKind.i64.wrap (1 + cb) = 1 + cb := wrap_id _ (by omega) (by omega)
  clear h ok hd hg hk kd0 so
  unfold StepR.v
  go_enter Try.func26, Try.ntmps26
  go_wp2_with fail
  refine (PA.out _).mono ?_
  rintro e w1 ⟨rfl, hw⟩
  subst hw
  go_wp2_with fail
  refine (PD.out _).mono ?_
  rintro e w1 ⟨rfl, hw⟩
  subst hw
  go_wp2_with fail
  go_region_held3 (fun w' => w'.cell? ⟨rb, 0, none⟩ = some (.pointer (some ⟨pb, 0, none⟩)) ∧ w'.cell? ⟨w.heap.size, 2, none⟩ = some (I s.b)) (((try dsimp only); (repeat' apply And.intro) <;> (go_keep; done))) (first | (go_at_call 22; (try rw [w1b]); refine (ORD.out _).mono ?_; rintro e w2 ⟨N, E, rfl, y1, y2, D⟩) | (go_at_call_of 15 (s.b); refine (PB.out _).mono ?_; rintro e w1 ⟨rfl, hw⟩; have hw8 := hw.symm; subst hw8))
  all_goals (obtain ⟨⟨rfl, d2⟩ | ⟨rfl, rfl⟩ | ⟨rfl, rfl⟩, D2⟩ := D.out)
  all_goals (have D3 := hide D2)
  all_goals clear D D2
  all_goals go_wp2_with fail
  all_goals go_ret
  all_goals exact ⟨rfl, D3.out⟩

/-- the mark of a channel that rests is turned -/
theorem KAt.flip {pa : Rep} {B : Nat → Prop} {w W w2 : World} {rb pb k : Nat} {F : Nat → Prop} {R : RSt} {vl vd : Value} {yes : Bool} (h : KAt pa B w rb pb F R vl vd) (ok : KOk R) (frmP : ∀ {S : Nat → Prop} {w w' : World} {F : Nat → Prop} {b : Nat} {R : RSt}, pa w F b R → Frm S w w' → (∀ x, F x → ¬ S x) → pa w' F b R)
    (hB : ∀ x, w.heap.size ≤ x → B x) (kW : Keep w W) (hk : k < 3) (hr : rst R k = !yes) (mv : Moved pa W F pb (restsR R k yes) w2) (m : Nat) : KDid pa B w ((w2.setCell ⟨rb, 6 + k, none⟩ (.bool yes)).drewN m) rb R := by
  obtain ⟨-, st, sr⟩ := restsR_flip (show k < R.chs.length by rw [ok.nch]; exact hk) hr
  obtain ⟨F', h1, h2, h3, h4, h5, h6, h7⟩ := h.called hB kW mv
  have f : Frm (fun x => x = rb) w2 ((w2.setCell ⟨rb, 6 + k, none⟩ (.bool yes)).drewN m) := ((Frm.refl (fun x => x = rb) w2).setCell (p := ⟨rb, 6 + k, none⟩) rfl _).drewN m
  have ro := restsR_ok ok.ok ok.full k yes
  refine ⟨restsR R k yes, st.kok ok ro, st.lims, st.lock, ?_⟩
  refine ⟨h3.trans2 f fun x _ e => by subst e; exact h.lb, pb, F', vl, vd, ⟨?_, ?_, ?_⟩, frmP h2 f fun x hx e => h4 (e ▸ hx), h4, h5, h6, h.lb, h7, h.ld⟩
  · have hh := (h1.head.set (6 + k) (.bool yes)).drewN m
    have e : (kv pb vl vd R).cells.setIfInBounds (6 + k) (.bool yes) = (kv pb vl vd (restsR R k yes)).cells := by
      have : k = 0 ∨ k = 1 ∨ k = 2 := by omega
      unfold kv KV.cells
      simp only [st.lock, st.now]
      rw [sr 0, sr 1, sr 2]
      rcases this with rfl | rfl | rfl <;> simp
    rw [e] at hh
    exact hh
  · show World.ownsRow _ 0 63 3 vl (restsR R k yes).lims.length ((restsR R k yes).lims.flatMap limC)
    rw [st.lims]
    exact row_frm h1.lims f fun x hx e => h1.sl (by rw [← e]; exact hx)
  · show World.ownsRow _ 0 52 3 vd (restsR R k yes).doses.length ((restsR R k yes).doses.flatMap dsC)
    rw [st.doses]
    exact row_frm h1.row f fun x hx e => h1.sd (by rw [← e]; exact hx)

set_option maxRecDepth 100000 in
set_option maxHeartbeats 3200000 in
theorem kstep_flip (P : Pumpy fNew fBasal fRun fRoom fWait pa) (O : Orderly 20 22 fRest 25 43 pa) (B : Nat → Prop) (rb pb : Nat) (F : Nat → Prop) (R : RSt) (vl vd : Value) (s : StepR) (w : World) (h : KAt pa B w rb pb F R vl vd) (ok : KOk R) (hB : ∀ x, w.heap.size ≤ x → B x) (so : s.Ok) (hk : pk s.kind 8 = 7) :
    Calls Try.prog 26 #[.pointer (some ⟨rb, 0, none⟩), s.v] w fun e w' => e = .returned (.bool true) ∧ KDid pa B w w' rb R := by
  obtain ⟨kd, kd0, kd1, kd2, PD⟩ := kpick_some s.kind 8 (by omega) (by omega) so.k
  obtain ⟨ca, -, ha0, ha1, PA⟩ := kpick_some s.a 3 (by omega) (by omega) so.a
  obtain ⟨k, rfl⟩ := Int.eq_ofNat_of_zero_le ha0
  have hd := h.rd.head
  have x0 : w.cell? ⟨rb, 0, none⟩ = some (.pointer (some ⟨pb, 0, none⟩)) := by rw [hd.cell]; rfl
  have hk3 : k < 3 := by omega
  have cell6 : ∀ {w' : World}, KRd w' rb (kv pb vl vd R) → w'.cell? ⟨rb, 6 + k, none⟩ = some (.bool (rst R k)) := by
    intro w' hh
    rw [hh.head.cell]
    have : k = 0 ∨ k = 1 ∨ k = 2 := by omega
    rcases this with rfl | rfl | rfl <;> rfl
  have x6 := cell6 h.rd
  have lr := hd.lt
  have kW : Keep w (w.alloc (.cells #[I s.kind, I s.a, I s.b, I s.c, I s.d] 57)) := (Frm.refl _ _).alloc _
  have CALL : ∀ yes : Bool, rst R k = !yes → ∀ f : FuncId, (f = 25 ∧ yes = true) ∨ (f = 43 ∧ yes = false) → Calls Try.prog f #[.pointer (some ⟨pb, 0, none⟩), I k] (w.alloc (.cells #[I s.kind, I s.a, I s.b, I s.c, I s.d] 57)) fun e w' => e = .returned (I 0) ∧ w'.cell? ⟨rb, 6 + k, none⟩ = some (.bool (!yes)) ∧ w'.frozen? ⟨rb, 6 + k, none⟩ = false ∧ rb < w'.heap.size ∧ Hid (∀ m, KDid pa B w ((w'.setCell ⟨rb, 6 + k, none⟩ (.bool yes)).drewN m) rb R) := by
    intro yes hr f hf
    have hfl := restsR_flip (show k < R.chs.length by rw [ok.nch]; exact hk3) hr
    have fin : ∀ (e : Ending) (w' : World), e = .returned (I (restsErr R k yes)) ∧ Moved pa (w.alloc (.cells #[I s.kind, I s.a, I s.b, I s.c, I s.d] 57)) F pb (restsR R k yes) w' → e = .returned (I 0) ∧ w'.cell? ⟨rb, 6 + k, none⟩ = some (.bool (!yes)) ∧ w'.frozen? ⟨rb, 6 + k, none⟩ = false ∧ rb < w'.heap.size ∧ Hid (∀ m, KDid pa B w ((w'.setCell ⟨rb, 6 + k, none⟩ (.bool yes)).drewN m) rb R) := by
      rintro e w' ⟨rfl, mv⟩
      have bk : KRd w' rb (kv pb vl vd R) := (h.rd.keep kW).frm mv.1 h.fr (fun x hx e => h.fd x e hx) (fun x hx e => h.fl x e hx)
      exact ⟨by rw [hfl.1], by rw [cell6 bk, hr], bk.head.frozen _, bk.head.lt, fun m => h.flip ok P.frm hB kW hk3 hr mv m⟩
    have pp := P.frm h.pump kW fun _ _ e => e
    rcases hf with ⟨rfl, rfl⟩ | ⟨rfl, rfl⟩
    · exact (O.pause k _ F pb R pp ok.ok ok.full).mono fin
    · exact (O.resume k _ F pb R pp ok.ok ok.full).mono fin
  have CL := hide CALL
  have hkd : decide (kd < 2) = false := decide_eq_false (by omega)
  have hke : decide (kd < 5) = false := decide_eq_false (by omega)
  have hkf : (kd == 5) = false := by rw [beq_eq_false_iff_ne]; omega
  have hkg : (kd == 6) = false := by rw [beq_eq_false_iff_ne]; omega
  clear h ok hd hk kd0 so CALL cell6
  cases hr : rst R k with
  | false =>
    have C1 := hide (CL.out true (by rw [hr]; rfl) 25 (Or.inl ⟨rfl, rfl⟩))
    rw [hr] at x6
    clear hr CL
    unfold StepR.v
    go_enter Try.func26, Try.ntmps26
    go_wp2_with fail
    refine (PA.out _).mono ?_
    rintro e w1 ⟨rfl, hw⟩
    subst hw
    go_wp2_with fail
    refine (PD.out _).mono ?_
    rintro e w1 ⟨rfl, hw⟩
    subst hw
    go_wp2_with fail
    refine (C1.out).mono ?_
    rintro e w2 ⟨rfl, z1, z2, z3, D⟩
    go_wp2_with fail
    go_region
    all_goals go_wp2_with fail
    all_goals go_ret
    all_goals exact ⟨rfl, D.out 1⟩
  | true =>
    have C1 := hide (CL.out false (by rw [hr]; rfl) 43 (Or.inr ⟨rfl, rfl⟩))
    rw [hr] at x6
    clear hr CL
    unfold StepR.v
    go_enter Try.func26, Try.ntmps26
    go_wp2_with fail
    refine (PA.out _).mono ?_
    rintro e w1 ⟨rfl, hw⟩
    subst hw
    go_wp2_with fail
    refine (PD.out _).mono ?_
    rintro e w1 ⟨rfl, hw⟩
    subst hw
    go_wp2_with fail
    refine (C1.out).mono ?_
    rintro e w2 ⟨rfl, z1, z2, z3, D⟩
    go_wp2_with fail
    go_region
    all_goals go_wp2_with fail
    all_goals go_ret
    all_goals exact ⟨rfl, D.out 1⟩

end

theorem kstep_any {fNew fRoom fWait fRest : FuncId} {pa : Rep} (P : Pumpy fNew 18 19 fRoom fWait pa) (O : Orderly 20 22 fRest 25 43 pa) (B : Nat → Prop) (rb pb : Nat) (F : Nat → Prop) (R : RSt) (vl vd : Value) (s : StepR) (w : World) (h : KAt pa B w rb pb F R vl vd) (ok : KOk R) (hB : ∀ x, w.heap.size ≤ x → B x) (so : s.Ok) :
    Calls Try.prog 26 #[.pointer (some ⟨rb, 0, none⟩), s.v] w fun e w' => e = .returned (.bool true) ∧ KDid pa B w w' rb R := by
  have h0 := pk_lo s.kind (n := 8) (by omega)
  have h1 := pk_hi s.kind (n := 8) (by omega)
  by_cases q1 : pk s.kind 8 < 2
  · exact kstep_basal P B rb pb F R vl vd s w h ok hB so q1
  · by_cases q2 : pk s.kind 8 < 5
    · exact kstep_ticks P B rb pb F R vl vd s w h ok hB so (by omega) q2
    · by_cases q3 : pk s.kind 8 = 5
      · exact kstep_order P O B rb pb F R vl vd s w h ok hB so q3
      · by_cases q4 : pk s.kind 8 = 6
        · exact kstep_demand P O B rb pb F R vl vd s w h ok hB so q4
        · exact kstep_flip P O B rb pb F R vl vd s w h ok hB so (by omega)

end Go.Proofs.Ytpilmkipbbengaa
