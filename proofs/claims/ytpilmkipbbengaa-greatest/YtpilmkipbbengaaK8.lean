/- dripkeep: config. -/
import Derived.Test.YtpilmkipbbengaaK7
import Derived.Test.YtpilmkipbbengaaKcfg
import Derived.Test.YtpilmkipbbengaaXlaw
namespace Go.Proofs.Ytpilmkipbbengaa
open Go.RowKit

theorem row_ne {w : World} {e T : TypeId} {size n x : Nat} {v : Value} {xs : List Value} {c : Array Value} (h : w.ownsRow 0 e size v n xs) (hb : Blk w x c T) (hne : e ≠ T) : v.ownBlock ≠ some x := fun he => by
  rcases h.2 with ⟨e1, -⟩ | ⟨g, cap, cur, e1, -, h2, -⟩
  · rw [e1] at he; cases he
  · rw [e1] at he; injection he with he
    have h2' : w.heap[g]? = some (.cells cur e (0, 0)) := h2
    have he : g = x := he
    unfold Blk at hb
    rw [he, hb] at h2'
    injection h2' with h2'
    injection h2' with q1 q2
    exact hne q2.symm

structure CfSt (w wr : World) (lk : Int) (v : Value) (lims : List Lim) : Prop where
  keep : Keep w wr
  res : ∃ c, Blk wr w.heap.size c 29 ∧ c.size = 3
  blk : Blk wr (w.heap.size + 1) #[I 3, v, I lk] 29
  row : wr.ownsRow 0 63 3 v lims.length (lims.flatMap limC)
  new : ∀ x, v.ownBlock = some x → w.heap.size ≤ x

theorem CfSt.more {w wr W w3 : World} {lk : Int} {v v' : Value} {lims : List Lim} (h : CfSt w wr lk v lims) (kW : Keep wr W) {l : Lim} (hown : w3.ownsRow 0 63 3 v' (lims.length + 1) (lims.flatMap limC ++ [I l.ch, I l.win, I l.cap])) (hg : W.grownBy w3 v.ownBlock)
    (hnew : v'.ownBlock = v.ownBlock ∨ (v'.ownBlock = some W.heap.size ∧ W.grownBy w3 none)) : CfSt w (w3.setCell ⟨w.heap.size + 1, 1, none⟩ v') lk v' (lims ++ [l]) := by
  have f3 := grown_frm hg
  have rW := row_frm h.row kW (fun _ _ e => e)
  have bW := kW.blk h.blk
  have hty : ∀ {x : Nat} {c : Array Value}, Blk W x c 29 → v.ownBlock ≠ some x := by
    intro x c hb e
    rcases rW.2 with ⟨e1, -⟩ | ⟨g, cap, cur, e1, -, h2, -⟩
    · rw [e1] at e; cases e
    · rw [e1] at e; injection e with e
      have h2' : W.heap[g]? = some (.cells cur 63 (0, 0)) := h2
      have e : g = x := e
      unfold Blk at hb
      rw [e, hb] at h2'
      injection h2' with h2'
      injection h2' with q1 q2
      revert q2; decide
  have b3 := bW.frm f3 (hty bW)
  have f4 : Frm (fun x => x = w.heap.size + 1) w3 (w3.setCell ⟨w.heap.size + 1, 1, none⟩ v') := (Frm.refl (fun x => x = w.heap.size + 1) w3).setCell (p := ⟨w.heap.size + 1, 1, none⟩) rfl v'
  have s1 := h.keep.size
  have s2 := kW.size
  have vn : ∀ x, v'.ownBlock = some x → v.ownBlock = some x ∨ x = W.heap.size := by
    intro x hx
    rcases hnew with e | ⟨e, -⟩
    · exact Or.inl (by rw [← e]; exact hx)
    · rw [e] at hx; injection hx with hx; exact Or.inr hx.symm
  have lb := bW.lt
  refine ⟨?_, ?_, ?_, ?_, ?_⟩
  · exact ((h.keep.trans kW).trans2 f3 fun x hx e => by have := h.new x e; omega).setNew (p := ⟨w.heap.size + 1, 1, none⟩) (by show w.heap.size ≤ w.heap.size + 1; omega) _
  · obtain ⟨c, hc, hs⟩ := h.res
    have hcW := kW.blk hc
    exact ⟨c, (hcW.frm f3 (hty hcW)).frm f4 (by omega), hs⟩
  · have := b3.set 1 v'
    simpa using this
  · have e1 : (lims ++ [l]).length = lims.length + 1 := by simp
    have e2 : (lims ++ [l]).flatMap limC = lims.flatMap limC ++ [I l.ch, I l.win, I l.cap] := by simp [limC]
    rw [e1, e2]
    refine row_frm hown f4 fun x hx e => ?_
    subst e
    rcases vn _ hx with q | q
    · exact hty bW q
    · omega
  · intro x hx
    rcases vn x hx with q | q
    · exact h.new x q
    · omega

/-- a call of a Go function with two arguments, as one step of a region that draws -/
theorem step_call2 {P : Program} {ops : Array Oper} {o : Oper} {a : Act} {w : World} {K : Act → World → Prop} {Q : Exit → Act → World → Prop} {E : Prop} (hg : o.guard = none) (f : FuncId) (x y : Operand) (t u : TypeId)
    (hop : o.op = Op.call { callee := Callee.value (Operand.func f), args := #[x, y], argTypes := #[t, u] }) (v v2 : Value) (hx : a.eval x = v) (hy : a.eval y = v2) (hcf : ∀ args w, (callFunc f args).run P w = .ok (.enter f args) w) {C : Ending → World → Prop} (hc : Calls P f #[v, v2] w C)
    (hC : ∀ e w', C e w' → ∃ v', e = .returned v' ∧ K (a.put o.dst v') w') : if Region.wanted o (yielded ops a.tmps) = true then Oper.wp P o a w K Q else E := by
  have hw : Region.wanted o (yielded ops a.tmps) = true := by simp [Region.wanted, hg]
  rw [if_pos hw]
  unfold Oper.wp
  have hr : (execOp a.eval o).run P w = .ok (.enter f #[v, v2]) w := by
    have hf : a.eval (Operand.func f) = .func (.func f) #[] #[] := rfl
    simp [execOp, hop, resolve, invoke, hx, hy, hf, Deferred.ofValue, hcf]
  rw [hr, Oper.upon_enter]
  refine hc.mono fun e w'' hh => ?_
  obtain ⟨v', rfl, hk⟩ := hC e w'' hh
  exact hk

theorem call_kpick (args : Array Value) (w : World) : (callFunc 15 args).run Try.prog w = .ok (.enter 15 args) w := by
  kernel_rfl

set_option maxRecDepth 100000 in
set_option maxHeartbeats 3200000 in
theorem kconfig_any (a : Option Addr) (caps : List Lim) (cp : Nat) (lockout : Int) (w : World) (hs : SeeL w a caps) (hin : ∀ x ∈ caps, x.In) (hlo : In64 lockout) :
    Calls Try.prog 10 #[.slice a caps.length cp, I lockout] w fun e w' => ∃ v, e = .returned (.agg #[I 3, v, I (pk lockout 10)]) ∧ Keep w w' ∧ w'.ownsRow 0 63 3 v (limsOf caps).length ((limsOf caps).flatMap limC) ∧ ∀ x, v.ownBlock = some x → w.heap.size ≤ x := by
  obtain ⟨iL, hiL, hz0, hz1, hz2⟩ := info_parts infoL
  obtain ⟨lk, hlk, lk0, lk1, PL⟩ := kpick_some lockout 10 (by omega) (by omega) hlo
  rw [← hlk]
  clear hlk
  have H := hide (And.intro hs hin)
  clear hs hin
  go_enter Try.func10, Try.ntmps10
  go_wp2_with fail
  refine (PL.out _).mono ?_
  rintro e w1 ⟨rfl, hw⟩
  subst hw
  go_wp2_with fail
  have st0 : CfSt w ((w.alloc (.cells #[I 0, .slice none 0 0, I 0] 29)).alloc (.cells #[I 3, .slice none 0 0, I lk] 29)) lk (.slice none 0 0) [] := by
    refine ⟨((Frm.refl _ _).alloc _).alloc _, ⟨_, (Blk.new _ _ _).alloc _, rfl⟩, ?_, World.ownsRow_nil .., by simp [Value.ownBlock]⟩
    have := Blk.new (w.alloc (.cells #[I 0, .slice none 0 0, I 0] 29)) #[I 3, .slice none 0 0, I lk] 29
    simpa using this
  have ST0 := hide st0
  clear st0
  go_loopg [6, 7] (min caps.length 4) (fun q i _ wr => ∃ (j : Nat) (v : Value), q + j = min caps.length 4 ∧ i = I j ∧ Hid (CfSt w wr lk v ((caps.take j).map foldL)))
  case atStart => exact ⟨0, _, by omega, rfl, ST0.out⟩
  case round =>
    obtain ⟨j, v, hq, rfl, hst⟩ := hrel
    have hc := hst.out
    by_cases hj : j < min caps.length 4
    · obtain ⟨x, hx⟩ : ∃ x, caps[j]? = some x := ⟨_, List.getElem?_eq_getElem (by omega)⟩
      have hsee := (H.out).1.frm hc.keep (fun _ _ _ e => e)
      rcases hsee with e | ⟨g, o, rfl, hg, hcells⟩
      · rw [e] at hx; simp at hx
      obtain ⟨d0, d1, d2⟩ := hcells j x hx
      obtain ⟨i1, i2, i3⟩ := (H.out).2 x (List.mem_of_getElem? hx)
      obtain ⟨c1, e1, b1, t1, P1⟩ := kpick_some x.ch 7 (by omega) (by omega) i1
      obtain ⟨c2, e2, b2, t2, P2⟩ := kpick_some x.win 12 (by omega) (by omega) i2
      obtain ⟨c3, e3, b3, t3, P3⟩ := kpick_some x.cap 41 (by omega) (by omega) i3
      have hfold : foldL x = ⟨1 + c1, 1 + c2, c3⟩ := by simp [foldL, e1, e2, e3]
      obtain ⟨av, cv, hvv⟩ := row_slice hc.row
      have hll : ((caps.take j).map foldL).length = j := by simp; omega
      rw [hll] at hvv
      subst hvv
      have x1 : wr.cell? ⟨w.heap.size + 1, 1, none⟩ = some (.slice av j cv) := by rw [hc.blk.cell]; rfl
      have lx := hc.blk.lt
      have w1b : IntKind.i64.wrap (1 + c1) = 1 + c1 := wrap_id _ (by omega) (by omega)
      have w1d : IntKind.i64.wrap (1 + c2) = 1 + c2 := wrap_id _ (by omega) (by omega)
      have hj1 : j < caps.length := by omega
      have hj2 : (j : Int) < 4 := by omega
      have ROW : Hid (∀ W : World, Keep wr W → W.ownsRow 0 63 3 (.slice av j cv) j (((caps.take j).map foldL).flatMap limC) ∧ Blk W (w.heap.size + 1) #[I 3, .slice av j cv, I lk] 29 ∧ (Value.slice av j cv).ownBlock ≠ some (w.heap.size + 1) ∧ (Value.slice av j cv).ownBlock ≠ some wr.heap.size) := by
        intro W kW
        have hnw : (Value.slice av j cv).ownBlock ≠ some wr.heap.size := fun e => by have := (hc.row.lt _ e).2; omega
        have hr := row_frm hc.row kW (fun _ _ e => e)
        rw [hll] at hr
        have hb := kW.blk hc.blk
        refine ⟨hr, hb, fun e => ?_, hnw⟩
        rcases hr.2 with ⟨e1, -⟩ | ⟨g, cap, cur, e1, -, h2, -⟩
        · rw [e1] at e; cases e
        · rw [e1] at e; injection e with e
          have h2' : W.heap[g]? = some (.cells cur 63 (0, 0)) := h2
          have e : g = w.heap.size + 1 := e
          unfold Blk at hb
          rw [e, hb] at h2'
          injection h2' with h2'
          injection h2' with q1 q2
          revert q2; decide
      have NX : Hid (∀ (W w3 : World) (v' : Value), Keep wr W → w3.ownsRow 0 63 3 v' (j + 1) (((caps.take j).map foldL).flatMap limC ++ [I (1 + c1), I (1 + c2), I c3]) → W.grownBy w3 (Value.slice av j cv).ownBlock → (v'.ownBlock = (Value.slice av j cv).ownBlock ∨ (v'.ownBlock = some W.heap.size ∧ W.grownBy w3 none)) → ∃ (j' : Nat) (v : Value), gk - 1 + j' = min caps.length 4 ∧ I ((j : Int) + 1) = I j' ∧ Hid (CfSt w (w3.setCell ⟨w.heap.size + 1, 1, none⟩ v') lk v ((caps.take j').map foldL))) := by
        intro W w3 v' kW hown hg' hnew
        refine ⟨j + 1, v', by omega, by simp, ?_⟩
        rw [take_snoc' hx, List.map_append]
        simp only [List.map_cons, List.map_nil, hfold]
        refine hc.more kW (l := ⟨1 + c1, 1 + c2, c3⟩) ?_ hg' hnew
        rw [hll]
        exact hown
      have hgk : gk - 1 < gk := by omega
      clear hst hc hcells hx hfold hq hll e1 e2 e3
      go_wp2_with fail
      have kx : Keep wr (wr.alloc (.cells #[I x.ch, I x.win, I x.cap] 66)) := (Frm.refl _ _).alloc _
      have bx : Blk (wr.alloc (.cells #[I x.ch, I x.win, I x.cap] 66)) wr.heap.size #[I x.ch, I x.win, I x.cap] 66 := Blk.new _ _ _
      have x1' := kx.cell (p := ⟨w.heap.size + 1, 1, none⟩) x1 id
      have lx' : w.heap.size + 1 < (wr.alloc (.cells #[I x.ch, I x.win, I x.cap] 66)).heap.size := Nat.lt_of_lt_of_le lx kx.size
      generalize wr.alloc (.cells #[I x.ch, I x.win, I x.cap] 66) = wx at *
      have z0 : wx.cell? ⟨wr.heap.size, 0, none⟩ = some (I x.ch) := by rw [bx.cell]; rfl
      have z1 : wx.cell? ⟨wr.heap.size, 1, none⟩ = some (I x.win) := by rw [bx.cell]; rfl
      have z2 : wx.cell? ⟨wr.heap.size, 2, none⟩ = some (I x.cap) := by rw [bx.cell]; rfl
      have lz := bx.lt
      have KX := hide kx
      have BX := hide bx
      have hne : wr.heap.size ≠ w.heap.size + 1 := by omega
      have hne' : w.heap.size + 1 ≠ wr.heap.size := by omega
      clear kx bx x1 d0 d1 d2 lx
      have HS : (fun wz : World => wz.cell? ⟨w.heap.size + 1, 1, none⟩ = some (.slice av j cv) ∧ wz.cell? ⟨wr.heap.size, 0, none⟩ = some (I x.ch) ∧ wz.cell? ⟨wr.heap.size, 1, none⟩ = some (I x.win) ∧ wz.cell? ⟨wr.heap.size, 2, none⟩ = some (I x.cap)) wx.drew := ⟨x1', z0, z1, z2⟩
      refine wp_region_x (fun wz : World => wz.cell? ⟨w.heap.size + 1, 1, none⟩ = some (.slice av j cv) ∧ wz.cell? ⟨wr.heap.size, 0, none⟩ = some (I x.ch) ∧ wz.cell? ⟨wr.heap.size, 1, none⟩ = some (I x.win) ∧ wz.cell? ⟨wr.heap.size, 2, none⟩ = some (I x.cap)) 17 (by kernel_rfl) ?_
      refine wpAnyX_take (i := 0) (v := .pointer (some ⟨w.heap.size + 1, 1, none⟩)) rfl (by kernel_rfl) (by kernel_rfl) (by kernel_rfl) (by kernel_rfl) (by kernel_rfl) (fun _ _ _ h => h) HS (Or.inl ⟨by rfl, by intro wz hz; obtain ⟨z0, z1, z2, z3⟩ := hz; go_simp⟩) ?_
      simp only [Act.put, List.setIfInBounds_toArray]
      refine wpAnyX_take (i := 1) (v := .slice av j cv) rfl (by kernel_rfl) (by kernel_rfl) (by kernel_rfl) (by kernel_rfl) (by kernel_rfl) (fun _ _ _ h => h) HS (Or.inl ⟨by rfl, by intro wz hz; obtain ⟨z0, z1, z2, z3⟩ := hz; go_simp⟩) ?_
      simp only [Act.put]
      refine wpAnyX_take (i := 2) (v := .pointer (some ⟨wr.heap.size, 0, none⟩)) rfl (by kernel_rfl) (by kernel_rfl) (by kernel_rfl) (by kernel_rfl) (by kernel_rfl) (fun _ _ _ h => h) HS (Or.inl ⟨by rfl, by intro wz hz; obtain ⟨z0, z1, z2, z3⟩ := hz; go_simp⟩) ?_
      simp only [Act.put]
      refine wpAnyX_take (i := 3) (v := I x.ch) rfl (by kernel_rfl) (by kernel_rfl) (by kernel_rfl) (by kernel_rfl) (by kernel_rfl) (fun _ _ _ h => h) HS (Or.inl ⟨by rfl, by intro wz hz; obtain ⟨z0, z1, z2, z3⟩ := hz; go_simp⟩) ?_
      simp only [Act.put]
      refine wpAnyX_take (i := 6) (v := .pointer (some ⟨wr.heap.size, 1, none⟩)) rfl (by kernel_rfl) (by kernel_rfl) (by kernel_rfl) (by kernel_rfl) (by kernel_rfl) (fun _ _ _ h => h) HS (Or.inl ⟨by rfl, by intro wz hz; obtain ⟨z0, z1, z2, z3⟩ := hz; go_simp⟩) ?_
      simp only [Act.put]
      refine wpAnyX_take (i := 7) (v := I x.win) rfl (by kernel_rfl) (by kernel_rfl) (by kernel_rfl) (by kernel_rfl) (by kernel_rfl) (fun _ _ _ h => h) HS (Or.inl ⟨by rfl, by intro wz hz; obtain ⟨z0, z1, z2, z3⟩ := hz; go_simp⟩) ?_
      simp only [Act.put]
      refine wpAnyX_take (i := 10) (v := .pointer (some ⟨wr.heap.size, 2, none⟩)) rfl (by kernel_rfl) (by kernel_rfl) (by kernel_rfl) (by kernel_rfl) (by kernel_rfl) (fun _ _ _ h => h) HS (Or.inl ⟨by rfl, by intro wz hz; obtain ⟨z0, z1, z2, z3⟩ := hz; go_simp⟩) ?_
      simp only [Act.put]
      refine wpAnyX_take (i := 11) (v := I x.cap) rfl (by kernel_rfl) (by kernel_rfl) (by kernel_rfl) (by kernel_rfl) (by kernel_rfl) (fun _ _ _ h => h) HS (Or.inl ⟨by rfl, by intro wz hz; obtain ⟨z0, z1, z2, z3⟩ := hz; go_simp⟩) ?_
      simp only [Act.put]
      refine wpAnyX_one (i := 4) (by kernel_rfl) rfl (fun K' hK => ?_)
      refine step_call2 rfl 15 (.tmp 28) (.const (.int .i64 7)) 3 3 rfl (I x.ch) (I 7) (by simp [Act.eval]) rfl call_kpick (P1.out _) ?_
      rintro e w1 ⟨rfl, hw⟩
      have hw8 := hw.symm
      subst hw8
      refine ⟨_, rfl, hK _ _ (fun _ => HS) ?_⟩
      simp only [Act.put]
      clear hK
      refine wpAnyX_take (i := 5) (v := I (1 + c1)) rfl (by kernel_rfl) (by kernel_rfl) (by kernel_rfl) (by kernel_rfl) (by kernel_rfl) (fun _ _ _ h => h) HS (Or.inl ⟨by rfl, by intro wz hz; obtain ⟨z0, z1, z2, z3⟩ := hz; go_simp⟩) ?_
      simp only [Act.put]
      refine wpAnyX_one (i := 8) (by kernel_rfl) rfl (fun K' hK => ?_)
      refine step_call2 rfl 15 (.tmp 32) (.const (.int .i64 12)) 3 3 rfl (I x.win) (I 12) (by simp [Act.eval]) rfl call_kpick (P2.out _) ?_
      rintro e w1 ⟨rfl, hw⟩
      have hw8 := hw.symm
      subst hw8
      refine ⟨_, rfl, hK _ _ (fun _ => HS) ?_⟩
      simp only [Act.put]
      clear hK
      refine wpAnyX_take (i := 9) (v := I (1 + c2)) rfl (by kernel_rfl) (by kernel_rfl) (by kernel_rfl) (by kernel_rfl) (by kernel_rfl) (fun _ _ _ h => h) HS (Or.inl ⟨by rfl, by intro wz hz; obtain ⟨z0, z1, z2, z3⟩ := hz; go_simp⟩) ?_
      simp only [Act.put]
      refine wpAnyX_one (i := 12) (by kernel_rfl) rfl (fun K' hK => ?_)
      refine step_call2 rfl 15 (.tmp 36) (.const (.int .i64 41)) 3 3 rfl (I x.cap) (I 41) (by simp [Act.eval]) rfl call_kpick (P3.out _) ?_
      rintro e w1 ⟨rfl, hw⟩
      have hw8 := hw.symm
      subst hw8
      refine ⟨_, rfl, hK _ _ (fun _ => HS) ?_⟩
      simp only [Act.put]
      clear hK
      refine wpAnyX_take (i := 13) (v := .agg #[I (1 + c1), I (1 + c2), I c3]) rfl (by kernel_rfl) (by kernel_rfl) (by kernel_rfl) (by kernel_rfl) (by kernel_rfl) (fun _ _ _ h => h) HS (Or.inl ⟨by rfl, by intro wz hz; obtain ⟨z0, z1, z2, z3⟩ := hz; go_simp⟩) ?_
      simp only [Act.put]
      refine wpAnyX_one (i := 14) (by kernel_rfl) rfl (fun K' hK => ?_)
      go_simp
      have k14 : Keep wx (wx.alloc (.cells #[I (1 + c1), I (1 + c2), I c3] 63)).drew := ((Frm.refl _ _).alloc _).drew
      refine hK _ _ (fun _ => ⟨k14.cell x1' id, k14.cell z0 id, k14.cell z1 id, k14.cell z2 id⟩) ?_
      clear hK
      refine wpAnyX_one (i := 15) (by kernel_rfl) rfl (fun K' hK => ?_)
      refine step_append_row rfl (.tmp 26) (.tmp 39) 27 rfl 63 iL (.agg #[I 0, I 0, I 0]) 3 24 Try.underlying27 hiL hz0 hz1 hz2 rfl (by decide) (.slice av j cv) j (((caps.take j).map foldL).flatMap limC) (by simp [Act.eval]) (ROW.out _ ((KX.out).trans k14)).1 ⟨wx.heap.size, 0, none⟩ 1 1 [I (1 + c1), I (1 + c2), I c3] (by simp [Act.eval]) rfl (cell_news wx [I (1 + c1), I (1 + c2), I c3] 63 _ rfl) (by intro u hu; simp at hu; rcases hu with rfl | rfl | rfl <;> rfl) (by unfold maxLen; omega) (by omega) ?_
      intro v5 w5 hown5 hgr5 hnew5
      obtain ⟨a5, cp5, hv5⟩ := row_slice hown5
      subst hv5
      have bb5 := (ROW.out _ ((KX.out).trans k14)).2.1.frm (grown_frm hgr5) (fun e => (ROW.out wr (Frm.refl _ _)).2.2.1 e)
      have c51 : w5.cell? ⟨w.heap.size + 1, 1, none⟩ = some (.slice av j cv) := by rw [bb5.cell]; rfl
      have f51 := bb5.frozen 1
      have l51 := bb5.lt
      have bx5 := (k14.blk BX.out).frm (grown_frm hgr5) (fun e => (ROW.out wr (Frm.refl _ _)).2.2.2 e)
      have y0 : w5.cell? ⟨wr.heap.size, 0, none⟩ = some (I x.ch) := by rw [bx5.cell]; rfl
      have y1 : w5.cell? ⟨wr.heap.size, 1, none⟩ = some (I x.win) := by rw [bx5.cell]; rfl
      have y2 : w5.cell? ⟨wr.heap.size, 2, none⟩ = some (I x.cap) := by rw [bx5.cell]; rfl
      have HS5 : (fun wz : World => wz.cell? ⟨w.heap.size + 1, 1, none⟩ = some (.slice av j cv) ∧ wz.cell? ⟨wr.heap.size, 0, none⟩ = some (I x.ch) ∧ wz.cell? ⟨wr.heap.size, 1, none⟩ = some (I x.win) ∧ wz.cell? ⟨wr.heap.size, 2, none⟩ = some (I x.cap)) w5 := ⟨c51, y0, y1, y2⟩
      have FIVE := hide (NX.out _ w5 _ ((KX.out).trans k14) hown5 hgr5 hnew5)
      clear hown5 hgr5 hnew5 bb5 bx5 HS k14
      refine hK _ _ (fun _ => HS5) ?_
      clear hK
      simp only [Act.put, List.setIfInBounds_toArray]
      refine wpAnyX_take (i := 16) (v := .pointer (some ⟨w.heap.size + 1, 1, none⟩)) rfl (by kernel_rfl) (by kernel_rfl) (by kernel_rfl) (by kernel_rfl) (by kernel_rfl) (fun _ _ _ h => h) HS5 (Or.inl ⟨by rfl, by intro wz hz; obtain ⟨z0, z1, z2, z3⟩ := hz; go_simp⟩) ?_
      simp only [Act.put]
      refine wpAnyX_one (i := 17) (by kernel_rfl) rfl (fun K' hK => ?_)
      go_simp
      refine hK _ _ (fun h => absurd rfl h) ?_
      clear hK
      refine wpAnyX_done (by kernel_rfl) ?_ _
      go_wp2_with fail
      go_roundg (gk - 1)
      case measure => exact hgk
      case rel => exact FIVE.out
    · have hje : caps.take j = caps.take 4 := by
        rcases Nat.lt_or_ge caps.length 4 with q | q
        · rw [List.take_of_length_le (by omega), List.take_of_length_le (by omega)]
        · have : j = 4 := by omega
          rw [this]
      obtain ⟨av, cv, hvv⟩ := row_slice hc.row
      obtain ⟨c0, hc0, hcs⟩ := hc.res
      have hb := hc.blk
      have x0 : wr.cell? ⟨w.heap.size + 1, 0, none⟩ = some (I 3) := by rw [hb.cell]; rfl
      have x1 : wr.cell? ⟨w.heap.size + 1, 1, none⟩ = some v := by rw [hb.cell]; rfl
      have x2 : wr.cell? ⟨w.heap.size + 1, 2, none⟩ = some (I lk) := by rw [hb.cell]; rfl
      have y0 : ∃ u, wr.cell? ⟨w.heap.size, 0, none⟩ = some u := ⟨c0[0]'(by omega), by rw [hc0.cell, Array.getElem?_eq_getElem]⟩
      have y1 : ∃ u, wr.cell? ⟨w.heap.size, 1, none⟩ = some u := ⟨c0[1]'(by omega), by rw [hc0.cell, Array.getElem?_eq_getElem]⟩
      have y2 : ∃ u, wr.cell? ⟨w.heap.size, 2, none⟩ = some u := ⟨c0[2]'(by omega), by rw [hc0.cell, Array.getElem?_eq_getElem]⟩
      obtain ⟨u0, y0⟩ := y0
      obtain ⟨u1, y1⟩ := y1
      obtain ⟨u2, y2⟩ := y2
      have f0 := hc0.frozen 0
      have f1 := hc0.frozen 1
      have f2 := hc0.frozen 2
      have lw := hc0.lt
      have hnb := row_ne hc.row hc0 (by decide)
      have HK := hide (And.intro hc (And.intro hje hnb))
      clear hst hc hb hc0 hcs hje hq hnb
      generalize ((caps.take j).map foldL).length = n at hvv
      subst hvv
      have kf : ∃ v, Ending.returned (.agg #[I 3, .slice av n cv, I lk]) = .returned (.agg #[I 3, v, I lk]) ∧ Keep w (((wr.setCell ⟨w.heap.size, 0, none⟩ (I 3)).setCell ⟨w.heap.size, 1, none⟩ (.slice av n cv)).setCell ⟨w.heap.size, 2, none⟩ (I lk)) ∧ (((wr.setCell ⟨w.heap.size, 0, none⟩ (I 3)).setCell ⟨w.heap.size, 1, none⟩ (.slice av n cv)).setCell ⟨w.heap.size, 2, none⟩ (I lk)).ownsRow 0 63 3 v (limsOf caps).length ((limsOf caps).flatMap limC) ∧ ∀ x, v.ownBlock = some x → w.heap.size ≤ x := by
        obtain ⟨hc, hje, hnb⟩ := HK.out
        refine ⟨_, rfl, ((hc.keep.setNew (p := ⟨w.heap.size, 0, none⟩) (Nat.le_refl _) _).setNew (p := ⟨w.heap.size, 1, none⟩) (Nat.le_refl _) _).setNew (p := ⟨w.heap.size, 2, none⟩) (Nat.le_refl _) _, ?_, hc.new⟩
        have f : Frm (fun x => x = w.heap.size) wr (((wr.setCell ⟨w.heap.size, 0, none⟩ (I 3)).setCell ⟨w.heap.size, 1, none⟩ (.slice av n cv)).setCell ⟨w.heap.size, 2, none⟩ (I lk)) := (((Frm.refl (fun x => x = w.heap.size) wr).setCell (p := ⟨w.heap.size, 0, none⟩) rfl _).setCell (p := ⟨w.heap.size, 1, none⟩) rfl _).setCell (p := ⟨w.heap.size, 2, none⟩) rfl _
        unfold limsOf
        rw [← hje]
        exact row_frm hc.row f fun x hx e => hnb (by rw [← e]; exact hx)
      have KF := hide kf
      clear kf HK
      by_cases h1 : j < caps.length
      · have h2 : decide ((j : Int) < 4) = false := decide_eq_false (by omega)
        clear hj
        go_wp2_with fail
        refine bodyPost_ret (v := .agg #[I 3, .slice av n cv, I lk]) (by simp [results, Try.results10, go_sem, y0, y1, y2]) rfl ?_
        exact KF.out
      · have h1' : decide (j < caps.length) = false := decide_eq_false h1
        clear hj
        go_wp2_with fail
        refine bodyPost_ret (v := .agg #[I 3, .slice av n cv, I lk]) (by simp [results, Try.results10, go_sem, y0, y1, y2]) rfl ?_
        exact KF.out

end Go.Proofs.Ytpilmkipbbengaa
