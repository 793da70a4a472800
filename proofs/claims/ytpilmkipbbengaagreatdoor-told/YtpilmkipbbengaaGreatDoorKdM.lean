/- A region that draws its order, whose last operation waits for all others: what is held is held up to that one. Nothing of the program. -/
import Derived.Test.YtpilmkipbbengaaGreatDoorBase
import Derived.Deep.RegionHeld3
import Derived.StillTail
import Derived.Test.YtpilmkipbbengaaGreatDoorKbM
import Derived.Test.YtpilmkipbbengaaGreatDoorKcfg
namespace Go.Proofs.YtpilmkipbbengaaGreatDoor
open Go.RowKit

section
variable {P : Program} {ops : Array Oper} {Q : Exit → Act → World → Prop} {md : Region.Mode} {S : World → Prop} {m : Nat}

def wpAnyX (P : Program) (md : Region.Mode) (ops : Array Oper) (Q : Exit → Act → World → Prop) (S : World → Prop) (m : Nat) : Nat → Array Bool → Act → World → Prop
  | 0, listed, a, w => Region.ready md ops listed = [] ∧ Q .normal a w
  | fuel + 1, listed, a, w =>
    (Region.ready md ops listed = [] → Q .normal a w) ∧
    ∀ i ∈ Region.ready md ops listed, wpOp P ops Q i (fun a' w' => (i ≠ m → S w') ∧ wpAnyX P md ops Q S m fuel (listed.setIfInBounds i true) a' w') a w

theorem wpAny_of_x : ∀ (fuel : Nat) (listed : Array Bool) (a : Act) (w : World), wpAnyX P md ops Q S m fuel listed a w → wpAny P md ops Q fuel listed a w
  | 0, _, _, _, h => h
  | fuel + 1, _, _, _, h => ⟨h.1, fun i hi => wpOp_mono (fun a' w' h' => wpAny_of_x fuel _ a' w' h'.2) (h.2 i hi)⟩

/-- does k wait for i, by way of others? -/
def reachB (md : Region.Mode) (ops : Array Oper) : Nat → Nat → Nat → Bool
  | 0, k, i => Region.waitsFor md ops k i
  | f + 1, k, i => Region.waitsFor md ops k i || (List.range ops.size).any fun d => Region.waitsFor md ops k d && reachB md ops f d i
def Closed (md : Region.Mode) (ops : Array Oper) (listed : Array Bool) : Prop := ∀ k d, listed.getD k false = true → Region.waitsFor md ops k d = true → listed.getD d false = true
def closedB (md : Region.Mode) (ops : Array Oper) (listed : Array Bool) : Bool := (List.range ops.size).all fun k => match ops[k]? with
  | none => true
  | some o => !(listed.getD k false) || o.after.all fun e => !(Region.binds md e) || listed.getD e.on false

theorem ready_waits {k d : Nat} {listed : Array Bool} (hr : k ∈ Region.ready md ops listed) (hw : Region.waitsFor md ops k d = true) : listed.getD d false = true := by
  obtain ⟨oj, hoj, e, he, hb, hon⟩ := Region.waitsFor_spec hw
  obtain ⟨-, oj', hoj', hall⟩ := mem_ready.1 hr
  rw [hoj] at hoj'
  injection hoj' with hoj'
  subst hoj'
  rw [← hon]
  exact hall e he hb

theorem reach_listed {listed : Array Bool} (hc : Closed md ops listed) (i : Nat) : ∀ (f k : Nat), (∀ d, Region.waitsFor md ops k d = true → listed.getD d false = true) → reachB md ops f k i = true → listed.getD i false = true := by
  intro f
  induction f with
  | zero => intro k h hr; exact h i hr
  | succ f ih =>
    intro k h hr
    simp only [reachB, Bool.or_eq_true, List.any_eq_true, Bool.and_eq_true] at hr
    rcases hr with hr | ⟨d, -, h1, h2⟩
    · exact h i hr
    · exact ih d (fun d' hd' => hc d d' (h d h1) hd') h2

theorem Closed.set {listed : Array Bool} (hc : Closed md ops listed) {j : Nat} (hj : j ∈ Region.ready md ops listed) : Closed md ops (listed.setIfInBounds j true) := by
  intro k d hk hw
  by_cases e : j = k
  · subst e; exact getD_set_true (ready_waits hj hw)
  · rw [getD_set_ne false e] at hk
    exact getD_set_true (hc k d hk hw)

theorem not_ready {i f : Nat} {listed : Array Bool} (hc : Closed md ops listed) (hw : reachB md ops f m i = true) (hr : i ∈ Region.ready md ops listed) : m ∉ Region.ready md ops listed := by
  intro hm
  have h1 := reach_listed hc i f m (fun d hd => ready_waits hm hd) hw
  have h0 := (mem_ready.1 hr).1
  rcases Nat.lt_or_ge i listed.size with h' | h'
  · simp [h'] at h0 h1; rw [h0] at h1; cases h1
  · simp [Array.getElem?_eq_none h'] at h1

theorem closed_of {listed : Array Bool} (h : closedB md ops listed = true) : Closed md ops listed := by
  intro k d hk hw
  obtain ⟨o, ho, e, he, hb, hon⟩ := Region.waitsFor_spec hw
  have hkl : k < ops.size := (Array.getElem?_eq_some_iff.1 ho).1
  simp only [closedB, List.all_eq_true, List.mem_range] at h
  have h1 := h k hkl
  rw [ho] at h1
  simp only [Bool.or_eq_true, Bool.not_eq_true'] at h1
  rcases h1 with q | q
  · rw [hk] at q; cases q
  · have := Array.all_eq_true_iff_forall_mem.1 q e he
    simp only [Bool.or_eq_true, Bool.not_eq_true'] at this
    rcases this with r | r
    · rw [hb] at r; cases r
    · rw [← hon]; exact r

theorem wpAnyX_first {i : Nat} {oi : Oper} {v : Value} (hi : ops[i]? = some oi) (hsel : ∀ (j : Nat) (o : Oper) cs b, ops[j]? = some o → o.op ≠ .select cs b)
    (hQ : ∀ c a w, Q (.panic c) (a.put oi.dst v) w → Q (.panic c) a w) {f : Nat} (hmw : reachB md ops f m i = true) :
    ∀ (fuel : Nat) (listed : Array Bool) (a : Act) (w : World), Closed md ops listed →
      (∀ j oj, ops[j]? = some oj → j ≠ i → listed.getD j true = false → (∀ e ∈ oj.after, Region.binds md e = true → e.on ≠ i) → oi.apart ops oj = true) →
      i ∈ Region.ready md ops listed → YieldsIf P ops S oi v a → S w →
      wpAnyX P md ops Q S m fuel (listed.setIfInBounds i true) (a.put oi.dst v) w → wpAnyX P md ops Q S m (fuel + 1) listed a w := by
  intro fuel
  induction fuel with
  | zero =>
    intro listed a w _ _ hr hy hS H
    refine ⟨fun h => (by rw [h] at hr; cases hr), fun j hj => ?_⟩
    by_cases hji : j = i
    · subst hji; exact hy.wpOp hi hS ⟨fun _ => hS, H⟩
    · have := ready_mono hj hji
      rw [H.1] at this
      cases this
  | succ fuel ih =>
    intro listed a w hcl hfree hr hy hS H
    refine ⟨fun h => (by rw [h] at hr; cases hr), fun j hj => ?_⟩
    by_cases hji : j = i
    · subst hji; exact hy.wpOp hi hS ⟨fun _ => hS, H⟩
    · have hjm : j ≠ m := fun e => not_ready hcl hmw hr (e ▸ hj)
      have h1 := H.2 j (ready_mono hj hji)
      obtain ⟨hjun, oj, hoj, hall⟩ := mem_ready.1 hj
      have hnot : ∀ e ∈ oj.after, Region.binds md e = true → e.on ≠ i := fun e he hb heq => by
        have h1 := hall e he hb
        have h0 := (mem_ready.1 hr).1
        rw [heq] at h1
        rcases Nat.lt_or_ge i listed.size with h' | h'
        · simp [h'] at h0 h1; rw [h0] at h1; cases h1
        · simp [Array.getElem?_eq_none h'] at h1
      have h2 := wpOp_putIf hoj (hfree j oj hoj hji hjun hnot) (fun cs b => hsel i oi cs b hi) (fun cs b => hsel j oj cs b hoj) hQ hy h1
      have hfree' : ∀ k ok, ops[k]? = some ok → k ≠ i → (listed.setIfInBounds j true).getD k true = false →
          (∀ e ∈ ok.after, Region.binds md e = true → e.on ≠ i) → oi.apart ops ok = true := fun k ok hk hki hun hno => by
        refine hfree k ok hk hki ?_ hno
        by_cases hjk : j = k
        · subst hjk; exact hjun
        · rw [getD_set_ne true hjk] at hun; exact hun
      refine wpOp_mono (fun a' w' h3 => ⟨h3.2.1, ih (listed.setIfInBounds j true) a' w' (hcl.set hj) hfree' (ready_mono hr (Ne.symm hji)) h3.1 (h3.2.1 hjm) ?_⟩) h2
      rw [Array.setIfInBounds_comm _ _ hji]
      exact h3.2.2

theorem wpAnyX_take {i : Nat} {oi : Oper} {v : Value} {fuel : Nat} {listed : Array Bool} {a : Act} {w : World} (hi : ops[i]? = some oi)
    (hs : Region.noSelect ops = true) (hf : Region.free md ops listed i = true) (hr : (Region.ready md ops listed).contains i = true) (hcl : closedB md ops listed = true) (hmw : reachB md ops 8 m i = true)
    (hQ : ∀ c a w, Q (.panic c) (a.put oi.dst v) w → Q (.panic c) a w) (hS : S w) (hy : YieldsIf P ops S oi v a)
    (h : wpAnyX P md ops Q S m fuel (listed.setIfInBounds i true) (a.put oi.dst v) w) : wpAnyX P md ops Q S m (fuel + 1) listed a w :=
  wpAnyX_first hi (Region.noSelect_spec hs) hQ hmw fuel listed a w (closed_of hcl) (Region.free_spec hi hf) (by simpa using hr) hy hS h

/-- one alone may come up -/
theorem wpAnyX_one {i : Nat} {o : Oper} {fuel : Nat} {listed : Array Bool} {a : Act} {w : World} (hr : Region.ready md ops listed = [i]) (ho : ops[i]? = some o)
    (h : ∀ K' : Act → World → Prop, (∀ a w, (i ≠ m → S w) → wpAnyX P md ops Q S m fuel (listed.setIfInBounds i true) a w → K' a w) → if Region.wanted o (yielded ops a.tmps) = true then Oper.wp P o a w K' Q else K' (a.put o.dst undef) w) :
    wpAnyX P md ops Q S m (fuel + 1) listed a w := by
  refine ⟨fun h0 => ?_, fun j hj => ?_⟩
  · rw [hr] at h0; cases h0
  · rw [hr] at hj
    simp at hj
    subst hj
    exact wpOp_step ho (fun K' hK => h K' (fun a w hS hW => hK a w ⟨hS, hW⟩))

theorem wpAnyX_done {listed : Array Bool} {a : Act} {w : World} (hr : Region.ready md ops listed = []) (h : Q .normal a w) : ∀ fuel, wpAnyX P md ops Q S m fuel listed a w
  | 0 => ⟨hr, h⟩
  | _ + 1 => ⟨fun _ => h, by rw [hr]; simp⟩

theorem wp_region_x {id : Nat} {a : Act} {w : World} (S : World → Prop) (m : Nat) (hm : P.follows .mixedOrders = true)
    (h : wpAnyX P .any ops Q S m ops.size (Array.replicate ops.size false) a w.drew) : (Code.region id ops true).wp P Q a w :=
  wp_region_any hm (wpAny_of_x _ _ _ _ h)
end

end Go.Proofs.YtpilmkipbbengaaGreatDoor

/- dripkeep: config. -/
namespace Go.Proofs.YtpilmkipbbengaaGreatDoor
open Go.RowKit

theorem row_ne {w : World} {e T : TypeId} {size n x : Nat} {v : Value} {xs : List Value} {c : Array Value} (h : w.ownsRow 0 e size v n xs) (hb : Blk w x c T) (hne : e ≠ T) : v.ownBlock ≠ some x := fun he => by
  rcases h.2 with ⟨e1, -⟩ | ⟨g, cap, cur, e1, -, h2, -⟩
  · rw [e1] at he; cases he
  · rw [e1] at he; injection he with he
    have h2' : w.heap[g]? = some (.cells cur e (0, 0)) := h2
    have he : g = x := he
    unfold Blk at hb
    rw [he, hb] at h2'
    injection h2' with h2'
    injection h2' with q1 q2
    exact hne q2.symm

structure CfSt (w wr : World) (lk : Int) (v : Value) (lims : List Lim) : Prop where
  keep : Keep w wr
  res : ∃ c, Blk wr w.heap.size c 30 ∧ c.size = 3
  blk : Blk wr (w.heap.size + 1) #[I 3, v, I lk] 30
  row : wr.ownsRow 0 60 3 v lims.length (lims.flatMap limC)
  new : ∀ x, v.ownBlock = some x → w.heap.size ≤ x

theorem CfSt.more {w wr W w3 : World} {lk : Int} {v v' : Value} {lims : List Lim} (h : CfSt w wr lk v lims) (kW : Keep wr W) {l : Lim} (hown : w3.ownsRow 0 60 3 v' (lims.length + 1) (lims.flatMap limC ++ [I l.ch, I l.win, I l.cap])) (hg : W.grownBy w3 v.ownBlock)
    (hnew : v'.ownBlock = v.ownBlock ∨ (v'.ownBlock = some W.heap.size ∧ W.grownBy w3 none)) : CfSt w (w3.setCell ⟨w.heap.size + 1, 1, none⟩ v') lk v' (lims ++ [l]) := by
  have f3 := grown_frm hg
  have rW := row_frm h.row kW (fun _ _ e => e)
  have bW := kW.blk h.blk
  have hty : ∀ {x : Nat} {c : Array Value}, Blk W x c 30 → v.ownBlock ≠ some x := by
    intro x c hb e
    rcases rW.2 with ⟨e1, -⟩ | ⟨g, cap, cur, e1, -, h2, -⟩
    · rw [e1] at e; cases e
    · rw [e1] at e; injection e with e
      have h2' : W.heap[g]? = some (.cells cur 60 (0, 0)) := h2
      have e : g = x := e
      unfold Blk at hb
      rw [e, hb] at h2'
      injection h2' with h2'
      injection h2' with q1 q2
      revert q2; decide
  have b3 := bW.frm f3 (hty bW)
  have f4 : Frm (fun x => x = w.heap.size + 1) w3 (w3.setCell ⟨w.heap.size + 1, 1, none⟩ v') := (Frm.refl (fun x => x = w.heap.size + 1) w3).setCell (p := ⟨w.heap.size + 1, 1, none⟩) rfl v'
  have s1 := h.keep.size
  have s2 := kW.size
  have vn : ∀ x, v'.ownBlock = some x → v.ownBlock = some x ∨ x = W.heap.size := by
    intro x hx
    rcases hnew with e | ⟨e, -⟩
    · exact Or.inl (by rw [← e]; exact hx)
    · rw [e] at hx; injection hx with hx; exact Or.inr hx.symm
  have lb := bW.lt
  refine ⟨?_, ?_, ?_, ?_, ?_⟩
  · exact ((h.keep.trans kW).trans2 f3 fun x hx e => by have := h.new x e; omega).setNew (p := ⟨w.heap.size + 1, 1, none⟩) (by show w.heap.size ≤ w.heap.size + 1; omega) _
  · obtain ⟨c, hc, hs⟩ := h.res
    have hcW := kW.blk hc
    exact ⟨c, (hcW.frm f3 (hty hcW)).frm f4 (by omega), hs⟩
  · have := b3.set 1 v'
    simpa using this
  · have e1 : (lims ++ [l]).length = lims.length + 1 := by simp
    have e2 : (lims ++ [l]).flatMap limC = lims.flatMap limC ++ [I l.ch, I l.win, I l.cap] := by simp [limC]
    rw [e1, e2]
    refine row_frm hown f4 fun x hx e => ?_
    subst e
    rcases vn _ hx with q | q
    · exact hty bW q
    · omega
  · intro x hx
    rcases vn x hx with q | q
    · exact h.new x q
    · omega

/-- a call of a Go function with two arguments, as one step of a region that draws -/
theorem step_call2 {P : Program} {ops : Array Oper} {o : Oper} {a : Act} {w : World} {K : Act → World → Prop} {Q : Exit → Act → World → Prop} {E : Prop} (hg : o.guard = none) (f : FuncId) (x y : Operand) (t u : TypeId)
    (hop : o.op = Op.call { callee := Callee.value (Operand.func f), args := #[x, y], argTypes := #[t, u] }) (v v2 : Value) (hx : a.eval x = v) (hy : a.eval y = v2) (hcf : ∀ args w, (callFunc f args).run P w = .ok (.enter f args) w) {C : Ending → World → Prop} (hc : Calls P f #[v, v2] w C)
    (hC : ∀ e w', C e w' → ∃ v', e = .returned v' ∧ K (a.put o.dst v') w') : if Region.wanted o (yielded ops a.tmps) = true then Oper.wp P o a w K Q else E := by
  have hw : Region.wanted o (yielded ops a.tmps) = true := by simp [Region.wanted, hg]
  rw [if_pos hw]
  unfold Oper.wp
  have hr : (execOp a.eval o).run P w = .ok (.enter f #[v, v2]) w := by
    have hf : a.eval (Operand.func f) = .func (.func f) #[] #[] := rfl
    simp [execOp, hop, resolve, invoke, hx, hy, hf, Deferred.ofValue, hcf]
  rw [hr, Oper.upon_enter]
  refine hc.mono fun e w'' hh => ?_
  obtain ⟨v', rfl, hk⟩ := hC e w'' hh
  exact hk

theorem call_kpick (args : Array Value) (w : World) : (callFunc 22 args).run Tryz.prog w = .ok (.enter 22 args) w := by
  kernel_rfl

set_option maxRecDepth 100000 in
set_option maxHeartbeats 3200000 in
theorem kconfig_any (a : Option Addr) (caps : List Lim) (cp : Nat) (lockout : Int) (w : World) (hs : SeeL w a caps) (hin : ∀ x ∈ caps, x.In) (hlo : In64 lockout) :
    Calls Tryz.prog 10 #[.slice a caps.length cp, I lockout] w fun e w' => ∃ v, e = .returned (.agg #[I 3, v, I (pk lockout 10)]) ∧ Keep w w' ∧ w'.ownsRow 0 60 3 v (limsOf caps).length ((limsOf caps).flatMap limC) ∧ ∀ x, v.ownBlock = some x → w.heap.size ≤ x := by
  obtain ⟨iL, hiL, hz0, hz1, hz2⟩ := info_parts infoL
  obtain ⟨lk, hlk, lk0, lk1, PL⟩ := kpick_some lockout 10 (by omega) (by omega) hlo
  rw [← hlk]
  clear hlk
  have H := hide (And.intro hs hin)
  clear hs hin
  go_enter Tryz.func10, Tryz.ntmps10
  go_wp2_with fail
  refine (PL.out _).mono ?_
  rintro e w1 ⟨rfl, hw⟩
  subst hw
  go_wp2_with fail
  have st0 : CfSt w ((w.alloc (.cells #[I 0, .slice none 0 0, I 0] 30)).alloc (.cells #[I 3, .slice none 0 0, I lk] 30)) lk (.slice none 0 0) [] := by
    refine ⟨((Frm.refl _ _).alloc _).alloc _, ⟨_, (Blk.new _ _ _).alloc _, rfl⟩, ?_, World.ownsRow_nil .., by simp [Value.ownBlock]⟩
    have := Blk.new (w.alloc (.cells #[I 0, .slice none 0 0, I 0] 30)) #[I 3, .slice none 0 0, I lk] 30
    simpa using this
  have ST0 := hide st0
  clear st0
  go_loopg [6, 7] (min caps.length 4) (fun q i _ wr => ∃ (j : Nat) (v : Value), q + j = min caps.length 4 ∧ i = I j ∧ Hid (CfSt w wr lk v ((caps.take j).map foldL)))
  case atStart => exact ⟨0, _, by omega, rfl, ST0.out⟩
  case round =>
    obtain ⟨j, v, hq, rfl, hst⟩ := hrel
    have hc := hst.out
    by_cases hj : j < min caps.length 4
    · obtain ⟨x, hx⟩ : ∃ x, caps[j]? = some x := ⟨_, List.getElem?_eq_getElem (by omega)⟩
      have hsee := (H.out).1.frm hc.keep (fun _ _ _ e => e)
      rcases hsee with e | ⟨g, o, rfl, hg, hcells⟩
      · rw [e] at hx; simp at hx
      obtain ⟨d0, d1, d2⟩ := hcells j x hx
      obtain ⟨i1, i2, i3⟩ := (H.out).2 x (List.mem_of_getElem? hx)
      obtain ⟨c1, e1, b1, t1, P1⟩ := kpick_some x.ch 7 (by omega) (by omega) i1
      obtain ⟨c2, e2, b2, t2, P2⟩ := kpick_some x.win 12 (by omega) (by omega) i2
      obtain ⟨c3, e3, b3, t3, P3⟩ := kpick_some x.cap 41 (by omega) (by omega) i3
      have hfold : foldL x = ⟨1 + c1, 1 + c2, c3⟩ := by simp [foldL, e1, e2, e3]
      obtain ⟨av, cv, hvv⟩ := row_slice hc.row
      have hll : ((caps.take j).map foldL).length = j := by simp; omega
      rw [hll] at hvv
      subst hvv
      have x1 : wr.cell? ⟨w.heap.size + 1, 1, none⟩ = some (.slice av j cv) := by rw [hc.blk.cell]; rfl
      have lx := hc.blk.lt
      have w1b : IntKind.i64.wrap (1 + c1) = 1 + c1 := wrap_id _ (by omega) (by omega)
      have w1d : IntKind.i64.wrap (1 + c2) = 1 + c2 := wrap_id _ (by omega) (by omega)
      have hj1 : j < caps.length := by omega
      have hj2 : (j : Int) < 4 := by omega
      have ROW : Hid (∀ W : World, Keep wr W → W.ownsRow 0 60 3 (.slice av j cv) j (((caps.take j).map foldL).flatMap limC) ∧ Blk W (w.heap.size + 1) #[I 3, .slice av j cv, I lk] 30 ∧ (Value.slice av j cv).ownBlock ≠ some (w.heap.size + 1) ∧ (Value.slice av j cv).ownBlock ≠ some wr.heap.size) := by
        intro W kW
        have hnw : (Value.slice av j cv).ownBlock ≠ some wr.heap.size := fun e => by have := (hc.row.lt _ e).2; omega
        have hr := row_frm hc.row kW (fun _ _ e => e)
        rw [hll] at hr
        have hb := kW.blk hc.blk
        refine ⟨hr, hb, fun e => ?_, hnw⟩
        rcases hr.2 with ⟨e1, -⟩ | ⟨g, cap, cur, e1, -, h2, -⟩
        · rw [e1] at e; cases e
        · rw [e1] at e; injection e with e
          have h2' : W.heap[g]? = some (.cells cur 60 (0, 0)) := h2
          have e : g = w.heap.size + 1 := e
          unfold Blk at hb
          rw [e, hb] at h2'
          injection h2' with h2'
          injection h2' with q1 q2
          revert q2; decide
      have NX : Hid (∀ (W w3 : World) (v' : Value), Keep wr W → w3.ownsRow 0 60 3 v' (j + 1) (((caps.take j).map foldL).flatMap limC ++ [I (1 + c1), I (1 + c2), I c3]) → W.grownBy w3 (Value.slice av j cv).ownBlock → (v'.ownBlock = (Value.slice av j cv).ownBlock ∨ (v'.ownBlock = some W.heap.size ∧ W.grownBy w3 none)) → ∃ (j' : Nat) (v : Value), gk - 1 + j' = min caps.length 4 ∧ I ((j : Int) + 1) = I j' ∧ Hid (CfSt w (w3.setCell ⟨w.heap.size + 1, 1, none⟩ v') lk v ((caps.take j').map foldL))) := by
        intro W w3 v' kW hown hg' hnew
        refine ⟨j + 1, v', by omega, by simp, ?_⟩
        rw [take_snoc' hx, List.map_append]
        simp only [List.map_cons, List.map_nil, hfold]
        refine hc.more kW (l := ⟨1 + c1, 1 + c2, c3⟩) ?_ hg' hnew
        rw [hll]
        exact hown
      have hgk : gk - 1 < gk := by omega
      clear hst hc hcells hx hfold hq hll e1 e2 e3
      go_wp2_with fail
      have kx : Keep wr (wr.alloc (.cells #[I x.ch, I x.win, I x.cap] 64)) := (Frm.refl _ _).alloc _
      have bx : Blk (wr.alloc (.cells #[I x.ch, I x.win, I x.cap] 64)) wr.heap.size #[I x.ch, I x.win, I x.cap] 64 := Blk.new _ _ _
      have x1' := kx.cell (p := ⟨w.heap.size + 1, 1, none⟩) x1 id
      have lx' : w.heap.size + 1 < (wr.alloc (.cells #[I x.ch, I x.win, I x.cap] 64)).heap.size := Nat.lt_of_lt_of_le lx kx.size
      generalize wr.alloc (.cells #[I x.ch, I x.win, I x.cap] 64) = wx at *
      have z0 : wx.cell? ⟨wr.heap.size, 0, none⟩ = some (I x.ch) := by rw [bx.cell]; rfl
      have z1 : wx.cell? ⟨wr.heap.size, 1, none⟩ = some (I x.win) := by rw [bx.cell]; rfl
      have z2 : wx.cell? ⟨wr.heap.size, 2, none⟩ = some (I x.cap) := by rw [bx.cell]; rfl
      have lz := bx.lt
      have KX := hide kx
      have BX := hide bx
      have hne : wr.heap.size ≠ w.heap.size + 1 := by omega
      have hne' : w.heap.size + 1 ≠ wr.heap.size := by omega
      clear kx bx x1 d0 d1 d2 lx
      have HS : (fun wz : World => wz.cell? ⟨w.heap.size + 1, 1, none⟩ = some (.slice av j cv) ∧ wz.cell? ⟨wr.heap.size, 0, none⟩ = some (I x.ch) ∧ wz.cell? ⟨wr.heap.size, 1, none⟩ = some (I x.win) ∧ wz.cell? ⟨wr.heap.size, 2, none⟩ = some (I x.cap)) wx.drew := ⟨x1', z0, z1, z2⟩
      refine wp_region_x (fun wz : World => wz.cell? ⟨w.heap.size + 1, 1, none⟩ = some (.slice av j cv) ∧ wz.cell? ⟨wr.heap.size, 0, none⟩ = some (I x.ch) ∧ wz.cell? ⟨wr.heap.size, 1, none⟩ = some (I x.win) ∧ wz.cell? ⟨wr.heap.size, 2, none⟩ = some (I x.cap)) 17 (by kernel_rfl) ?_
      refine wpAnyX_take (i := 0) (v := .pointer (some ⟨w.heap.size + 1, 1, none⟩)) rfl (by kernel_rfl) (by kernel_rfl) (by kernel_rfl) (by kernel_rfl) (by kernel_rfl) (fun _ _ _ h => h) HS (Or.inl ⟨by rfl, by intro wz hz; obtain ⟨z0, z1, z2, z3⟩ := hz; go_simp⟩) ?_
      simp only [Act.put, List.setIfInBounds_toArray]
      refine wpAnyX_take (i := 1) (v := .slice av j cv) rfl (by kernel_rfl) (by kernel_rfl) (by kernel_rfl) (by kernel_rfl) (by kernel_rfl) (fun _ _ _ h => h) HS (Or.inl ⟨by rfl, by intro wz hz; obtain ⟨z0, z1, z2, z3⟩ := hz; go_simp⟩) ?_
      simp only [Act.put]
      refine wpAnyX_take (i := 2) (v := .pointer (some ⟨wr.heap.size, 0, none⟩)) rfl (by kernel_rfl) (by kernel_rfl) (by kernel_rfl) (by kernel_rfl) (by kernel_rfl) (fun _ _ _ h => h) HS (Or.inl ⟨by rfl, by intro wz hz; obtain ⟨z0, z1, z2, z3⟩ := hz; go_simp⟩) ?_
      simp only [Act.put]
      refine wpAnyX_take (i := 3) (v := I x.ch) rfl (by kernel_rfl) (by kernel_rfl) (by kernel_rfl) (by kernel_rfl) (by kernel_rfl) (fun _ _ _ h => h) HS (Or.inl ⟨by rfl, by intro wz hz; obtain ⟨z0, z1, z2, z3⟩ := hz; go_simp⟩) ?_
      simp only [Act.put]
      refine wpAnyX_take (i := 6) (v := .pointer (some ⟨wr.heap.size, 1, none⟩)) rfl (by kernel_rfl) (by kernel_rfl) (by kernel_rfl) (by kernel_rfl) (by kernel_rfl) (fun _ _ _ h => h) HS (Or.inl ⟨by rfl, by intro wz hz; obtain ⟨z0, z1, z2, z3⟩ := hz; go_simp⟩) ?_
      simp only [Act.put]
      refine wpAnyX_take (i := 7) (v := I x.win) rfl (by kernel_rfl) (by kernel_rfl) (by kernel_rfl) (by kernel_rfl) (by kernel_rfl) (fun _ _ _ h => h) HS (Or.inl ⟨by rfl, by intro wz hz; obtain ⟨z0, z1, z2, z3⟩ := hz; go_simp⟩) ?_
      simp only [Act.put]
      refine wpAnyX_take (i := 10) (v := .pointer (some ⟨wr.heap.size, 2, none⟩)) rfl (by kernel_rfl) (by kernel_rfl) (by kernel_rfl) (by kernel_rfl) (by kernel_rfl) (fun _ _ _ h => h) HS (Or.inl ⟨by rfl, by intro wz hz; obtain ⟨z0, z1, z2, z3⟩ := hz; go_simp⟩) ?_
      simp only [Act.put]
      refine wpAnyX_take (i := 11) (v := I x.cap) rfl (by kernel_rfl) (by kernel_rfl) (by kernel_rfl) (by kernel_rfl) (by kernel_rfl) (fun _ _ _ h => h) HS (Or.inl ⟨by rfl, by intro wz hz; obtain ⟨z0, z1, z2, z3⟩ := hz; go_simp⟩) ?_
      simp only [Act.put]
      refine wpAnyX_one (i := 4) (by kernel_rfl) rfl (fun K' hK => ?_)
      refine step_call2 rfl 22 (.tmp 28) (.const (.int .i64 7)) 3 3 rfl (I x.ch) (I 7) (by simp [Act.eval]) rfl call_kpick (P1.out _) ?_
      rintro e w1 ⟨rfl, hw⟩
      have hw8 := hw.symm
      subst hw8
      refine ⟨_, rfl, hK _ _ (fun _ => HS) ?_⟩
      simp only [Act.put]
      clear hK
      refine wpAnyX_take (i := 5) (v := I (1 + c1)) rfl (by kernel_rfl) (by kernel_rfl) (by kernel_rfl) (by kernel_rfl) (by kernel_rfl) (fun _ _ _ h => h) HS (Or.inl ⟨by rfl, by intro wz hz; obtain ⟨z0, z1, z2, z3⟩ := hz; go_simp⟩) ?_
      simp only [Act.put]
      refine wpAnyX_one (i := 8) (by kernel_rfl) rfl (fun K' hK => ?_)
      refine step_call2 rfl 22 (.tmp 32) (.const (.int .i64 12)) 3 3 rfl (I x.win) (I 12) (by simp [Act.eval]) rfl call_kpick (P2.out _) ?_
      rintro e w1 ⟨rfl, hw⟩
      have hw8 := hw.symm
      subst hw8
      refine ⟨_, rfl, hK _ _ (fun _ => HS) ?_⟩
      simp only [Act.put]
      clear hK
      refine wpAnyX_take (i := 9) (v := I (1 + c2)) rfl (by kernel_rfl) (by kernel_rfl) (by kernel_rfl) (by kernel_rfl) (by kernel_rfl) (fun _ _ _ h => h) HS (Or.inl ⟨by rfl, by intro wz hz; obtain ⟨z0, z1, z2, z3⟩ := hz; go_simp⟩) ?_
      simp only [Act.put]
      refine wpAnyX_one (i := 12) (by kernel_rfl) rfl (fun K' hK => ?_)
      refine step_call2 rfl 22 (.tmp 36) (.const (.int .i64 41)) 3 3 rfl (I x.cap) (I 41) (by simp [Act.eval]) rfl call_kpick (P3.out _) ?_
      rintro e w1 ⟨rfl, hw⟩
      have hw8 := hw.symm
      subst hw8
      refine ⟨_, rfl, hK _ _ (fun _ => HS) ?_⟩
      simp only [Act.put]
      clear hK
      refine wpAnyX_take (i := 13) (v := .agg #[I (1 + c1), I (1 + c2), I c3]) rfl (by kernel_rfl) (by kernel_rfl) (by kernel_rfl) (by kernel_rfl) (by kernel_rfl) (fun _ _ _ h => h) HS (Or.inl ⟨by rfl, by intro wz hz; obtain ⟨z0, z1, z2, z3⟩ := hz; go_simp⟩) ?_
      simp only [Act.put]
      refine wpAnyX_one (i := 14) (by kernel_rfl) rfl (fun K' hK => ?_)
      go_simp
      have k14 : Keep wx (wx.alloc (.cells #[I (1 + c1), I (1 + c2), I c3] 60)).drew := ((Frm.refl _ _).alloc _).drew
      refine hK _ _ (fun _ => ⟨k14.cell x1' id, k14.cell z0 id, k14.cell z1 id, k14.cell z2 id⟩) ?_
      clear hK
      refine wpAnyX_one (i := 15) (by kernel_rfl) rfl (fun K' hK => ?_)
      refine step_append_row rfl (.tmp 26) (.tmp 39) 28 rfl 60 iL (.agg #[I 0, I 0, I 0]) 3 24 Tryz.underlying28 hiL hz0 hz1 hz2 rfl (by decide) (.slice av j cv) j (((caps.take j).map foldL).flatMap limC) (by simp [Act.eval]) (ROW.out _ ((KX.out).trans k14)).1 ⟨wx.heap.size, 0, none⟩ 1 1 [I (1 + c1), I (1 + c2), I c3] (by simp [Act.eval]) rfl (cell_news wx [I (1 + c1), I (1 + c2), I c3] 60 _ rfl) (by intro u hu; simp at hu; rcases hu with rfl | rfl | rfl <;> rfl) (by unfold maxLen; omega) (by omega) ?_
      intro v5 w5 hown5 hgr5 hnew5
      obtain ⟨a5, cp5, hv5⟩ := row_slice hown5
      subst hv5
      have bb5 := (ROW.out _ ((KX.out).trans k14)).2.1.frm (grown_frm hgr5) (fun e => (ROW.out wr (Frm.refl _ _)).2.2.1 e)
      have c51 : w5.cell? ⟨w.heap.size + 1, 1, none⟩ = some (.slice av j cv) := by rw [bb5.cell]; rfl
      have f51 := bb5.frozen 1
      have l51 := bb5.lt
      have bx5 := (k14.blk BX.out).frm (grown_frm hgr5) (fun e => (ROW.out wr (Frm.refl _ _)).2.2.2 e)
      have y0 : w5.cell? ⟨wr.heap.size, 0, none⟩ = some (I x.ch) := by rw [bx5.cell]; rfl
      have y1 : w5.cell? ⟨wr.heap.size, 1, none⟩ = some (I x.win) := by rw [bx5.cell]; rfl
      have y2 : w5.cell? ⟨wr.heap.size, 2, none⟩ = some (I x.cap) := by rw [bx5.cell]; rfl
      have HS5 : (fun wz : World => wz.cell? ⟨w.heap.size + 1, 1, none⟩ = some (.slice av j cv) ∧ wz.cell? ⟨wr.heap.size, 0, none⟩ = some (I x.ch) ∧ wz.cell? ⟨wr.heap.size, 1, none⟩ = some (I x.win) ∧ wz.cell? ⟨wr.heap.size, 2, none⟩ = some (I x.cap)) w5 := ⟨c51, y0, y1, y2⟩
      have FIVE := hide (NX.out _ w5 _ ((KX.out).trans k14) hown5 hgr5 hnew5)
      clear hown5 hgr5 hnew5 bb5 bx5 HS k14
      refine hK _ _ (fun _ => HS5) ?_
      clear hK
      simp only [Act.put, List.setIfInBounds_toArray]
      refine wpAnyX_take (i := 16) (v := .pointer (some ⟨w.heap.size + 1, 1, none⟩)) rfl (by kernel_rfl) (by kernel_rfl) (by kernel_rfl) (by kernel_rfl) (by kernel_rfl) (fun _ _ _ h => h) HS5 (Or.inl ⟨by rfl, by intro wz hz; obtain ⟨z0, z1, z2, z3⟩ := hz; go_simp⟩) ?_
      simp only [Act.put]
      refine wpAnyX_one (i := 17) (by kernel_rfl) rfl (fun K' hK => ?_)
      go_simp
      refine hK _ _ (fun h => absurd rfl h) ?_
      clear hK
      refine wpAnyX_done (by kernel_rfl) ?_ _
      go_wp2_with fail
      go_roundg (gk - 1)
      case measure => exact hgk
      case rel => exact FIVE.out
    · have hje : caps.take j = caps.take 4 := by
        rcases Nat.lt_or_ge caps.length 4 with q | q
        · rw [List.take_of_length_le (by omega), List.take_of_length_le (by omega)]
        · have : j = 4 := by omega
          rw [this]
      obtain ⟨av, cv, hvv⟩ := row_slice hc.row
      obtain ⟨c0, hc0, hcs⟩ := hc.res
      have hb := hc.blk
      have x0 : wr.cell? ⟨w.heap.size + 1, 0, none⟩ = some (I 3) := by rw [hb.cell]; rfl
      have x1 : wr.cell? ⟨w.heap.size + 1, 1, none⟩ = some v := by rw [hb.cell]; rfl
      have x2 : wr.cell? ⟨w.heap.size + 1, 2, none⟩ = some (I lk) := by rw [hb.cell]; rfl
      have y0 : ∃ u, wr.cell? ⟨w.heap.size, 0, none⟩ = some u := ⟨c0[0]'(by omega), by rw [hc0.cell, Array.getElem?_eq_getElem]⟩
      have y1 : ∃ u, wr.cell? ⟨w.heap.size, 1, none⟩ = some u := ⟨c0[1]'(by omega), by rw [hc0.cell, Array.getElem?_eq_getElem]⟩
      have y2 : ∃ u, wr.cell? ⟨w.heap.size, 2, none⟩ = some u := ⟨c0[2]'(by omega), by rw [hc0.cell, Array.getElem?_eq_getElem]⟩
      obtain ⟨u0, y0⟩ := y0
      obtain ⟨u1, y1⟩ := y1
      obtain ⟨u2, y2⟩ := y2
      have f0 := hc0.frozen 0
      have f1 := hc0.frozen 1
      have f2 := hc0.frozen 2
      have lw := hc0.lt
      have hnb := row_ne hc.row hc0 (by decide)
      have HK := hide (And.intro hc (And.intro hje hnb))
      clear hst hc hb hc0 hcs hje hq hnb
      generalize ((caps.take j).map foldL).length = n at hvv
      subst hvv
      have kf : ∃ v, Ending.returned (.agg #[I 3, .slice av n cv, I lk]) = .returned (.agg #[I 3, v, I lk]) ∧ Keep w (((wr.setCell ⟨w.heap.size, 0, none⟩ (I 3)).setCell ⟨w.heap.size, 1, none⟩ (.slice av n cv)).setCell ⟨w.heap.size, 2, none⟩ (I lk)) ∧ (((wr.setCell ⟨w.heap.size, 0, none⟩ (I 3)).setCell ⟨w.heap.size, 1, none⟩ (.slice av n cv)).setCell ⟨w.heap.size, 2, none⟩ (I lk)).ownsRow 0 60 3 v (limsOf caps).length ((limsOf caps).flatMap limC) ∧ ∀ x, v.ownBlock = some x → w.heap.size ≤ x := by
        obtain ⟨hc, hje, hnb⟩ := HK.out
        refine ⟨_, rfl, ((hc.keep.setNew (p := ⟨w.heap.size, 0, none⟩) (Nat.le_refl _) _).setNew (p := ⟨w.heap.size, 1, none⟩) (Nat.le_refl _) _).setNew (p := ⟨w.heap.size, 2, none⟩) (Nat.le_refl _) _, ?_, hc.new⟩
        have f : Frm (fun x => x = w.heap.size) wr (((wr.setCell ⟨w.heap.size, 0, none⟩ (I 3)).setCell ⟨w.heap.size, 1, none⟩ (.slice av n cv)).setCell ⟨w.heap.size, 2, none⟩ (I lk)) := (((Frm.refl (fun x => x = w.heap.size) wr).setCell (p := ⟨w.heap.size, 0, none⟩) rfl _).setCell (p := ⟨w.heap.size, 1, none⟩) rfl _).setCell (p := ⟨w.heap.size, 2, none⟩) rfl _
        unfold limsOf
        rw [← hje]
        exact row_frm hc.row f fun x hx e => hnb (by rw [← e]; exact hx)
      have KF := hide kf
      clear kf HK
      by_cases h1 : j < caps.length
      · have h2 : decide ((j : Int) < 4) = false := decide_eq_false (by omega)
        clear hj
        go_wp2_with fail
        refine bodyPost_ret (v := .agg #[I 3, .slice av n cv, I lk]) (by simp [results, Tryz.results10, go_sem, y0, y1, y2]) rfl ?_
        exact KF.out
      · have h1' : decide (j < caps.length) = false := decide_eq_false h1
        clear hj
        go_wp2_with fail
        refine bodyPost_ret (v := .agg #[I 3, .slice av n cv, I lk]) (by simp [results, Tryz.results10, go_sem, y0, y1, y2]) rfl ?_
        exact KF.out

end Go.Proofs.YtpilmkipbbengaaGreatDoor
