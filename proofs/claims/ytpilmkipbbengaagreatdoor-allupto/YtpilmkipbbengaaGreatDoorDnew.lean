/- window.New, New. -/
import Derived.Test.YtpilmkipbbengaaGreatDoorDconf
import Derived.Laws.MakeOwn
import Derived.Laws.OwnMore
namespace Go.Proofs.YtpilmkipbbengaaGreatDoor
open Go.RowKit

theorem infoI : (Tryz.prog.info? 3).map (fun i => (i.zero, i.size, i.bytes)) = some (some (I 0), 1, 8) := by kernel_rfl
theorem infoCh : (Tryz.prog.info? 127).map (fun i => (i.zero, i.size, i.bytes)) = some (some (.agg #[I 0, .pointer none, .slice none 0 0, .bool false, I 0]), 5, 56) := by kernel_rfl
theorem infoPW : (Tryz.prog.info? 114).map (fun i => (i.zero, i.size, i.bytes)) = some (some (.pointer none), 1, 8) := by kernel_rfl

def win0 (l : Lim) : Win := ⟨l.ch, l.win, l.cap, List.replicate l.win.toNat 0, 0, 0⟩

theorem made_ints (n : Nat) : madeCells #[I 0] n = intCells (List.replicate n 0) := by
  apply Array.toList_inj.1
  rw [toList_madeCells_one]
  simp [intCells]

theorem sum_zeros (n : Nat) : (List.replicate n (0 : Int)).sum = 0 := by
  induction n with
  | zero => rfl
  | succ n ih => rw [List.replicate_succ, List.sum_cons, ih]; rfl

theorem win0_fit (l : Lim) (h : l.Ok) : Fit (win0 l) l [] 0 := by
  have h1 := h.w0
  have h2 := h.w1
  have h3 := h.ch0
  have hz : ∀ i : Nat, (List.replicate l.win.toNat (0 : Int))[i]?.getD 0 = 0 := by
    intro i
    rw [List.getElem?_replicate]
    split <;> rfl
  refine ⟨⟨by simp [win0]; omega, h.ch1, h.cap0, h.cap1, Int.le_refl _, h.cap0, by simp [win0]; omega, by simp [win0]; omega, ?_, ?_⟩, rfl, rfl, rfl, by simp [win0]; omega, rfl, ?_⟩
  · intro x hx
    simp [win0] at hx
    omega
  · exact sum_zeros _
  · intro i _ _
    simp only [Win.at, win0, hz]
    rfl

set_option maxRecDepth 100000 in
set_option maxHeartbeats 800000 in
theorem winNew_any (l : Lim) (w : World) (w0 : 1 ≤ l.win) (w1 : l.win ≤ 100) :
    Calls Tryz.prog 53 #[.agg #[I l.ch, I l.win, I l.cap]] w fun e w' => ∃ wb rb, e = .returned (ptr wb 0) ∧ w.heap.size ≤ wb ∧ w.heap.size ≤ rb ∧ WinAt w' wb rb (win0 l) ∧ Keep w w' := by
  obtain ⟨i0, hi, hz0, hz1, hz2⟩ := info_parts infoI
  have hmk : ∀ u : World, (Instr.makeSlice 55 (.int .i64 l.win) (.int .i64 l.win)).run Tryz.prog u =
      .ok (.slice (some ⟨u.heap.size, 0, none⟩) l.win.toNat l.win.toNat) (u.alloc (.cells (intCells (List.replicate l.win.toNat 0)) 3)) := fun u => by
    have h := run_make (P := Tryz.prog) u 55 3 i0 (.int .i64 0) Tryz.underlying55 hi hz0 .i64 .i64 l.win l.win (by omega) (Int.le_refl _) (by rw [hz2]; omega) (by omega)
    rw [hz1, Nat.mul_one] at h
    rw [h, ← made_ints]; rfl
  go_enter Tryz.func53, Tryz.ntmps53
  go_wp2
  go_region
  go_wp2
  go_ret
  refine ⟨w.heap.size + 1 + 1, w.heap.size + 1, rfl, by omega, by omega, ⟨?_, ?_, by omega⟩, (((Frm.refl _ _).alloc _).alloc _).alloc _ |>.drew⟩
  · have h := (Blk.new ((w.alloc (.cells #[I l.ch, I l.win, I l.cap] 60)).alloc (.cells (intCells (List.replicate l.win.toNat 0)) 3)) #[I l.ch, I l.win, I l.cap, .slice (some ⟨w.heap.size + 1, 0, none⟩) l.win.toNat l.win.toNat, I 0, I 0] 153).drew
    have e : ((w.alloc (.cells #[I l.ch, I l.win, I l.cap] 60)).alloc (.cells (intCells (List.replicate l.win.toNat 0)) 3)).heap.size = w.heap.size + 1 + 1 := by simp
    rw [e] at h
    simpa [winCells, win0] using h
  · have h := ((Blk.new (w.alloc (.cells #[I l.ch, I l.win, I l.cap] 60)) (intCells (List.replicate l.win.toNat 0)) 3).alloc (.cells #[I l.ch, I l.win, I l.cap, .slice (some ⟨w.heap.size + 1, 0, none⟩) l.win.toNat l.win.toNat, I 0, I 0] 153)).drew
    have e : (w.alloc (.cells #[I l.ch, I l.win, I l.cap] 60)).heap.size = w.heap.size + 1 := by simp
    rw [e] at h
    exact h

/-- a call of a Go function with one argument, as one step of a region that draws -/
theorem step_call1 {P : Program} {ops : Array Oper} {o : Oper} {a : Act} {w : World} {K : Act → World → Prop} {Q : Exit → Act → World → Prop} {E : Prop} (hg : o.guard = none) (f : FuncId) (x : Operand) (t : TypeId)
    (hop : o.op = Op.call { callee := Callee.value (Operand.func f), args := #[x], argTypes := #[t] }) (v : Value) (hx : a.eval x = v) (hcf : ∀ args w, (callFunc f args).run P w = .ok (.enter f args) w) {C : Ending → World → Prop} (hc : Calls P f #[v] w C)
    (hC : ∀ e w', C e w' → ∃ v', e = .returned v' ∧ K (a.put o.dst v') w') : if Region.wanted o (yielded ops a.tmps) = true then Oper.wp P o a w K Q else E := by
  have hw : Region.wanted o (yielded ops a.tmps) = true := by simp [Region.wanted, hg]
  rw [if_pos hw]
  unfold Oper.wp
  have hr : (execOp a.eval o).run P w = .ok (.enter f #[v]) w := by
    have hf : a.eval (Operand.func f) = .func (.func f) #[] #[] := rfl
    simp [execOp, hop, resolve, invoke, hx, hf, Deferred.ofValue, hcf]
  rw [hr, Oper.upon_enter]
  refine hc.mono fun e w'' hh => ?_
  obtain ⟨v', rfl, hk⟩ := hC e w'' hh
  exact hk

theorem call_wNew (args : Array Value) (w : World) : (callFunc 53 args).run Tryz.prog w = .ok (.enter 53 args) w := by
  kernel_rfl

/-- on the way through New -/
structure DNewSt (w wx : World) (b : Nat) (c lock : Int) (a : Option Addr) (cap : Nat) (lims : List Lim) (vc vw : Value) (ws : List Wd) (j : Nat) : Prop where
  keep : Keep w wx
  cfg : Blk wx w.heap.size #[I c, .slice a lims.length cap, I lock] 30
  lt : w.heap.size < b
  head : Blk wx b (gCells 0 ⟨lock, .slice none 0 0⟩ vc vw (.slice none 0 0) 0 (.slice none 0 0) 0) 75
  chs : wx.ownsRow 0 127 5 vc c.toNat ((List.replicate c.toNat gch0).flatMap gchC)
  lie : WsAt wx vw ws
  fits : Fits ws (lims.take j) [] 0
  nw : ∀ x, CsF vc x ∨ WsF vw ws x → w.heap.size < x ∧ x ≠ b
  cv : ∀ x, CsF vc x → ¬ WsF vw ws x

theorem made1 : (madeCells #[I 0, .pointer none, .slice none 0 0, .bool false, I 0] (1 * 5)).toList = (List.replicate 1 gch0).flatMap gchC := by kernel_rfl
theorem made2 : (madeCells #[I 0, .pointer none, .slice none 0 0, .bool false, I 0] (2 * 5)).toList = (List.replicate 2 gch0).flatMap gchC := by kernel_rfl
theorem made3 : (madeCells #[I 0, .pointer none, .slice none 0 0, .bool false, I 0] (3 * 5)).toList = (List.replicate 3 gch0).flatMap gchC := by kernel_rfl
theorem made4 : (madeCells #[I 0, .pointer none, .slice none 0 0, .bool false, I 0] (4 * 5)).toList = (List.replicate 4 gch0).flatMap gchC := by kernel_rfl
theorem made_chs (c : Nat) (h0 : 1 ≤ c) (h1 : c ≤ 4) : (madeCells #[I 0, .pointer none, .slice none 0 0, .bool false, I 0] (c * 5)).toList = (List.replicate c gch0).flatMap gchC := by
  have : c = 1 ∨ c = 2 ∨ c = 3 ∨ c = 4 := by omega
  rcases this with rfl | rfl | rfl | rfl
  · exact made1
  · exact made2
  · exact made3
  · exact made4

theorem DNewSt.start {w w1 : World} {c lock : Int} {a : Option Addr} {cap : Nat} {lims : List Lim} (k1 : Keep (w.alloc (.cells #[I c, .slice a lims.length cap, I lock] 30)) w1) (c0 : 1 ≤ c) (c1 : c ≤ 4) {W : World}
    (hW : W = ((w1.alloc (.cells (madeCells #[I 0, .pointer none, .slice none 0 0, .bool false, I 0] (c.toNat * 5)) 127)).alloc (.cells #[I 0, I lock, .slice (some ⟨w1.heap.size, 0, none⟩) c.toNat c.toNat, .slice none 0 0, .slice none 0 0, I 0, .slice none 0 0, I 0, .slice none 0 0] 75)).drew) :
    DNewSt w W (w1.heap.size + 1) c lock a cap lims (.slice (some ⟨w1.heap.size, 0, none⟩) c.toNat c.toNat) (.slice none 0 0) [] 0 := by
  have bx : Blk w1 w.heap.size #[I c, .slice a lims.length cap, I lock] 30 := k1.blk (Blk.new _ _ _)
  have lx := bx.lt
  have kW : Keep w1 W := by rw [hW]; exact (((Frm.refl _ _).alloc _).alloc _).drew
  have hm := made_chs c.toNat (by omega) (by omega)
  refine ⟨(((Frm.refl _ _).alloc _).trans k1).trans kW, kW.blk bx, by omega, ?_, ?_, ⟨by simp; exact World.ownsRow_nil .., by simp, by simp, by simp⟩, ⟨by simp, by simp⟩, ?_, ?_⟩
  · rw [hW]
    have h := (Blk.new (w1.alloc (.cells (madeCells #[I 0, .pointer none, .slice none 0 0, .bool false, I 0] (c.toNat * 5)) 127)) #[I 0, I lock, .slice (some ⟨w1.heap.size, 0, none⟩) c.toNat c.toNat, .slice none 0 0, .slice none 0 0, I 0, .slice none 0 0, I 0, .slice none 0 0] 75).drew
    have e : (w1.alloc (.cells (madeCells #[I 0, .pointer none, .slice none 0 0, .bool false, I 0] (c.toNat * 5)) 127)).heap.size = w1.heap.size + 1 := by simp
    rw [e] at h
    exact h
  · have h : Blk W w1.heap.size (madeCells #[I 0, .pointer none, .slice none 0 0, .bool false, I 0] (c.toNat * 5)) 127 := by rw [hW]; exact ((Blk.new _ _ _).alloc _).drew
    refine ⟨by rw [flat_len gchC 5 (fun _ => rfl)]; simp, Or.inr ⟨w1.heap.size, c.toNat, _, rfl, Nat.zero_le _, h, Nat.le_refl _, by unfold maxLen; omega, size_madeCells _ _, ?_⟩⟩
    rw [hm, List.take_of_length_le (by rw [flat_len gchC 5 (fun _ => rfl)]; simp)]
  · rintro x (e | e)
    · injection e with e; simp at e; omega
    · rcases e with e | ⟨i, x, hx, -⟩
      · simp [Value.ownBlock] at e
      · simp at hx
  · rintro x - (e | ⟨i, x, hx, -⟩)
    · simp [Value.ownBlock] at e
    · simp at hx

/-- a window more: w2 is behind window.New, w3 behind append -/
theorem DNewSt.more {w wr w2 w3 W : World} {b : Nat} {c lock : Int} {a : Option Addr} {cap : Nat} {lims : List Lim} {vc vw v' : Value} {ws : List Wd} {j wb rb : Nat} {l : Lim} (h : DNewSt w wr b c lock a cap lims vc vw ws j) (hl : lims[j]? = some l) (hlo : l.Ok) (hj : ws.length = j) (k2 : Keep wr w2)
    (hwb : wr.heap.size ≤ wb) (hrb : wr.heap.size ≤ rb) (hw : WinAt w2 wb rb (win0 l)) (hW : Keep w2 W) (hown : w3.ownsRow 0 114 1 v' (j + 1) ((ws.flatMap fun x => [ptr x.1 0]) ++ [ptr wb 0])) (hg : W.grownBy w3 vw.ownBlock) (hnew : v'.ownBlock = vw.ownBlock ∨ (v'.ownBlock = some W.heap.size ∧ W.grownBy w3 none)) :
    DNewSt w (w3.setCell ⟨b, 3, none⟩ v') b c lock a cap lims vc v' (ws ++ [(wb, rb, win0 l)]) (j + 1) := by
  have kk : Keep wr W := k2.trans hW
  have f3 := grown_frm hg
  have hcl := h.cfg.lt
  have hbl := h.head.lt
  have hkl := h.keep.size
  have s1 := k2.size
  have s2 := hW.size
  have wl := hw.own.lt
  have rl := hw.ring.lt
  have f4 : Frm (fun x => x = b) w3 (w3.setCell ⟨b, 3, none⟩ v') := (Frm.refl (fun x => x = b) w3).setCell (p := ⟨b, 3, none⟩) rfl v'
  have vwlt : ∀ x, vw.ownBlock = some x → x < wr.heap.size ∧ w.heap.size < x ∧ x ≠ b := fun x hx => ⟨(h.lie.row.lt x hx).2, h.nw x (Or.inr (Or.inl hx))⟩
  have v'new : ∀ x, v'.ownBlock = some x → (vw.ownBlock = some x) ∨ x = W.heap.size := by
    intro x hx
    rcases hnew with e | ⟨e, -⟩
    · exact Or.inl (by rw [← e]; exact hx)
    · rw [e] at hx; injection hx with hx; exact Or.inr hx.symm
  have wsf : ∀ x, WsF v' (ws ++ [(wb, rb, win0 l)]) x → WsF vw ws x ∨ x = W.heap.size ∨ x = wb ∨ x = rb := by
    rintro x (e | ⟨i, y, hy, e⟩)
    · rcases v'new x e with q | q
      · exact Or.inl (Or.inl q)
      · exact Or.inr (Or.inl q)
    · rw [List.getElem?_append] at hy
      split at hy
      · exact Or.inl (Or.inr ⟨i, y, hy, e⟩)
      · have hy' := List.mem_of_getElem? hy
        simp at hy'; subst hy'
        rcases e with e | e
        · exact Or.inr (Or.inr (Or.inl e))
        · exact Or.inr (Or.inr (Or.inr e))
  have chlt : ∀ x, CsF vc x → x < wr.heap.size := fun x hx => (h.chs.lt x hx).2
  have wslt := h.lie.lt
  -- the old windows, behind all
  have old : ∀ (i : Nat) (x : Wd), ws[i]? = some x → WinAt (w3.setCell ⟨b, 3, none⟩ v') x.1 x.2.1 x.2.2 := by
    intro i x hx
    have o := h.lie.out i x hx
    have n1 := h.nw x.1 (Or.inr (Or.inr ⟨i, x, hx, Or.inl rfl⟩))
    have n2 := h.nw x.2.1 (Or.inr (Or.inr ⟨i, x, hx, Or.inr rfl⟩))
    exact (((h.lie.each i x hx).frm kk (fun e => e) (fun e => e)).frm f3 o.1 o.2).frm f4 n1.2 n2.2
  have newW : WinAt (w3.setCell ⟨b, 3, none⟩ v') wb rb (win0 l) := by
    refine ((hw.frm hW (fun e => e) (fun e => e)).frm f3 ?_ ?_).frm f4 ?_ ?_
    · intro e; have := (vwlt wb e).1; omega
    · intro e; have := (vwlt rb e).1; omega
    · intro e; omega
    · intro e; omega
  refine ⟨(h.keep.trans kk).trans2 (f3) (fun x hx e => by have := (vwlt x e).2.1; omega) |>.setNew (p := ⟨b, 3, none⟩) (by show w.heap.size ≤ b; have := h.lt; omega) _, ?_, h.lt, ?_, ?_, ?_, ?_, ?_, ?_⟩
  · refine (((kk.blk h.cfg).frm f3 ?_).frm f4 ?_)
    · intro e; have := (vwlt _ e).2.1; omega
    · intro e; have := h.lt; omega
  · have h3 : Blk w3 b (gCells 0 ⟨lock, .slice none 0 0⟩ vc vw (.slice none 0 0) 0 (.slice none 0 0) 0) 75 := (kk.blk h.head).frm f3 fun e => (vwlt _ e).2.2 rfl
    have := h3.set 3 v'
    simpa [gCells] using this
  · refine row_frm (row_frm (row_frm h.chs kk fun _ _ e => e) f3 fun x hx e => h.cv x hx (Or.inl e)) f4 fun x hx e => (h.nw x (Or.inl hx)).2 e
  · refine ⟨?_, ?_, ?_, ?_⟩
    · have e1 : (ws ++ [(wb, rb, win0 l)]).length = j + 1 := by simp [hj]
      rw [e1, List.flatMap_append]
      refine row_frm (by simpa using hown) f4 fun x hx e => ?_
      rcases v'new x hx with q | q
      · exact (vwlt x q).2.2 e
      · omega
    · intro i x hx
      rw [List.getElem?_append] at hx
      split at hx
      · exact old i x hx
      · have hx' := List.mem_of_getElem? hx
        simp at hx'; subst hx'
        exact newW
    · have key : ∀ (i i' : Nat) (x y : Wd), (ws ++ [(wb, rb, win0 l)])[i]? = some x → (ws ++ [(wb, rb, win0 l)])[i']? = some y → i < i' → x.1 ≠ y.1 ∧ x.1 ≠ y.2.1 ∧ x.2.1 ≠ y.1 ∧ x.2.1 ≠ y.2.1 := by
        intro i i' x y hx hy hlt
        have li' : i' < (ws ++ [(wb, rb, win0 l)]).length := (List.getElem?_eq_some_iff.1 hy).1
        simp at li'
        have li : i < ws.length := by omega
        rw [List.getElem?_append_left li] at hx
        rw [List.getElem?_append] at hy
        split at hy
        · exact h.lie.dis i i' x y hx hy (by omega)
        · have hy' := List.mem_of_getElem? hy
          simp at hy'; subst hy'
          have a1 := wslt x.1 (Or.inr ⟨i, x, hx, Or.inl rfl⟩)
          have a2 := wslt x.2.1 (Or.inr ⟨i, x, hx, Or.inr rfl⟩)
          refine ⟨?_, ?_, ?_, ?_⟩ <;> simp <;> omega
      intro i i' x y hx hy hne
      rcases Nat.lt_or_gt_of_ne hne with q | q
      · exact key i i' x y hx hy q
      · obtain ⟨q1, q2, q3, q4⟩ := key i' i y x hy hx q
        exact ⟨q1.symm, q3.symm, q2.symm, q4.symm⟩
    · intro i x hx
      rw [List.getElem?_append] at hx
      split at hx
      · have o := h.lie.out i x hx
        have a1 := wslt x.1 (Or.inr ⟨i, x, hx, Or.inl rfl⟩)
        have a2 := wslt x.2.1 (Or.inr ⟨i, x, hx, Or.inr rfl⟩)
        refine ⟨fun e => ?_, fun e => ?_⟩
        · rcases v'new _ e with q | q
          · exact o.1 q
          · omega
        · rcases v'new _ e with q | q
          · exact o.2 q
          · omega
      · have hx' := List.mem_of_getElem? hx
        simp at hx'; subst hx'
        refine ⟨fun e => ?_, fun e => ?_⟩
        · rcases v'new _ e with q | q
          · have := (vwlt _ q).1; simp at this; omega
          · simp at q; omega
        · rcases v'new _ e with q | q
          · have := (vwlt _ q).1; simp at this; omega
          · simp at q; omega
  · have ht : lims.take (j + 1) = lims.take j ++ [l] := take_snoc' hl
    have hl1 := h.fits.1
    rw [ht]
    refine ⟨by simp [hl1], ?_⟩
    intro i x m hx hm
    rw [List.getElem?_append] at hx hm
    rw [← hl1] at hm
    split at hx
    · rename_i q
      rw [if_pos q] at hm
      exact h.fits.2 i x m hx hm
    · rename_i q
      rw [if_neg q] at hm
      have hx' := List.mem_of_getElem? hx
      have hm' := List.mem_of_getElem? hm
      simp at hx' hm'; subst hx'; subst hm'
      exact win0_fit m hlo
  · rintro x (e | e)
    · exact h.nw x (Or.inl e)
    · rcases wsf x e with q | q | q | q
      · exact h.nw x (Or.inr q)
      · omega
      · omega
      · omega
  · intro x hx e
    have := chlt x hx
    rcases wsf x e with q | q | q | q
    · exact h.cv x hx q
    · omega
    · omega
    · omega

set_option maxRecDepth 100000 in
set_option maxHeartbeats 1600000 in
theorem New_any (c : Int) (a : Option Addr) (lims : List Lim) (cap : Nat) (lock : Int) (w : World) (hs : SeeL w a lims) (hnone : a = none → lims.length = 0 ∧ cap = 0) (hn : lims.length ≤ 5864062014634) :
    Calls Tryz.prog 25 #[cfgV c a lims.length cap lock] w fun e w' => Keep w w' ∧
      ((fineB c lims lock = false ∧ e = .returned (.tuple #[.pointer none, I 1])) ∨
       (fineB c lims lock = true ∧ ∃ b vc vw ws, e = .returned (.tuple #[ptr b 0, I 0]) ∧ DNewSt w w' b c lock a cap lims vc vw ws lims.length)) := by
  have cf := fun (W : World) (k : Keep w W) => config_any c a lims cap lock W (hs.frm k (fun _ _ _ e => e)) hn
  have CF := hide cf
  have HS := hide (And.intro hs hnone)
  clear cf hs hnone
  cases hf : fineB c lims lock with
  | false =>
    rw [hf] at CF
    go_enter Tryz.func25, Tryz.ntmps25
    go_wp2_with fail
    refine (CF.out _ (by exact (Frm.refl _ _).alloc _)).mono ?_
    rintro e w1 ⟨rfl, k1⟩
    go_wp2_with fail
    go_ret2
    exact ⟨((Frm.refl _ _).alloc _).trans k1, Or.inl ⟨trivial, rfl⟩⟩
  | true =>
    rw [hf] at CF
    have hcb : (1 ≤ c ∧ c ≤ 4) ∧ lims.length ≤ 6 ∧ 0 ≤ lock ∧ lock ≤ 400 := by
      simp [fineB, badHead] at hf
      omega
    obtain ⟨⟨c0, c1⟩, hn6, l0, l1⟩ := hcb
    have hok : ∀ l ∈ lims, l.Ok := by
      intro l hl
      simp only [fineB, Bool.and_eq_true, List.all_eq_true] at hf
      have h1 := hf.2 l hl
      have hp : (2 : Int) ^ c.toNat ≤ 16 := by
        have : c = 1 ∨ c = 2 ∨ c = 3 ∨ c = 4 := by omega
        rcases this with rfl | rfl | rfl | rfl <;> decide
      simp [badLim] at h1
      exact ⟨by omega, by omega, by omega, by omega, by omega, by omega⟩
    obtain ⟨iC, hiC, hzC0, hzC1, hzC2⟩ := info_parts infoCh
    have hmk : ∀ u : World, (Instr.makeSlice 67 (.int .i64 c) (.int .i64 c)).run Tryz.prog u =
        .ok (.slice (some ⟨u.heap.size, 0, none⟩) c.toNat c.toNat) (u.alloc (.cells (madeCells #[I 0, .pointer none, .slice none 0 0, .bool false, I 0] (c.toNat * 5)) 127)) := fun u => by
      have h := run_make (P := Tryz.prog) u 67 127 iC _ Tryz.underlying67 hiC hzC0 .i64 .i64 c c (by omega) (Int.le_refl _) (by rw [hzC2]; omega) (by omega)
      rw [hzC1] at h
      rw [h]; rfl
    go_enter Tryz.func25, Tryz.ntmps25
    go_wp2_with fail
    refine (CF.out _ (by exact (Frm.refl _ _).alloc _)).mono ?_
    rintro e w1 ⟨rfl, k1⟩
    have bx : Blk w1 w.heap.size #[I c, .slice a lims.length cap, I lock] 30 := k1.blk (Blk.new _ _ _)
    have b0 : w1.cell? ⟨w.heap.size, 0, none⟩ = some (I c) := by rw [bx.cell]; rfl
    have b1 : w1.cell? ⟨w.heap.size, 1, none⟩ = some (.slice a lims.length cap) := by rw [bx.cell]; rfl
    have b2 : w1.cell? ⟨w.heap.size, 2, none⟩ = some (I lock) := by rw [bx.cell]; rfl
    have lx := bx.lt
    have K1 := hide (And.intro k1 bx)
    have HF := hide (And.intro hf hok)
    clear k1 bx hf hok
    go_wp2_with fail
    go_region
    have st0 := DNewSt.start (lock := lock) (K1.out).1 c0 c1 rfl
    have ST0 := hide st0
    clear st0 b0 b1 b2 lx K1 CF hmk
    generalize w1.heap.size + 1 = b at *
    generalize Value.slice (some ⟨w1.heap.size, 0, none⟩) c.toNat c.toNat = vc at *
    generalize ((w1.alloc (.cells (madeCells #[I 0, .pointer none, .slice none 0 0, .bool false, I 0] (c.toNat * 5)) 127)).alloc (.cells #[I 0, I lock, vc, .slice none 0 0, .slice none 0 0, I 0, .slice none 0 0, I 0, .slice none 0 0] 75)).drew = wx at *
    have b1 : wx.cell? ⟨w.heap.size, 1, none⟩ = some (.slice a lims.length cap) := by rw [(ST0.out).cfg.cell]; rfl
    obtain ⟨iW, hiW, hzW0, hzW1, hzW2⟩ := info_parts infoPW
    go_wp2_with fail
    go_loopg [6, 20] lims.length (fun q _ i wr => ∃ (j : Nat) (vw : Value) (ws : List Wd), q + j = lims.length ∧ i = I j ∧ Hid (DNewSt w wr b c lock a cap lims vc vw ws j))
    case atStart => exact ⟨0, _, [], by omega, rfl, ST0.out⟩
    case round =>
      obtain ⟨j, vw, ws, hq, rfl, hst⟩ := hrel
      have hs := hst.out
      by_cases hj : j < lims.length
      · obtain ⟨l, hl⟩ : ∃ l, lims[j]? = some l := ⟨_, List.getElem?_eq_getElem hj⟩
        have hsee := (HS.out).1.frm hs.keep (fun _ _ _ e => e)
        rcases hsee with e | ⟨g, o, rfl, hg, hcells⟩
        · rw [e] at hj; simp at hj
        obtain ⟨d0, d1, d2⟩ := hcells j l hl
        obtain ⟨av, cpv, hvw⟩ := row_slice hs.lie.row
        subst hvw
        have hwl : ws.length = j := by rw [hs.fits.1]; simp; omega
        have c3 : wr.cell? ⟨b, 3, none⟩ = some (.slice av j cpv) := by rw [hs.head.cell, ← hwl]; rfl
        have lb := hs.head.lt
        have hlo := (HF.out).2 l (List.mem_of_getElem? hl)
        have NW := hide (fun W => winNew_any l W hlo.w0 hlo.w1)
        have HS2 := hide (And.intro hs (And.intro hq (And.intro hl (And.intro hlo hwl))))
        clear hs hst hq hl hlo hcells hwl
        go_wp2_with fail
        go_region_law (first | (refine step_call1 rfl 53 (.tmp 29) 60 rfl (.agg #[I l.ch, I l.win, I l.cap]) (by simp [Act.eval]) call_wNew (NW.out _) ?_; rintro e w2 ⟨wb, rb, rfl, x1, x2, x3, x4⟩; refine ⟨_, rfl, ?_⟩; have kx := (((Frm.refl (fun _ => False) wr).alloc (.cells #[I l.ch, I l.win, I l.cap] 60)).drew); have kk : Keep wr w2 := kx.trans x4; have y1 : wr.heap.size ≤ wb := Nat.le_trans kx.size x1; have y2 : wr.heap.size ≤ rb := Nat.le_trans kx.size x2; have g3 : w2.cell? ⟨b, 3, none⟩ = some (.slice av j cpv) := kk.cell (p := ⟨b, 3, none⟩) c3 (fun e => e); have lb2 : b < w2.heap.size := Nat.lt_of_lt_of_le lb kk.size; have XX := hide (And.intro kk (And.intro y1 (And.intro y2 x3))); clear kx kk y1 y2 x1 x2 x3 x4) | (refine step_append_row rfl (.tmp 28) (.tmp 31) 68 rfl 114 iW (.pointer none) 1 8 Tryz.underlying68 hiW hzW0 hzW1 hzW2 rfl (by decide) (.slice av j cpv) j (ws.flatMap fun x => [ptr x.1 0]) (by simp [Act.eval]) (by have hr := (HS2.out).1.lie.row; rw [(HS2.out).2.2.2.2] at hr; exact row_frm (row_frm hr (XX.out).1 (fun _ _ e => e)) (show Keep _ _ from (Frm.refl _ _).alloc _) (fun _ _ e => e)) ⟨w2.heap.size, 0, none⟩ 1 1 [ptr wb 0] (by simp [Act.eval]) rfl (by exact cell_news _ [ptr wb 0] _ _ rfl) (by intro u hu; simp at hu; subst hu; rfl) (by unfold maxLen; omega) (by omega) ?_; intro v5 w5 hown5 hgr5 hnew5; obtain ⟨a5, cp5, hv5⟩ := row_slice hown5; subst hv5; have bb5 := ((show Keep _ _ from (Frm.refl _ _).alloc _).blk ((XX.out).1.blk (HS2.out).1.head)).frm (grown_frm hgr5) (fun e => ((HS2.out).1.nw b (Or.inr (Or.inl (by rw [(HS2.out).2.2.2.2]; exact e)))).2 rfl); have c53 : w5.cell? ⟨b, 3, none⟩ = some (.slice av ws.length cpv) := (by { rw [bb5.cell]; rfl }); have f53 := bb5.frozen 3; have FIVE := hide (And.intro hown5 (And.intro hgr5 hnew5)); clear hown5 hgr5 hnew5 bb5))
        all_goals
          (go_wp2_with fail
           go_roundg (gk - 1)
           case measure =>
             have := (HS2.out).2.1
             omega
           case rel =>
             obtain ⟨h1, h2, h3, h4, h5⟩ := HS2.out
             subst h5
             exact ⟨ws.length + 1, _, _, by omega, by simp, DNewSt.more h1 h3 h4 rfl (XX.out).1 (XX.out).2.1 (XX.out).2.2.1 (XX.out).2.2.2 ((Frm.refl _ _).alloc _) (FIVE.out).1 (FIVE.out).2.1 (FIVE.out).2.2⟩)
      · have hje : j = lims.length := by omega
        have HS2 := hide (And.intro hs hje)
        clear hs hst hq hje
        go_wp2_with fail
        go_ret2
        obtain ⟨hs, rfl⟩ := HS2.out
        exact ⟨hs.keep, Or.inr ⟨trivial, b, vc, vw, ws, rfl, hs⟩⟩

end Go.Proofs.YtpilmkipbbengaaGreatDoor
