/- driplaw: runs. -/
import Derived.Test.YtpilmkipbbengaaGreatDoorWorld
namespace Go.Proofs.YtpilmkipbbengaaGreatDoor
open Go.RowKit

theorem runR_ok {R : RSt} (ok : R.Ok) (hf : R.Full) (t : Int) : (runR R t).Ok ∧ (runR R t).Full := by
  unfold runR
  split
  · rename_i h
    unfold runErr at h
    split at h
    · omega
    · split at h
      · omega
      · exact rticks_ok ok hf _ (by omega)
  · exact ⟨ok, hf⟩

theorem runDs_len {R : RSt} (ok : R.Ok) (hf : R.Full) (t : Int) : (runDs R t).length ≤ 2000 := by
  unfold runDs
  split
  · rename_i h
    have h2 := runR_ok ok hf t
    unfold runR at h2
    rw [if_pos h] at h2
    have h3 := h2.1.nd
    simp; omega
  · simp

theorem WSt.owned {pa : Rep} {fN fB fR fO fW : FuncId} {B : Nat} {w w' : World} {wb : Nat} {vp vd vl vm : Value} {ds : List Value} {ms : List Int} {ls : List Value} {ps : List PR} (P : Pumpy fN fB fR fO fW pa) (h : WSt pa B w wb vp vd vl vm ds ms ls ps) {l : Value}
    (o : OwnEnd w wb vp vd vl vm ds ms ls l w') (h1 : ∀ x, l.ownBlock = some x → B ≤ x ∧ ¬ LF wb vp vd vl vm ds ls x) (h2 : ∀ (i : Nat) (p : PR), ps[i]? = some p → ∀ x, l.ownBlock = some x → ¬ p.F x) :
    ∃ vd' vm' ds' ms', WSt pa B w' wb vp vd' vl vm' ds' ms' ls ps ∧ ds'.length = ds.length + 4 ∧ Frm (fun x => B ≤ x) w w' := by
  obtain ⟨vd', vm', v1, v2, v3, m, hL, hS, hf, hF⟩ := o
  have hb : ∀ x, (x = wb ∨ vd.ownBlock = some x ∨ vm.ownBlock = some x ∨ l.ownBlock = some x) → B ≤ x := by
    rintro x (e | e | e | e)
    · exact h.bl x (Or.inl e)
    · exact h.bl x (Or.inr (Or.inr (Or.inl e)))
    · exact h.bl x (Or.inr (Or.inr (Or.inr (Or.inr (Or.inl e)))))
    · exact (h1 x e).1
  have hn : ∀ (i : Nat) (p : PR), ps[i]? = some p → ∀ x, p.F x → ¬ (x = wb ∨ vd.ownBlock = some x ∨ vm.ownBlock = some x ∨ l.ownBlock = some x) := by
    rintro i p hp x hx (e | e | e | e)
    · exact h.off i p hp x hx (Or.inl e)
    · exact h.off i p hp x hx (Or.inr (Or.inr (Or.inl e)))
    · exact h.off i p hp x hx (Or.inr (Or.inr (Or.inr (Or.inr (Or.inl e)))))
    · exact h2 i p hp x e hx
  refine ⟨vd', vm', _, _, ⟨hL, hS, ?_, fun i p hp => P.frm (h.rx i p hp) hf (fun x hx => hn i p hp x (Or.inl hx)), fun i p hp => ref_pumpy.frm (h.ry i p hp) hf (fun x hx => hn i p hp x (Or.inr hx)), h.ok, ?_, h.xy, h.sep, ?_, h.bp, Nat.le_trans h.bB hf.size⟩, by simp, hf.mono (fun x _ e => hb x e)⟩
  · refine row_frm h.pr hf ?_
    rintro g hg (e | e | e | e)
    · exact h.S.bp (by rw [hg, e])
    · exact h.S.pd g hg e
    · exact h.S.pm g hg e
    · exact (h1 g e).2 (Or.inr (Or.inl hg))
  · intro i p hp x hx hL'
    rcases hF x hL' with e | e | e
    · exact h.off i p hp x hx e
    · exact h2 i p hp x e hx
    · have := WSt.ltF P h hp x hx; omega
  · intro x hx
    rcases hF x hx with e | e | e
    · exact h.bl x e
    · exact (h1 x e).1
    · exact Nat.le_trans h.bB e

/-- what a step leaves -/
def StepEnd (pa : Rep) (B : Nat) (w : World) (wb : Nat) (nd nl np : Nat) (_ps : List PR) (w' : World) : Prop :=
  ∃ vp vd vl vm ds ms ls ps', WSt pa B w' wb vp vd vl vm ds ms ls ps' ∧ ds.length ≤ nd + 4 ∧ ls.length ≤ nl + 1 ∧ ps'.length ≤ np + 1 ∧ (∀ (j : Nat) (q : PR), ps'[j]? = some q → q.rx = q.ry) ∧ Frm (fun x => B ≤ x) w w'

set_option maxRecDepth 100000 in
set_option maxHeartbeats 1600000 in
theorem runs_any (pa : Rep) (P : Pumpy 25 32 46 14 78 pa) (B : Nat) (wb : Nat) (vp vd vl vm : Value) (ds : List Value) (ms : List Int) (ls : List Value) (ps : List PR) (i : Nat) (p : PR) (t : Int) (w : World)
    (h : WSt pa B w wb vp vd vl vm ds ms ls ps) (hp : ps[i]? = some p) (heq : ∀ (j : Nat) (q : PR), ps[j]? = some q → q.rx = q.ry) (hd : ds.length ≤ 5800000000000) (hl : ls.length ≤ 5800000000000) :
    Calls Tryz.prog 40 #[.pointer (some ⟨wb, 0, none⟩), .agg #[.pointer (some ⟨p.x, 0, none⟩), .pointer (some ⟨p.y, 0, none⟩)], I t] w fun r w' => r = .returned (.bool true) ∧ StepEnd pa B w wb ds.length ls.length ps.length ps w' := by
  obtain ⟨ok1, ok2, ok3, ok4⟩ := h.ok i p hp
  have hR := heq i p hp
  have cx := fun (W : World) (k : Keep w W) => P.run t W p.fx p.x p.rx ((WSt.keep P h k).rx i p hp) ok1 ok2
  have CX := hide cx
  have H := hide (And.intro h (And.intro hp heq))
  have OK := hide (And.intro ok1 (And.intro ok2 hR))
  clear h cx ok1 ok2 ok3 ok4 hR hp heq
  go_enter Tryz.func40, Tryz.ntmps40
  go_wp2_with fail
  refine (CX.out _ (by exact (Frm.refl _ _).alloc _)).mono ?_
  rintro e w2 ⟨vout, rfl, hrow, hfr, F', hpa, hF, hv⟩
  obtain ⟨av, cv, hvv⟩ := row_slice hrow
  subst hvv
  have k1 : Keep w (w.alloc (.cells #[.pointer (some ⟨p.x, 0, none⟩), .pointer (some ⟨p.y, 0, none⟩)] 92)) := (Frm.refl _ _).alloc _
  have h1 := WSt.keep P (H.out).1 k1
  have hlt := WSt.ltF P (H.out).1 (H.out).2.1
  have bx : Blk w2 w.heap.size #[.pointer (some ⟨p.x, 0, none⟩), .pointer (some ⟨p.y, 0, none⟩)] 92 := (Blk.new _ _ _).frm hfr (fun e => by have := hlt _ (Or.inl e); omega)
  have b0 : w2.cell? ⟨w.heap.size, 0, none⟩ = some (.pointer (some ⟨p.x, 0, none⟩)) := by rw [bx.cell]; rfl
  have b1 : w2.cell? ⟨w.heap.size, 1, none⟩ = some (.pointer (some ⟨p.y, 0, none⟩)) := by rw [bx.cell]; rfl
  have h2 := WSt.moveX P h1 (H.out).2.1 hfr hpa hF (runR_ok (OK.out).1 (OK.out).2.1 t)
  have hp2 : (ps.set i { p with fx := F', rx := runR p.rx t })[i]? = some { p with fx := F', rx := runR p.rx t } := by
    have := (List.getElem?_eq_some_iff.1 (H.out).2.1).1
    simp [this]
  obtain ⟨o1, o2, o3, o4⟩ := h2.ok i _ hp2
  have hry : ra w2 p.fy p.y p.ry := h2.ry i { p with fx := F', rx := runR p.rx t } hp2
  have cy := ref_pumpy.run t w2 p.fy p.y p.ry hry o3 o4
  have CY := hide cy
  have fB : Frm (fun x => B ≤ x) w w2 := (k1.mono (fun _ _ e => e.elim)).trans (hfr.mono (fun x _ e => (H.out).1.bp i p (H.out).2.1 x (Or.inl e)))
  have FB := hide fB
  have ONE := hide (And.intro h2 (And.intro hp2 (And.intro hrow (And.intro hv (And.intro o3 o4)))))
  clear fB
  clear cy hry h2 hp2 hrow hv o1 o2 o3 o4 bx h1 hfr hpa hF k1 hlt
  go_wp2_with fail
  refine (CY.out).mono ?_
  rintro e w3 ⟨vo2, rfl, hrow2, hfr2, F2, hra, hF2, hv2⟩
  obtain ⟨av2, cv2, hvv2⟩ := row_slice hrow2
  subst hvv2
  obtain ⟨h2, hp2, hrow, hv, o3, o4⟩ := ONE.out
  have h3 := WSt.moveY P h2 hp2 hfr2 hra hF2 (runR_ok o3 o4 t)
  have hlt0 := WSt.ltF P (H.out).1 (H.out).2.1
  have hrow3 := row_frm hrow hfr2 (fun g hg e => by have := (hv g hg).1; have := hlt0 g (Or.inr e); simp at *; omega)
  have heqd : runDs p.rx t = runDs p.ry t := by rw [(OK.out).2.2]
  have herr : runErr p.rx t = runErr p.ry t := by rw [(OK.out).2.2]
  have hnd : (runDs p.rx t).length ≤ 2000 := runDs_len (OK.out).1 (OK.out).2.1 t
  have csd := sameDoses_any _ _ (runDs p.rx t) (runDs p.ry t) w3 hrow3 hrow2 heqd (by omega)
  have clk := fun (W : World) (k : Keep w3 W) => looks_any wb vp vd vl vm ds ms ls W (h3.L.keep k) (by omega) (by omega)
  have hlf : ∀ x, (Value.slice av (runDs p.rx t).length cv).ownBlock = some x → ¬ LF wb vp vd vl vm ds ls x := fun x hx hL => by
    have := (hv x hx).1; have := (H.out).1.ltL x hL; simp at *; omega
  have cow := fun (W : World) (k : Keep w3 W) => own_any wb vp vd vl vm ds ms ls (.slice av (runDs p.rx t).length cv) (runDs p.rx t).length _ W (h3.L.keep k) h3.S (row_frm hrow3 k (fun _ _ e => e)) hlf hnd (by omega) (fun x hx => Nat.lt_of_lt_of_le (h3.pr.lt x hx).2 k.size)
  have CSD := hide csd
  have CLK := hide clk
  have COW := hide cow
  have TWO := hide (And.intro h3 (And.intro hrow3 (And.intro hlf (And.intro hv (And.intro hfr2 hF2)))))
  rw [← herr]
  generalize runErr p.rx t = er at *
  have hee : (er == er) = true := by simp
  clear csd clk cow h3 hrow3 hlf hfr2 hF2 hra hv2 hrow2 heqd herr hnd h2 hp2 hrow hv o3 o4 hlt0
  go_wp2_with fail
  refine (CSD.out).mono ?_
  rintro e w4 ⟨rfl, k4⟩
  go_wp2_with fail
  refine (CLK.out w4 k4).mono ?_
  rintro e w5 ⟨rfl, k5⟩
  have k45 : Keep w3 w5 := k4.trans k5
  go_wp2_with fail
  refine (COW.out w5 k45).mono ?_
  rintro e w6 ⟨rfl, how⟩
  go_wp2_with (go_at_call 72; refine (num_any _ _).mono ?_; rintro e w7 ⟨rfl, hw7⟩; subst hw7)
  go_ret
  obtain ⟨h3, hrow3, hlf, hv, hfr2, hF2⟩ := TWO.out
  obtain ⟨h2, hp2, hrow, -, -, -⟩ := ONE.out
  refine ⟨rfl, ?_⟩
  have hbB := (H.out).1.bB
  have hi : i < ps.length := (List.getElem?_eq_some_iff.1 (H.out).2.1).1
  obtain ⟨vd', vm', ds', ms', hw, hdl, hfr6⟩ := WSt.owned P (WSt.keep P h3 k45) how (fun x hx => ⟨by have := (hv x hx).1; simp at this; omega, hlf x hx⟩) (fun j q hq x hx hFx => by
    have hx1 := (hv x hx).1
    simp at hx1
    rcases set_get hp2 hq with ⟨rfl, rfl⟩ | ⟨hne, hq'⟩
    · rcases hFx with e | e
      · exact (hv x hx).2 e
      · rcases hF2 x e with e' | e'
        · have := WSt.ltF P (H.out).1 (H.out).2.1 x (Or.inr e'); omega
        · have := (hrow.lt x hx).2; omega
    · rcases set_get (H.out).2.1 hq' with ⟨e', -⟩ | ⟨-, hq2⟩
      · exact hne e'
      · have := WSt.ltF P (H.out).1 hq2 x hFx; omega)
  refine ⟨vp, vd', vl, vm', ds', ms', ls, _, hw, by omega, by omega, by simp, ?_, ?_⟩
  · intro j q hq
    rcases set_get hp2 hq with ⟨rfl, rfl⟩ | ⟨hne, hq'⟩
    · show runR p.rx t = runR p.ry t
      rw [(OK.out).2.2]
    · rcases set_get (H.out).2.1 hq' with ⟨e', -⟩ | ⟨-, hq2⟩
      · exact absurd e' hne
      · exact (H.out).2.2 j q hq2
  · have f2 := hfr2.mono (T := fun x => B ≤ x) (fun x _ e => (H.out).1.bp i p (H.out).2.1 x (Or.inr e))
    exact ((((FB.out).trans f2).trans2 k45 (fun _ _ e => e.elim))).trans hfr6

end Go.Proofs.YtpilmkipbbengaaGreatDoor
