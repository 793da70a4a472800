/- driplaw: the World with its pumps; runs. -/
import Derived.Test.YtpilmkipbbengaaGreatDoorLwM
namespace Go.Proofs.YtpilmkipbbengaaGreatDoor
open Go.RowKit

/-- a pair of pumps -/
structure PR where
  x : Nat
  y : Nat
  fx : Nat → Prop
  fy : Nat → Prop
  rx : RSt
  ry : RSt
def pairC (p : PR) : List Value := [.pointer (some ⟨p.x, 0, none⟩), .pointer (some ⟨p.y, 0, none⟩)]
def PR.F (p : PR) : Nat → Prop := fun x => p.fx x ∨ p.fy x

structure WSt (pa : Rep) (B : Nat) (w : World) (wb : Nat) (vp vd vl vm : Value) (ds : List Value) (ms : List Int) (ls : List Value) (ps : List PR) : Prop where
  L : Lists w wb vp vd vl vm ds ms ls
  S : LSep wb vp vd vl vm ds ls
  pr : w.ownsRow 0 92 2 vp ps.length (ps.flatMap pairC)
  rx : ∀ (i : Nat) (p : PR), ps[i]? = some p → pa w p.fx p.x p.rx
  ry : ∀ (i : Nat) (p : PR), ps[i]? = some p → ra w p.fy p.y p.ry
  ok : ∀ (i : Nat) (p : PR), ps[i]? = some p → p.rx.Ok ∧ p.rx.Full ∧ p.ry.Ok ∧ p.ry.Full
  off : ∀ (i : Nat) (p : PR), ps[i]? = some p → ∀ x, p.F x → ¬ LF wb vp vd vl vm ds ls x
  xy : ∀ (i : Nat) (p : PR), ps[i]? = some p → ∀ x, p.fx x → ¬ p.fy x
  sep : ∀ (i j : Nat) (p q : PR), ps[i]? = some p → ps[j]? = some q → i ≠ j → ∀ x, p.F x → ¬ q.F x
  bl : ∀ x, LF wb vp vd vl vm ds ls x → B ≤ x
  bp : ∀ (i : Nat) (p : PR), ps[i]? = some p → ∀ x, p.F x → B ≤ x
  bB : B ≤ w.heap.size

section
variable {pa : Rep} {fN fB fR fO fW : FuncId} {B : Nat} {w w' : World} {wb : Nat} {vp vd vl vm : Value} {ds : List Value} {ms : List Int} {ls : List Value} {ps : List PR}
theorem WSt.ltF (P : Pumpy fN fB fR fO fW pa) (h : WSt pa B w wb vp vd vl vm ds ms ls ps) {i : Nat} {p : PR} (hp : ps[i]? = some p) : ∀ x, p.F x → x < w.heap.size := by
  rintro x (e | e)
  · exact P.lt (h.rx i p hp) x e
  · exact ref_pumpy.lt (h.ry i p hp) x e
theorem WSt.ltL (h : WSt pa B w wb vp vd vl vm ds ms ls ps) : ∀ x, LF wb vp vd vl vm ds ls x → x < w.heap.size := h.L.lt (fun x hx => (h.pr.lt x hx).2)

theorem WSt.frm {S : Nat → Prop} (P : Pumpy fN fB fR fO fW pa) (h : WSt pa B w wb vp vd vl vm ds ms ls ps) (f : Frm S w w') (h1 : ∀ x, LF wb vp vd vl vm ds ls x → ¬ S x) (h2 : ∀ (i : Nat) (p : PR), ps[i]? = some p → ∀ x, p.F x → ¬ S x) : WSt pa B w' wb vp vd vl vm ds ms ls ps :=
  ⟨h.L.frm f h1, h.S, row_frm h.pr f (fun g hg => h1 g (Or.inr (Or.inl hg))), fun i p hp => P.frm (h.rx i p hp) f (fun x hx => h2 i p hp x (Or.inl hx)), fun i p hp => ref_pumpy.frm (h.ry i p hp) f (fun x hx => h2 i p hp x (Or.inr hx)), h.ok, h.off, h.xy, h.sep, h.bl, h.bp, Nat.le_trans h.bB f.size⟩

theorem WSt.keep (P : Pumpy fN fB fR fO fW pa) (h : WSt pa B w wb vp vd vl vm ds ms ls ps) (k : Keep w w') : WSt pa B w' wb vp vd vl vm ds ms ls ps := WSt.frm P h k (fun _ _ e => e) (fun _ _ _ _ _ e => e)

theorem set_get {ps : List PR} {i j : Nat} {p q r : PR} (_hp : ps[i]? = some p) (h : (ps.set i q)[j]? = some r) : (j = i ∧ r = q) ∨ (j ≠ i ∧ ps[j]? = some r) := by
  rw [List.getElem?_set] at h
  split at h
  · rename_i e; subst e
    split at h
    · injection h with h; exact Or.inl ⟨rfl, h.symm⟩
    · cases h
  · rename_i e; exact Or.inr ⟨fun e' => e e'.symm, h⟩

theorem pairs_set {ps : List PR} {i : Nat} {p q : PR} (hp : ps[i]? = some p) (hx : q.x = p.x) (hy : q.y = p.y) : (ps.set i q).flatMap pairC = ps.flatMap pairC := by
  have h1 : ∀ r : PR, pairC r = (fun (a : Nat × Nat) => [Value.pointer (some ⟨a.1, 0, none⟩), .pointer (some ⟨a.2, 0, none⟩)]) (r.x, r.y) := fun _ => rfl
  have h2 : ∀ l : List PR, l.flatMap pairC = (l.map fun r => (r.x, r.y)).flatMap fun (a : Nat × Nat) => [Value.pointer (some ⟨a.1, 0, none⟩), .pointer (some ⟨a.2, 0, none⟩)] := fun l => by
    rw [List.flatMap_map]; rfl
  rw [h2, h2, List.map_set]
  congr 1
  apply List.ext_getElem?
  intro k
  rw [List.getElem?_set]
  split
  · rename_i e; subst e
    have hl : i < ps.length := (List.getElem?_eq_some_iff.1 hp).1
    have hv : ps[i] = p := (List.getElem?_eq_some_iff.1 hp).2
    simp [hl, hv, hx, hy]
  · rfl

/-- the pump x of a pair has moved -/
theorem WSt.moveX (P : Pumpy fN fB fR fO fW pa) (h : WSt pa B w wb vp vd vl vm ds ms ls ps) {i : Nat} {p : PR} (hp : ps[i]? = some p) {R' : RSt} {F' : Nat → Prop} (f : Frm p.fx w w') (hr : pa w' F' p.x R') (hF : ∀ x, F' x → p.fx x ∨ w.heap.size ≤ x) (ok : R'.Ok ∧ R'.Full) :
    WSt pa B w' wb vp vd vl vm ds ms ls (ps.set i { p with fx := F', rx := R' }) := by
  have hlt := fun (j : Nat) (q : PR) (hq : ps[j]? = some q) => WSt.ltF P h hq
  have hLt := h.ltL
  have hnew : ∀ x, F' x → x < w.heap.size → p.fx x := fun x hx hl => by rcases hF x hx with e | e; exact e; omega
  refine ⟨h.L.frm f (fun x hx e => h.off i p hp x (Or.inl e) hx), h.S, ?_, ?_, ?_, ?_, ?_, ?_, ?_, h.bl, ?_, Nat.le_trans h.bB f.size⟩
  · rw [pairs_set (q := { p with fx := F', rx := R' }) hp rfl rfl, List.length_set]
    exact row_frm h.pr f (fun g hg e => h.off i p hp g (Or.inl e) (Or.inr (Or.inl hg)))
  · intro j q hq
    rcases set_get hp hq with ⟨rfl, rfl⟩ | ⟨hne, hq'⟩
    · exact hr
    · exact P.frm (h.rx j q hq') f (fun x hx e => h.sep i j p q hp hq' (Ne.symm hne) x (Or.inl e) (Or.inl hx))
  · intro j q hq
    rcases set_get hp hq with ⟨rfl, rfl⟩ | ⟨hne, hq'⟩
    · exact ref_pumpy.frm (h.ry j p hp) f (fun x hx e => h.xy j p hp x e hx)
    · exact ref_pumpy.frm (h.ry j q hq') f (fun x hx e => h.sep i j p q hp hq' (Ne.symm hne) x (Or.inl e) (Or.inr hx))
  · intro j q hq
    rcases set_get hp hq with ⟨rfl, rfl⟩ | ⟨hne, hq'⟩
    · exact ⟨ok.1, ok.2, (h.ok j p hp).2.2⟩
    · exact h.ok j q hq'
  · intro j q hq x hx hL
    rcases set_get hp hq with ⟨rfl, rfl⟩ | ⟨hne, hq'⟩
    · rcases hx with e | e
      · exact h.off j p hp x (Or.inl (hnew x e (hLt x hL))) hL
      · exact h.off j p hp x (Or.inr e) hL
    · exact h.off j q hq' x hx hL
  · intro j q hq x hx hy
    rcases set_get hp hq with ⟨rfl, rfl⟩ | ⟨hne, hq'⟩
    · exact h.xy j p hp x (hnew x hx (hlt j p hp x (Or.inr hy))) hy
    · exact h.xy j q hq' x hx hy
  · intro j k q r hq hr' hjk x hx hy
    rcases set_get hp hq with ⟨rfl, rfl⟩ | ⟨hne, hq'⟩
    · rcases set_get hp hr' with ⟨rfl, rfl⟩ | ⟨hne2, hr2⟩
      · exact hjk rfl
      · rcases hx with e | e
        · exact h.sep j k p r hp hr2 hjk x (Or.inl (hnew x e (hlt k r hr2 x hy))) hy
        · exact h.sep j k p r hp hr2 hjk x (Or.inr e) hy
    · rcases set_get hp hr' with ⟨rfl, rfl⟩ | ⟨hne2, hr2⟩
      · rcases hy with e | e
        · exact h.sep j k q p hq' hp hjk x hx (Or.inl (hnew x e (hlt j q hq' x hx)))
        · exact h.sep j k q p hq' hp hjk x hx (Or.inr e)
      · exact h.sep j k q r hq' hr2 hjk x hx hy
  · intro j q hq x hx
    rcases set_get hp hq with ⟨rfl, rfl⟩ | ⟨hne, hq'⟩
    · rcases hx with e | e
      · rcases hF x e with e' | e'
        · exact h.bp j p hp x (Or.inl e')
        · exact Nat.le_trans h.bB e'
      · exact h.bp j p hp x (Or.inr e)
    · exact h.bp j q hq' x hx

/-- the pump y of a pair has moved -/
theorem WSt.moveY (P : Pumpy fN fB fR fO fW pa) (h : WSt pa B w wb vp vd vl vm ds ms ls ps) {i : Nat} {p : PR} (hp : ps[i]? = some p) {R' : RSt} {F' : Nat → Prop} (f : Frm p.fy w w') (hr : ra w' F' p.y R') (hF : ∀ x, F' x → p.fy x ∨ w.heap.size ≤ x) (ok : R'.Ok ∧ R'.Full) :
    WSt pa B w' wb vp vd vl vm ds ms ls (ps.set i { p with fy := F', ry := R' }) := by
  have hlt := fun (j : Nat) (q : PR) (hq : ps[j]? = some q) => WSt.ltF P h hq
  have hLt := h.ltL
  have hnew : ∀ x, F' x → x < w.heap.size → p.fy x := fun x hx hl => by rcases hF x hx with e | e; exact e; omega
  refine ⟨h.L.frm f (fun x hx e => h.off i p hp x (Or.inr e) hx), h.S, ?_, ?_, ?_, ?_, ?_, ?_, ?_, h.bl, ?_, Nat.le_trans h.bB f.size⟩
  · rw [pairs_set (q := { p with fy := F', ry := R' }) hp rfl rfl, List.length_set]
    exact row_frm h.pr f (fun g hg e => h.off i p hp g (Or.inr e) (Or.inr (Or.inl hg)))
  · intro j q hq
    rcases set_get hp hq with ⟨rfl, rfl⟩ | ⟨hne, hq'⟩
    · exact P.frm (h.rx j p hp) f (fun x hx e => h.xy j p hp x hx e)
    · exact P.frm (h.rx j q hq') f (fun x hx e => h.sep i j p q hp hq' (Ne.symm hne) x (Or.inr e) (Or.inl hx))
  · intro j q hq
    rcases set_get hp hq with ⟨rfl, rfl⟩ | ⟨hne, hq'⟩
    · exact hr
    · exact ref_pumpy.frm (h.ry j q hq') f (fun x hx e => h.sep i j p q hp hq' (Ne.symm hne) x (Or.inr e) (Or.inr hx))
  · intro j q hq
    rcases set_get hp hq with ⟨rfl, rfl⟩ | ⟨hne, hq'⟩
    · exact ⟨(h.ok j p hp).1, (h.ok j p hp).2.1, ok.1, ok.2⟩
    · exact h.ok j q hq'
  · intro j q hq x hx hL
    rcases set_get hp hq with ⟨rfl, rfl⟩ | ⟨hne, hq'⟩
    · rcases hx with e | e
      · exact h.off j p hp x (Or.inl e) hL
      · exact h.off j p hp x (Or.inr (hnew x e (hLt x hL))) hL
    · exact h.off j q hq' x hx hL
  · intro j q hq x hx hy
    rcases set_get hp hq with ⟨rfl, rfl⟩ | ⟨hne, hq'⟩
    · exact h.xy j p hp x hx (hnew x hy (hlt j p hp x (Or.inl hx)))
    · exact h.xy j q hq' x hx hy
  · intro j k q r hq hr' hjk x hx hy
    rcases set_get hp hq with ⟨rfl, rfl⟩ | ⟨hne, hq'⟩
    · rcases set_get hp hr' with ⟨rfl, rfl⟩ | ⟨hne2, hr2⟩
      · exact hjk rfl
      · rcases hx with e | e
        · exact h.sep j k p r hp hr2 hjk x (Or.inl e) hy
        · exact h.sep j k p r hp hr2 hjk x (Or.inr (hnew x e (hlt k r hr2 x hy))) hy
    · rcases set_get hp hr' with ⟨rfl, rfl⟩ | ⟨hne2, hr2⟩
      · rcases hy with e | e
        · exact h.sep j k q p hq' hp hjk x hx (Or.inl e)
        · exact h.sep j k q p hq' hp hjk x hx (Or.inr (hnew x e (hlt j q hq' x hx)))
      · exact h.sep j k q r hq' hr2 hjk x hx hy
  · intro j q hq x hx
    rcases set_get hp hq with ⟨rfl, rfl⟩ | ⟨hne, hq'⟩
    · rcases hx with e | e
      · exact h.bp j p hp x (Or.inl e)
      · rcases hF x e with e' | e'
        · exact h.bp j p hp x (Or.inr e')
        · exact Nat.le_trans h.bB e'
    · exact h.bp j q hq' x hx
end

end Go.Proofs.YtpilmkipbbengaaGreatDoor

/- driplaw: runs. -/
namespace Go.Proofs.YtpilmkipbbengaaGreatDoor
open Go.RowKit

theorem runR_ok {R : RSt} (ok : R.Ok) (hf : R.Full) (t : Int) : (runR R t).Ok ∧ (runR R t).Full := by
  unfold runR
  split
  · rename_i h
    unfold runErr at h
    split at h
    · omega
    · split at h
      · omega
      · exact rticks_ok ok hf _ (by omega)
  · exact ⟨ok, hf⟩

theorem runDs_len {R : RSt} (ok : R.Ok) (hf : R.Full) (t : Int) : (runDs R t).length ≤ 2000 := by
  unfold runDs
  split
  · rename_i h
    have h2 := runR_ok ok hf t
    unfold runR at h2
    rw [if_pos h] at h2
    have h3 := h2.1.nd
    simp; omega
  · simp

theorem WSt.owned {pa : Rep} {fN fB fR fO fW : FuncId} {B : Nat} {w w' : World} {wb : Nat} {vp vd vl vm : Value} {ds : List Value} {ms : List Int} {ls : List Value} {ps : List PR} (P : Pumpy fN fB fR fO fW pa) (h : WSt pa B w wb vp vd vl vm ds ms ls ps) {l : Value}
    (o : OwnEnd w wb vp vd vl vm ds ms ls l w') (h1 : ∀ x, l.ownBlock = some x → B ≤ x ∧ ¬ LF wb vp vd vl vm ds ls x) (h2 : ∀ (i : Nat) (p : PR), ps[i]? = some p → ∀ x, l.ownBlock = some x → ¬ p.F x) :
    ∃ vd' vm' ds' ms', WSt pa B w' wb vp vd' vl vm' ds' ms' ls ps ∧ ds'.length = ds.length + 4 ∧ Frm (fun x => B ≤ x) w w' := by
  obtain ⟨vd', vm', v1, v2, v3, m, hL, hS, hf, hF⟩ := o
  have hb : ∀ x, (x = wb ∨ vd.ownBlock = some x ∨ vm.ownBlock = some x ∨ l.ownBlock = some x) → B ≤ x := by
    rintro x (e | e | e | e)
    · exact h.bl x (Or.inl e)
    · exact h.bl x (Or.inr (Or.inr (Or.inl e)))
    · exact h.bl x (Or.inr (Or.inr (Or.inr (Or.inr (Or.inl e)))))
    · exact (h1 x e).1
  have hn : ∀ (i : Nat) (p : PR), ps[i]? = some p → ∀ x, p.F x → ¬ (x = wb ∨ vd.ownBlock = some x ∨ vm.ownBlock = some x ∨ l.ownBlock = some x) := by
    rintro i p hp x hx (e | e | e | e)
    · exact h.off i p hp x hx (Or.inl e)
    · exact h.off i p hp x hx (Or.inr (Or.inr (Or.inl e)))
    · exact h.off i p hp x hx (Or.inr (Or.inr (Or.inr (Or.inr (Or.inl e)))))
    · exact h2 i p hp x e hx
  refine ⟨vd', vm', _, _, ⟨hL, hS, ?_, fun i p hp => P.frm (h.rx i p hp) hf (fun x hx => hn i p hp x (Or.inl hx)), fun i p hp => ref_pumpy.frm (h.ry i p hp) hf (fun x hx => hn i p hp x (Or.inr hx)), h.ok, ?_, h.xy, h.sep, ?_, h.bp, Nat.le_trans h.bB hf.size⟩, by simp, hf.mono (fun x _ e => hb x e)⟩
  · refine row_frm h.pr hf ?_
    rintro g hg (e | e | e | e)
    · exact h.S.bp (by rw [hg, e])
    · exact h.S.pd g hg e
    · exact h.S.pm g hg e
    · exact (h1 g e).2 (Or.inr (Or.inl hg))
  · intro i p hp x hx hL'
    rcases hF x hL' with e | e | e
    · exact h.off i p hp x hx e
    · exact h2 i p hp x e hx
    · have := WSt.ltF P h hp x hx; omega
  · intro x hx
    rcases hF x hx with e | e | e
    · exact h.bl x e
    · exact (h1 x e).1
    · exact Nat.le_trans h.bB e

/-- what a step leaves -/
def StepEnd (pa : Rep) (B : Nat) (w : World) (wb : Nat) (nd nl np : Nat) (_ps : List PR) (w' : World) : Prop :=
  ∃ vp vd vl vm ds ms ls ps', WSt pa B w' wb vp vd vl vm ds ms ls ps' ∧ ds.length ≤ nd + 4 ∧ ls.length ≤ nl + 1 ∧ ps'.length ≤ np + 1 ∧ (∀ (j : Nat) (q : PR), ps'[j]? = some q → q.rx = q.ry) ∧ Frm (fun x => B ≤ x) w w'

set_option maxRecDepth 100000 in
set_option maxHeartbeats 1600000 in
theorem runs_any (pa : Rep) (P : Pumpy 25 32 46 14 78 pa) (B : Nat) (wb : Nat) (vp vd vl vm : Value) (ds : List Value) (ms : List Int) (ls : List Value) (ps : List PR) (i : Nat) (p : PR) (t : Int) (w : World)
    (h : WSt pa B w wb vp vd vl vm ds ms ls ps) (hp : ps[i]? = some p) (heq : ∀ (j : Nat) (q : PR), ps[j]? = some q → q.rx = q.ry) (hd : ds.length ≤ 5800000000000) (hl : ls.length ≤ 5800000000000) :
    Calls Tryz.prog 40 #[.pointer (some ⟨wb, 0, none⟩), .agg #[.pointer (some ⟨p.x, 0, none⟩), .pointer (some ⟨p.y, 0, none⟩)], I t] w fun r w' => r = .returned (.bool true) ∧ StepEnd pa B w wb ds.length ls.length ps.length ps w' := by
  obtain ⟨ok1, ok2, ok3, ok4⟩ := h.ok i p hp
  have hR := heq i p hp
  have cx := fun (W : World) (k : Keep w W) => P.run t W p.fx p.x p.rx ((WSt.keep P h k).rx i p hp) ok1 ok2
  have CX := hide cx
  have H := hide (And.intro h (And.intro hp heq))
  have OK := hide (And.intro ok1 (And.intro ok2 hR))
  clear h cx ok1 ok2 ok3 ok4 hR hp heq
  go_enter Tryz.func40, Tryz.ntmps40
  go_wp2_with fail
  refine (CX.out _ (by exact (Frm.refl _ _).alloc _)).mono ?_
  rintro e w2 ⟨vout, rfl, hrow, hfr, F', hpa, hF, hv⟩
  obtain ⟨av, cv, hvv⟩ := row_slice hrow
  subst hvv
  have k1 : Keep w (w.alloc (.cells #[.pointer (some ⟨p.x, 0, none⟩), .pointer (some ⟨p.y, 0, none⟩)] 92)) := (Frm.refl _ _).alloc _
  have h1 := WSt.keep P (H.out).1 k1
  have hlt := WSt.ltF P (H.out).1 (H.out).2.1
  have bx : Blk w2 w.heap.size #[.pointer (some ⟨p.x, 0, none⟩), .pointer (some ⟨p.y, 0, none⟩)] 92 := (Blk.new _ _ _).frm hfr (fun e => by have := hlt _ (Or.inl e); omega)
  have b0 : w2.cell? ⟨w.heap.size, 0, none⟩ = some (.pointer (some ⟨p.x, 0, none⟩)) := by rw [bx.cell]; rfl
  have b1 : w2.cell? ⟨w.heap.size, 1, none⟩ = some (.pointer (some ⟨p.y, 0, none⟩)) := by rw [bx.cell]; rfl
  have h2 := WSt.moveX P h1 (H.out).2.1 hfr hpa hF (runR_ok (OK.out).1 (OK.out).2.1 t)
  have hp2 : (ps.set i { p with fx := F', rx := runR p.rx t })[i]? = some { p with fx := F', rx := runR p.rx t } := by
    have := (List.getElem?_eq_some_iff.1 (H.out).2.1).1
    simp [this]
  obtain ⟨o1, o2, o3, o4⟩ := h2.ok i _ hp2
  have hry : ra w2 p.fy p.y p.ry := h2.ry i { p with fx := F', rx := runR p.rx t } hp2
  have cy := ref_pumpy.run t w2 p.fy p.y p.ry hry o3 o4
  have CY := hide cy
  have fB : Frm (fun x => B ≤ x) w w2 := (k1.mono (fun _ _ e => e.elim)).trans (hfr.mono (fun x _ e => (H.out).1.bp i p (H.out).2.1 x (Or.inl e)))
  have FB := hide fB
  have ONE := hide (And.intro h2 (And.intro hp2 (And.intro hrow (And.intro hv (And.intro o3 o4)))))
  clear fB
  clear cy hry h2 hp2 hrow hv o1 o2 o3 o4 bx h1 hfr hpa hF k1 hlt
  go_wp2_with fail
  refine (CY.out).mono ?_
  rintro e w3 ⟨vo2, rfl, hrow2, hfr2, F2, hra, hF2, hv2⟩
  obtain ⟨av2, cv2, hvv2⟩ := row_slice hrow2
  subst hvv2
  obtain ⟨h2, hp2, hrow, hv, o3, o4⟩ := ONE.out
  have h3 := WSt.moveY P h2 hp2 hfr2 hra hF2 (runR_ok o3 o4 t)
  have hlt0 := WSt.ltF P (H.out).1 (H.out).2.1
  have hrow3 := row_frm hrow hfr2 (fun g hg e => by have := (hv g hg).1; have := hlt0 g (Or.inr e); simp at *; omega)
  have heqd : runDs p.rx t = runDs p.ry t := by rw [(OK.out).2.2]
  have herr : runErr p.rx t = runErr p.ry t := by rw [(OK.out).2.2]
  have hnd : (runDs p.rx t).length ≤ 2000 := runDs_len (OK.out).1 (OK.out).2.1 t
  have csd := sameDoses_any _ _ (runDs p.rx t) (runDs p.ry t) w3 hrow3 hrow2 heqd (by omega)
  have clk := fun (W : World) (k : Keep w3 W) => looks_any wb vp vd vl vm ds ms ls W (h3.L.keep k) (by omega) (by omega)
  have hlf : ∀ x, (Value.slice av (runDs p.rx t).length cv).ownBlock = some x → ¬ LF wb vp vd vl vm ds ls x := fun x hx hL => by
    have := (hv x hx).1; have := (H.out).1.ltL x hL; simp at *; omega
  have cow := fun (W : World) (k : Keep w3 W) => own_any wb vp vd vl vm ds ms ls (.slice av (runDs p.rx t).length cv) (runDs p.rx t).length _ W (h3.L.keep k) h3.S (row_frm hrow3 k (fun _ _ e => e)) hlf hnd (by omega) (fun x hx => Nat.lt_of_lt_of_le (h3.pr.lt x hx).2 k.size)
  have CSD := hide csd
  have CLK := hide clk
  have COW := hide cow
  have TWO := hide (And.intro h3 (And.intro hrow3 (And.intro hlf (And.intro hv (And.intro hfr2 hF2)))))
  rw [← herr]
  generalize runErr p.rx t = er at *
  have hee : (er == er) = true := by simp
  clear csd clk cow h3 hrow3 hlf hfr2 hF2 hra hv2 hrow2 heqd herr hnd h2 hp2 hrow hv o3 o4 hlt0
  go_wp2_with fail
  refine (CSD.out).mono ?_
  rintro e w4 ⟨rfl, k4⟩
  go_wp2_with fail
  refine (CLK.out w4 k4).mono ?_
  rintro e w5 ⟨rfl, k5⟩
  have k45 : Keep w3 w5 := k4.trans k5
  go_wp2_with fail
  refine (COW.out w5 k45).mono ?_
  rintro e w6 ⟨rfl, how⟩
  go_wp2_with (go_at_call 72; refine (num_any _ _).mono ?_; rintro e w7 ⟨rfl, hw7⟩; subst hw7)
  go_ret
  obtain ⟨h3, hrow3, hlf, hv, hfr2, hF2⟩ := TWO.out
  obtain ⟨h2, hp2, hrow, -, -, -⟩ := ONE.out
  refine ⟨rfl, ?_⟩
  have hbB := (H.out).1.bB
  have hi : i < ps.length := (List.getElem?_eq_some_iff.1 (H.out).2.1).1
  obtain ⟨vd', vm', ds', ms', hw, hdl, hfr6⟩ := WSt.owned P (WSt.keep P h3 k45) how (fun x hx => ⟨by have := (hv x hx).1; simp at this; omega, hlf x hx⟩) (fun j q hq x hx hFx => by
    have hx1 := (hv x hx).1
    simp at hx1
    rcases set_get hp2 hq with ⟨rfl, rfl⟩ | ⟨hne, hq'⟩
    · rcases hFx with e | e
      · exact (hv x hx).2 e
      · rcases hF2 x e with e' | e'
        · have := WSt.ltF P (H.out).1 (H.out).2.1 x (Or.inr e'); omega
        · have := (hrow.lt x hx).2; omega
    · rcases set_get (H.out).2.1 hq' with ⟨e', -⟩ | ⟨-, hq2⟩
      · exact hne e'
      · have := WSt.ltF P (H.out).1 hq2 x hFx; omega)
  refine ⟨vp, vd', vl, vm', ds', ms', ls, _, hw, by omega, by omega, by simp, ?_, ?_⟩
  · intro j q hq
    rcases set_get hp2 hq with ⟨rfl, rfl⟩ | ⟨hne, hq'⟩
    · show runR p.rx t = runR p.ry t
      rw [(OK.out).2.2]
    · rcases set_get (H.out).2.1 hq' with ⟨e', -⟩ | ⟨-, hq2⟩
      · exact absurd e' hne
      · exact (H.out).2.2 j q hq2
  · have f2 := hfr2.mono (T := fun x => B ≤ x) (fun x _ e => (H.out).1.bp i p (H.out).2.1 x (Or.inr e))
    exact ((((FB.out).trans f2).trans2 k45 (fun _ _ e => e.elim))).trans hfr6

end Go.Proofs.YtpilmkipbbengaaGreatDoor

/- driplaw: makes. -/
namespace Go.Proofs.YtpilmkipbbengaaGreatDoor
open Go.RowKit

theorem rnew_ok {c : Int} {lims : List Lim} {lock : Int} (h : fineB c lims lock = true) : (rnew c.toNat lims lock).Ok ∧ (rnew c.toNat lims lock).Full := by
  simp only [fineB, Bool.and_eq_true, Bool.not_eq_true', List.all_eq_true] at h
  obtain ⟨h1, h2⟩ := h
  simp [badHead] at h1
  refine ⟨⟨?_, by simp [rnew]; omega, by simp [rnew], by simp [rnew], by simp [rnew], by simp [rnew], by simp [rnew]; omega, by simp [rnew]; omega, ?_, by simp [rnew], by simp [rnew]⟩, by simp [RSt.Full, rnew, nov]⟩
  · intro l hl
    have := h2 l hl
    simp [badLim] at this
    have hc : c = 1 ∨ c = 2 ∨ c = 3 ∨ c = 4 := by omega
    have h16 : (2 : Int) ^ c.toNat ≤ 16 := by rcases hc with rfl | rfl | rfl | rfl <;> decide
    exact ⟨by omega, by omega, by omega, by omega, by omega, by omega⟩
  · intro x hx
    simp [rnew] at hx
    rw [hx.2]; simp [ch0]

theorem WSt.wholed {pa : Rep} {fN fB fR fO fW : FuncId} {B : Nat} {w w' : World} {wb : Nat} {vp vd vl vm : Value} {ds : List Value} {ms : List Int} {ls : List Value} {ps : List PR} (P : Pumpy fN fB fR fO fW pa) (h : WSt pa B w wb vp vd vl vm ds ms ls ps) {g k cap : Nat}
    (o : WholeEnd w wb vp vd vl vm ds ms ls g k cap w') (h1 : B ≤ g) (h2 : ∀ (i : Nat) (p : PR), ps[i]? = some p → ¬ p.F g) (h3 : vp.ownBlock ≠ some g) :
    ∃ vl' ls', WSt pa B w' wb vp vd vl' vm ds ms ls' ps ∧ ls'.length = ls.length + 1 ∧ Frm (fun x => x = wb ∨ vl.ownBlock = some x ∨ x = g) w w' ∧ (∀ x, LF wb vp vd vl' vm ds ls' x → LF wb vp vd vl vm ds ls x ∨ x = g ∨ w.heap.size ≤ x) := by
  obtain ⟨vl', hL, hS, hf, hF⟩ := o
  have hn : ∀ (i : Nat) (p : PR), ps[i]? = some p → ∀ x, p.F x → ¬ (x = wb ∨ vl.ownBlock = some x ∨ x = g) := by
    rintro i p hp x hx (e | e | e)
    · exact h.off i p hp x hx (Or.inl e)
    · exact h.off i p hp x hx (Or.inr (Or.inr (Or.inr (Or.inl e))))
    · exact h2 i p hp (e ▸ hx)
  refine ⟨vl', _, ⟨hL, hS, ?_, fun i p hp => P.frm (h.rx i p hp) hf (fun x hx => hn i p hp x (Or.inl hx)), fun i p hp => ref_pumpy.frm (h.ry i p hp) hf (fun x hx => hn i p hp x (Or.inr hx)), h.ok, ?_, h.xy, h.sep, ?_, h.bp, Nat.le_trans h.bB hf.size⟩, by simp, hf, hF⟩
  · refine row_frm h.pr hf ?_
    rintro x hg (e | e | e)
    · exact h.S.bp (by rw [hg, e])
    · exact h.S.pl x hg e
    · exact h3 (by rw [hg, e])
  · intro i p hp x hx hL'
    rcases hF x hL' with e | e | e
    · exact h.off i p hp x hx e
    · exact h2 i p hp (e ▸ hx)
    · have := WSt.ltF P h hp x hx; omega
  · intro x hx
    rcases hF x hx with e | e | e
    · exact h.bl x e
    · omega
    · exact Nat.le_trans h.bB e

/-- the World has a pair more -/
theorem WSt.added {pa : Rep} {fN fB fR fO fW : FuncId} {B : Nat} {w W w' : World} {wb : Nat} {vp vd vl vm vp' : Value} {ds : List Value} {ms : List Int} {ls : List Value} {ps : List PR} (P : Pumpy fN fB fR fO fW pa) (h : WSt pa B w wb vp vd vl vm ds ms ls ps) (k : Keep w W) (hg : W.grownBy w' vp.ownBlock)
    (hn : vp'.ownBlock = vp.ownBlock ∨ (vp'.ownBlock = some W.heap.size ∧ W.grownBy w' none)) (q : PR) (hr : w'.ownsRow 0 92 2 vp' (ps.length + 1) (ps.flatMap pairC ++ pairC q)) (qx : pa w q.fx q.x q.rx) (qy : ra w q.fy q.y q.ry) (qo : q.rx.Ok ∧ q.rx.Full ∧ q.ry.Ok ∧ q.ry.Full)
    (q1 : ∀ x, q.F x → ¬ LF wb vp vd vl vm ds ls x) (q2 : ∀ x, q.fx x → ¬ q.fy x) (q3 : ∀ (i : Nat) (p : PR), ps[i]? = some p → ∀ x, p.F x → ¬ q.F x) (q4 : ∀ x, q.F x → B ≤ x) :
    WSt pa B (w'.setCell ⟨wb, 0, none⟩ vp') wb vp' vd vl vm ds ms ls (ps ++ [q]) ∧ Frm (fun x => B ≤ x) w (w'.setCell ⟨wb, 0, none⟩ vp') := by
  have lwb := h.L.head.lt
  have hltL := h.ltL
  have hks := k.size
  have bp' : vp'.ownBlock ≠ some wb := fresh_ne k hn lwb h.S.bp
  have offv : ∀ v, (∀ x, v.ownBlock = some x → x < w.heap.size) → Off wb vp vd vl vm v → Off wb vp' vd vl vm v := fun v hv o => ⟨o.b, (fresh_dis k hn hv o.p.symm).symm, o.d, o.l, o.m⟩
  have ro : ∀ {T s v n xs}, w.ownsRow 0 T s v n xs → Dis v vp → v.ownBlock ≠ some wb → (w'.setCell ⟨wb, 0, none⟩ vp').ownsRow 0 T s v n xs := fun hr hd hb => grow_off k hg hr hd hb vp'
  have mlt : ∀ {T v m}, Marked w T v m → ∀ x, v.ownBlock = some x → x < w.heap.size := fun ⟨_, _, hr⟩ x hx => (hr.lt x hx).2
  have mk : ∀ {T v m}, Marked w T v m → Off wb vp vd vl vm v → Marked (w'.setCell ⟨wb, 0, none⟩ vp') T v m := fun ⟨n, hn, hr⟩ o => ⟨n, hn, ro hr o.p o.b⟩
  have f : Frm (fun x => x = wb ∨ vp.ownBlock = some x) w (w'.setCell ⟨wb, 0, none⟩ vp') := ((k.mono (T := fun x => x = wb ∨ vp.ownBlock = some x) (fun _ _ e => e.elim)).trans2 (grown_frm hg) (fun x _ e => Or.inr e)).setCell (p := ⟨wb, 0, none⟩) (Or.inl rfl) _
  have hnF : ∀ (i : Nat) (p : PR), ps[i]? = some p → ∀ x, p.F x → ¬ (x = wb ∨ vp.ownBlock = some x) := by
    rintro i p hp x hx (e | e)
    · exact h.off i p hp x hx (Or.inl e)
    · exact h.off i p hp x hx (Or.inr (Or.inl e))
  have hnq : ∀ x, q.F x → ¬ (x = wb ∨ vp.ownBlock = some x) := by
    rintro x hx (e | e)
    · exact q1 x hx (Or.inl e)
    · exact q1 x hx (Or.inr (Or.inl e))
  have dlt : ∀ v ∈ ds, ∀ x, v.ownBlock = some x → x < w.heap.size := fun v hv x hx => hltL x (Or.inr (Or.inr (Or.inr (Or.inr (Or.inr (Or.inl ⟨v, hv, hx⟩))))))
  have get : ∀ (j : Nat) (p : PR), (ps ++ [q])[j]? = some p → ps[j]? = some p ∨ (p = q ∧ j = ps.length) := by
    intro j p hp
    by_cases hj : j < ps.length
    · rw [List.getElem?_append_left hj] at hp; exact Or.inl hp
    · rw [List.getElem?_append_right (by omega)] at hp
      have : j - ps.length = 0 := by
        by_cases hz : j - ps.length = 0
        · exact hz
        · rw [List.getElem?_eq_none (by simp; omega)] at hp; cases hp
      rw [this] at hp; simp at hp
      exact Or.inr ⟨hp.symm, by omega⟩
  have hLF : ∀ x, LF wb vp' vd vl vm ds ls x → LF wb vp vd vl vm ds ls x ∨ w.heap.size ≤ x := by
    rintro x (e | e | e)
    · exact Or.inl (Or.inl e)
    · rcases hn with e' | ⟨e', -⟩
      · exact Or.inl (Or.inr (Or.inl (by rw [← e', e])))
      · rw [e'] at e; injection e with e; exact Or.inr (by omega)
    · exact Or.inl (Or.inr (Or.inr e))
  have qlt : ∀ x, q.F x → x < w.heap.size := by
    rintro x (e | e)
    · exact P.lt qx x e
    · exact ref_pumpy.lt qy x e
  refine ⟨⟨⟨?_, ro h.L.doses h.S.pd.symm h.S.bd, ro h.L.marks h.S.pm.symm h.S.bm, ro h.L.lent h.S.pl.symm h.S.bl, h.L.len, fun i v m h1 h2 => mk (h.L.dm i v m h1 h2) (h.S.ds v (List.mem_of_getElem? h1)), fun v hv => mk (h.L.lm v hv) (h.S.ls v hv)⟩,
    ⟨bp', h.S.bd, h.S.bl, h.S.bm, fresh_dis k hn (fun x hx => (h.L.doses.lt x hx).2) h.S.pd, fresh_dis k hn (fun x hx => (h.L.lent.lt x hx).2) h.S.pl, fresh_dis k hn (fun x hx => (h.L.marks.lt x hx).2) h.S.pm, h.S.dl, h.S.dm, h.S.lm, fun v hv => offv v (dlt v hv) (h.S.ds v hv), fun v hv => offv v (mlt (h.L.lm v hv)) (h.S.ls v hv)⟩, ?_, ?_, ?_, ?_, ?_, ?_, ?_, ?_, ?_, Nat.le_trans h.bB f.size⟩, f.mono ?_⟩
  · have b4 := ((k.blk h.L.head).frm (grown_frm hg) h.S.bp).set 0 vp'
    simpa using b4
  · have := row_of_block hr (w' := w'.setCell ⟨wb, 0, none⟩ vp') fun g hg => Below.heap_setCell _ _ _ _ fun e => bp' (by rw [hg, e])
    simpa [List.flatMap_append] using this
  · intro j p hp
    rcases get j p hp with hp | ⟨rfl, -⟩
    · exact P.frm (h.rx j p hp) f (fun x hx => hnF j p hp x (Or.inl hx))
    · exact P.frm qx f (fun x hx => hnq x (Or.inl hx))
  · intro j p hp
    rcases get j p hp with hp | ⟨rfl, -⟩
    · exact ref_pumpy.frm (h.ry j p hp) f (fun x hx => hnF j p hp x (Or.inr hx))
    · exact ref_pumpy.frm qy f (fun x hx => hnq x (Or.inr hx))
  · intro j p hp
    rcases get j p hp with hp | ⟨rfl, -⟩
    · exact h.ok j p hp
    · exact qo
  · intro j p hp x hx hL
    rcases get j p hp with hp | ⟨rfl, -⟩
    · rcases hLF x hL with e | e
      · exact h.off j p hp x hx e
      · have := WSt.ltF P h hp x hx; omega
    · rcases hLF x hL with e | e
      · exact q1 x hx e
      · have := qlt x hx; omega
  · intro j p hp
    rcases get j p hp with hp | ⟨rfl, -⟩
    · exact h.xy j p hp
    · exact q2
  · intro i j p r hp hr' hij x hx hy
    rcases get i p hp with hp1 | ⟨e1, hi⟩
    · rcases get j r hr' with hr1 | ⟨e2, hj⟩
      · exact h.sep i j p r hp1 hr1 hij x hx hy
      · rw [e2] at hy; exact q3 i p hp1 x hx hy
    · rcases get j r hr' with hr1 | ⟨e2, hj⟩
      · rw [e1] at hx; exact q3 j r hr1 x hy hx
      · omega
  · intro x hx
    rcases hLF x hx with e | e
    · exact h.bl x e
    · exact Nat.le_trans h.bB e
  · intro j p hp x hx
    rcases get j p hp with hp | ⟨rfl, -⟩
    · exact h.bp j p hp x hx
    · exact q4 x hx
  · rintro x - (e | e)
    · exact h.bl x (Or.inl e)
    · exact h.bl x (Or.inr (Or.inl e))

theorem infoPair : (Tryz.prog.info? 92).map (fun i => (i.zero, i.size, i.bytes)) = some (some (.agg #[.pointer none, .pointer none]), 2, 16) := by kernel_rfl

/-- what lies in g can be read as it was handed in -/
theorem see_lent {w : World} {g cap n : Nat} {lims : List Lim} (h : w.ownsRow 0 60 3 (.slice (some ⟨g, 0, none⟩) n cap) n ((lent lims 8).flatMap limC)) : SeeL w (some ⟨g, 0, none⟩) lims := by
  by_cases e : lims = []
  · exact Or.inl e
  · refine Or.inr ⟨g, 0, rfl, (h.lt g rfl).2, fun i l hl => ?_⟩
    have hl' : (lent lims 8)[i]? = some l := by rw [lent, List.getElem?_append_left (List.getElem?_eq_some_iff.1 hl).1]; exact hl
    obtain ⟨g', cap', hv, -, hc, -⟩ := row_at h (fun _ => rfl) hl' (by decide)
    simp at hv
    obtain ⟨rfl, rfl⟩ := hv
    have d0 := hc 0 (by decide)
    have d1 := hc 1 (by decide)
    have d2 := hc 2 (by decide)
    simp [limC] at d0 d1 d2
    simp [d0, d1, d2]

set_option maxRecDepth 100000 in
set_option maxHeartbeats 1600000 in
theorem makes_any (pa : Rep) (P : Pumpy 25 32 46 14 78 pa) (B : Nat) (wb : Nat) (vp vd vl vm : Value) (ds : List Value) (ms : List Int) (ls : List Value) (ps : List PR) (c : Int) (a : Option Addr) (lims : List Lim) (cap : Nat) (lock : Int) (w : World)
    (h : WSt pa B w wb vp vd vl vm ds ms ls ps) (heq : ∀ (j : Nat) (q : PR), ps[j]? = some q → q.rx = q.ry) (hs : SeeL w a lims) (hnone : a = none → lims.length = 0 ∧ cap = 0) (hcap : lims.length ≤ cap) (hn : lims.length ≤ 5864062014634) (_hd : ds.length ≤ 5800000000000) (hl : ls.length ≤ 5800000000000) (hpl : ps.length ≤ 5800000000000) :
    Calls Tryz.prog 37 #[.pointer (some ⟨wb, 0, none⟩), cfgV c a lims.length cap lock] w fun r w' => r = .returned (.bool true) ∧ StepEnd pa B w wb ds.length ls.length ps.length ps w' := by
  obtain ⟨iP, hiP, hzP0, hzP1, hzP2⟩ := info_parts infoPair
  have clend := fun (W : World) (k : Keep w W) => lend_any c a lims cap lock W (hs.frm k (fun _ _ _ e => e)) hnone hn hcap
  have CL := hide clend
  have H := hide (And.intro h (And.intro heq (And.intro hs hnone)))
  clear clend h heq hs hnone
  go_enter Tryz.func37, Tryz.ntmps37
  go_wp2_with fail
  refine (CL.out _ (by exact (Frm.refl _ _).alloc _)).mono ?_
  rintro e w1 ⟨g, cg, rfl, hrow, hg, k1⟩
  have k01 : Keep w w1 := ((Frm.refl _ _).alloc _).trans k1
  have bx : Blk w1 w.heap.size #[I c, .slice a lims.length cap, I lock] 30 := k1.blk (Blk.new _ _ _)
  have b0 : w1.cell? ⟨w.heap.size, 0, none⟩ = some (I c) := by rw [bx.cell]; rfl
  have b1 : w1.cell? ⟨w.heap.size, 1, none⟩ = some (.slice a lims.length cap) := by rw [bx.cell]; rfl
  have b2 : w1.cell? ⟨w.heap.size, 2, none⟩ = some (I lock) := by rw [bx.cell]; rfl
  have lbx := bx.lt
  simp at hg
  have cnew := fun (W : World) (k : Keep w1 W) => P.new c (some ⟨g, 0, none⟩) lims cg lock W (see_lent (row_frm hrow k (fun _ _ e => e))) (by simp) hn
  have CN := hide cnew
  have ONE := hide (And.intro k01 (And.intro bx hrow))
  clear cnew k01 bx hrow k1
  go_wp2_with fail
  refine (CN.out _ (by exact (Frm.refl _ _).alloc _)).mono ?_
  rintro e w2 ⟨k2, hx⟩
  have k12 : Keep w1 w2 := ((Frm.refl _ _).alloc _).trans k2
  have bx2 := k12.blk (ONE.out).2.1
  have d0 : w2.cell? ⟨w.heap.size, 0, none⟩ = some (I c) := by rw [bx2.cell]; rfl
  have d1 : w2.cell? ⟨w.heap.size, 1, none⟩ = some (.slice a lims.length cap) := by rw [bx2.cell]; rfl
  have d2 : w2.cell? ⟨w.heap.size, 2, none⟩ = some (I lock) := by rw [bx2.cell]; rfl
  have k02 : Keep w w2 := (ONE.out).1.trans k12
  have cref := ref_pumpy.new c a lims cap lock w2 ((H.out).2.2.1.frm k02 (fun _ _ _ e => e)) (H.out).2.2.2 hn
  have CRF := hide cref
  have TWO := hide (And.intro k02 (And.intro k12 bx2))
  clear cref k02 k12 bx2 k2
  have cwh : ∀ (W : World) (k : Keep w W) (k1W : Keep w1 W), Calls Tryz.prog 71 #[.pointer (some ⟨wb, 0, none⟩), .slice (some ⟨g, 0, none⟩) (lims.length + 8) cg, .slice a lims.length cap] W fun r w' => r = .returned (.bool true) ∧ WholeEnd W wb vp vd vl vm ds ms ls g (lims.length + 8) cg w' := by
    intro W k k1W
    have hW := WSt.keep P (H.out).1 k
    refine whole_any wb vp vd vl vm ds ms ls g cg a cap lims W hW.L hW.S (row_frm (ONE.out).2.2 k1W (fun _ _ e => e)) (fun e => by have := (H.out).1.ltL g e; omega) ((H.out).2.2.1.frm k (fun _ _ _ e => e)) ?_ hn hl (fun x hx => (hW.pr.lt x hx).2)
    intro hne g' o e
    rcases (H.out).2.2.1 with e' | ⟨g2, o2, e2, hlt, -⟩
    · exact absurd e' hne
    · rw [e2] at e; injection e with e; injection e with e _ _; omega
  have CWH := hide cwh
  clear cwh
  rcases hx with ⟨hf, rfl⟩ | ⟨hf, bx, Fx, rfl, hpx, hFx⟩
  · go_wp2_with fail
    refine (CRF.out).mono ?_
    rintro e w3 ⟨k3, hy⟩
    rcases hy with ⟨-, rfl⟩ | ⟨hf2, -⟩
    · have f1 : w3.cell? ⟨w.heap.size, 1, none⟩ = some (.slice a lims.length cap) := k3.cell d1 (fun e => e)
      go_wp2_with fail
      refine (CWH.out w3 ((TWO.out).1.trans k3) ((TWO.out).2.1.trans k3)).mono ?_
      rintro e w4 ⟨rfl, hwh⟩
      go_wp2_with (go_at_call 72; refine (num_any _ _).mono ?_; rintro e w7 ⟨rfl, hw7⟩; subst hw7)
      go_ret
      have h3 := WSt.keep P (H.out).1 ((TWO.out).1.trans k3)
      obtain ⟨vl', ls', hw, hll, hfr, hLFn⟩ := WSt.wholed P h3 hwh (by have := (H.out).1.bB; omega) (fun i p hp e => by have := WSt.ltF P (H.out).1 hp g e; omega) (fun e => by have := ((H.out).1.pr.lt g e).2; omega)
      refine ⟨rfl, vp, vd, vl', vm, ds, ms, ls', ps, hw, by omega, by omega, by omega, (H.out).2.1, ?_⟩
      refine (((TWO.out).1.trans k3).mono (T := fun x => B ≤ x) (fun _ _ e => e.elim)).trans (hfr.mono ?_)
      rintro x - (e | e | e)
      · exact (H.out).1.bl x (Or.inl e)
      · exact (H.out).1.bl x (Or.inr (Or.inr (Or.inr (Or.inl e))))
      · have := (H.out).1.bB; omega
    · rw [hf] at hf2; cases hf2
  · go_wp2_with fail
    refine (CRF.out).mono ?_
    rintro e w3 ⟨k3, hy⟩
    rcases hy with ⟨hf2, -⟩ | ⟨-, bY, Fy, rfl, hpy, hFy⟩
    · rw [hf] at hf2; cases hf2
    · have f1 : w3.cell? ⟨w.heap.size, 1, none⟩ = some (.slice a lims.length cap) := k3.cell d1 (fun e => e)
      go_upto_region 5 with (go_at_call 71; refine (CWH.out w3 ((TWO.out).1.trans k3) ((TWO.out).2.1.trans k3)).mono ?_; rintro e w4 ⟨rfl, hwh⟩)
      have h3 := WSt.keep P (H.out).1 ((TWO.out).1.trans k3)
      obtain ⟨vl', ls', hw, hll, hfr, hLFn⟩ := WSt.wholed P h3 hwh (by have := (H.out).1.bB; omega) (fun i p hp e => by have := WSt.ltF P (H.out).1 hp g e; omega) (fun e => by have := ((H.out).1.pr.lt g e).2; omega)
      have hrowlt := ((ONE.out).2.2.lt g rfl).2
      have s12 := (TWO.out).2.1.size
      simp at hFx
      have nF : ∀ x, w1.heap.size ≤ x → ¬ (x = wb ∨ vl.ownBlock = some x ∨ x = g) := by
        rintro x hx (e | e | e)
        · have := (H.out).1.ltL x (Or.inl e); omega
        · have := (H.out).1.ltL x (Or.inr (Or.inr (Or.inr (Or.inl e)))); omega
        · omega
      have qx : pa w4 Fx bx (rnew c.toNat lims lock) := P.frm (P.frm hpx k3 (fun _ _ e => e)) hfr (fun x hx => nF x (by have := hFx x hx; omega))
      have qy : ra w4 Fy bY (rnew c.toNat lims lock) := ref_pumpy.frm hpy hfr (fun x hx => nF x (by have := hFy x hx; have := hrowlt; omega))
      have hoffq : ∀ x, (Fx x ∨ Fy x) → ¬ LF wb vp vd vl' vm ds ls' x := by
        intro x hx hL
        have s3 := k3.size
        have h1 : w1.heap.size ≤ x ∧ x < w3.heap.size := by
          rcases hx with e | e
          · have := hFx x e; have := P.lt hpx x e; omega
          · have := hFy x e; have := ref_pumpy.lt hpy x e; omega
        rcases hLFn x hL with e | e | e
        · have := (H.out).1.ltL x e; omega
        · omega
        · omega
      have qsep : ∀ x, Fx x → ¬ Fy x := fun x hx hy => by
        have h1 := P.lt hpx x hx; have h2 := hFy x hy; omega
      have h4 : (w4.cell? ⟨wb, 0, none⟩ = some vp) := by rw [hw.L.head.cell]; rfl
      obtain ⟨ap, cp, hvp⟩ := row_slice hw.pr
      rw [hvp] at h4
      have fz := hw.L.head.frozen 0
      have lw4 := hw.L.head.lt
      have hF4 : Frm (fun x => B ≤ x) w w4 := by
        refine (((TWO.out).1.trans k3).mono (T := fun x => B ≤ x) (fun _ _ e => e.elim)).trans (hfr.mono ?_)
        rintro x - (e | e | e)
        · exact (H.out).1.bl x (Or.inl e)
        · exact (H.out).1.bl x (Or.inr (Or.inr (Or.inr (Or.inl e))))
        · have := (H.out).1.bB; omega
      have hqn : ∀ x, (Fx x ∨ Fy x) → w1.heap.size ≤ x := fun x hx => by
        rcases hx with e | e
        · have := hFx x e; omega
        · have := hFy x e; omega
      have FIN := hide (And.intro hw (And.intro qx (And.intro qy (And.intro qsep (And.intro hF4 (And.intro hqn (And.intro hll hoffq)))))))
      have HVP := hide hvp
      have hg1 : w.heap.size < w1.heap.size := lbx
      clear qx qy qsep hF4 hqn hoffq hLFn hw hfr h3 hwh hpx hpy hFx hFy nF hvp hll hrowlt s12 k3 b0 b1 b2 d0 d1 d2
      go_wp2_with (first | (go_at_call 72; refine (num_any _ _).mono ?_; rintro e w7 ⟨rfl, hw7⟩; have hw8 := hw7.symm; subst hw8) | (at_builtin; refine wpList_append_row _ rfl (.tmp 54) (.tmp 58) 52 rfl 92 iP (.agg #[.pointer none, .pointer none]) 2 16 Tryz.underlying52 hiP hzP0 hzP1 hzP2 rfl (by decide) (.slice ap ps.length cp) ps.length (ps.flatMap pairC) rfl (by rw [← HVP.out]; exact row_frm (FIN.out).1.pr (show Keep _ _ from (Frm.refl _ _).alloc _) (fun _ _ e => e)) ⟨w4.heap.size, 0, none⟩ 1 1 [.pointer (some ⟨bx, 0, none⟩), .pointer (some ⟨bY, 0, none⟩)] rfl rfl (cell_news _ [.pointer (some ⟨bx, 0, none⟩), .pointer (some ⟨bY, 0, none⟩)] _ _ (by simp)) (by intro u hu; simp at hu; rcases hu with rfl | rfl <;> rfl) (by unfold maxLen; omega) (by omega) ?_; intro v5 w5 hr5 hg5 hn5; rw [← HVP.out] at hg5 hn5; obtain ⟨a5, p5, hv5⟩ := row_slice hr5; subst hv5; have bb5 := ((show Keep _ _ from (Frm.refl _ _).alloc _).blk (FIN.out).1.L.head).frm (grown_frm hg5) (FIN.out).1.S.bp; have c50 : w5.cell? ⟨wb, 0, none⟩ = some (.slice ap ps.length cp) := (by { rw [bb5.cell, ← HVP.out]; rfl }); have f50 := bb5.frozen 0; have FIVE := hide (And.intro hr5 (And.intro hg5 hn5)); clear hr5 hg5 hn5 bb5))
      go_ret
      obtain ⟨hw, qx, qy, qsep, hF4, hqn, hll, hoffq⟩ := FIN.out
      obtain ⟨hr5, hg5, hn5⟩ := FIVE.out
      have hbB := (H.out).1.bB
      have rok := rnew_ok hf
      obtain ⟨hw5, hF5⟩ := WSt.added P hw (show Keep _ _ from (Frm.refl _ _).alloc _) hg5 hn5 ⟨bx, bY, Fx, Fy, rnew c.toNat lims lock, rnew c.toNat lims lock⟩ hr5 qx qy ⟨rok.1, rok.2, rok.1, rok.2⟩
        hoffq qsep (fun i p hp x hx hq => by have := WSt.ltF P (H.out).1 hp x hx; have := hqn x hq; omega) (fun x hx => by have := hqn x hx; omega)
      refine ⟨rfl, _, _, _, _, _, _, _, _, hw5, by omega, by omega, by simp, ?_, hF4.trans hF5⟩
      intro j q hq
      by_cases hj : j < ps.length
      · rw [List.getElem?_append_left hj] at hq; exact (H.out).2.1 j q hq
      · rw [List.getElem?_append_right (by omega)] at hq
        have := List.mem_of_getElem? hq
        simp at this; subst this; rfl

end Go.Proofs.YtpilmkipbbengaaGreatDoor

/- driplaw: asks, moves. -/
namespace Go.Proofs.YtpilmkipbbengaaGreatDoor
open Go.RowKit

theorem basalR_ok {R : RSt} (ok : R.Ok) (hf : R.Full) (k rate ticks : Int) : (basalR R k rate ticks).Ok ∧ (basalR R k rate ticks).Full := by
  unfold basalR
  split
  · exact ⟨ok, hf⟩
  · rename_i hb
    have hb' : basalBad R k rate ticks = false := by simpa using hb
    simp only [basalBad, Bool.or_eq_false_iff] at hb'
    obtain ⟨⟨⟨⟨-, h2⟩, h3⟩, h4⟩, h5⟩ := hb'
    simp at h2 h3 h4 h5
    unfold rbasal
    split
    · exact ⟨ok, hf⟩
    · rename_i c hc
      have n0 := ok.now0
      have n1 := ok.now1
      refine ⟨⟨ok.lims, ok.nl, ok.doses, ok.nd, ok.now0, ok.now1, by simpa using ok.nc0, by simpa using ok.nc1, ?_, ok.no, ok.os⟩, hf⟩
      intro x hx
      rcases List.mem_or_eq_of_mem_set hx with hx | rfl
      · exact ok.chs x hx
      · have hcc := ok.chs c (List.mem_of_getElem? hc)
        refine ⟨h2, h3, ?_, ?_, hcc.2.2.2.2⟩
        · simp only; split <;> omega
        · simp only; split <;> omega

/-- one pump, then the other one, has moved -/
theorem WSt.both {pa : Rep} {fN fB fR fO fW : FuncId} {B : Nat} {w w1 w2 w3 w4 : World} {wb : Nat} {vp vd vl vm : Value} {ds : List Value} {ms : List Int} {ls : List Value} {ps : List PR} (P : Pumpy fN fB fR fO fW pa) (h : WSt pa B w wb vp vd vl vm ds ms ls ps) (heq : ∀ (j : Nat) (q : PR), ps[j]? = some q → q.rx = q.ry)
    {i : Nat} {p : PR} (hp : ps[i]? = some p) {R' : RSt} (k1 : Keep w w1) (m1 : Moved pa w1 p.fx p.x R' w2) (m2 : Moved ra w2 p.fy p.y R' w3) (k4 : Keep w3 w4) (ok : R'.Ok ∧ R'.Full) : StepEnd pa B w wb ds.length ls.length ps.length ps w4 := by
  obtain ⟨f1, F1, r1, n1⟩ := m1
  obtain ⟨f2, F2, r2, n2⟩ := m2
  have h1 := WSt.keep P h k1
  have h2 := WSt.moveX P h1 hp f1 r1 n1 ok
  have hi : i < ps.length := (List.getElem?_eq_some_iff.1 hp).1
  have hp2 : (ps.set i { p with fx := F1, rx := R' })[i]? = some { p with fx := F1, rx := R' } := by simp [hi]
  have h3 := WSt.moveY P h2 hp2 f2 r2 n2 ok
  refine ⟨vp, vd, vl, vm, ds, ms, ls, _, WSt.keep P h3 k4, by omega, by omega, by simp, ?_, ?_⟩
  · intro j q hq
    rcases set_get hp2 hq with ⟨rfl, rfl⟩ | ⟨hne, hq'⟩
    · rfl
    · rcases set_get hp hq' with ⟨e', -⟩ | ⟨-, hq2⟩
      · exact absurd e' hne
      · exact heq j q hq2
  · have g1 := f1.mono (T := fun x => B ≤ x) (fun x _ e => h.bp i p hp x (Or.inl e))
    have g2 := f2.mono (T := fun x => B ≤ x) (fun x _ e => h.bp i p hp x (Or.inr e))
    exact (((k1.mono (fun _ _ e => e.elim)).trans g1).trans g2).trans2 k4 (fun _ _ e => e.elim)

/-- a step's value -/
abbrev opV (kind p a b c d ch : Int) (sl : Value) (lock : Int) (s : Value) : Value := .agg #[I kind, I p, I a, I b, I c, I d, I ch, sl, I lock, s]
abbrev prV (p : PR) : Value := .agg #[.pointer (some ⟨p.x, 0, none⟩), .pointer (some ⟨p.y, 0, none⟩)]

set_option maxRecDepth 100000 in
set_option maxHeartbeats 1600000 in
theorem moves_basal (pa : Rep) (P : Pumpy 25 32 46 14 78 pa) (B : Nat) (wb : Nat) (vp vd vl vm : Value) (ds : List Value) (ms : List Int) (ls : List Value) (ps : List PR) (i : Nat) (p : PR) (pp a b c d ch : Int) (al : Option Addr) (nl cl : Nat) (lock : Int) (s : ByteArray) (w : World)
    (h : WSt pa B w wb vp vd vl vm ds ms ls ps) (hp : ps[i]? = some p) (heq : ∀ (j : Nat) (q : PR), ps[j]? = some q → q.rx = q.ry) :
    Calls Tryz.prog 42 #[prV p, opV 2 pp a b c d ch (.slice al nl cl) lock (.string s)] w fun r w' => r = .returned (.bool true) ∧ StepEnd pa B w wb ds.length ls.length ps.length ps w' := by
  obtain ⟨ok1, ok2, ok3, ok4⟩ := h.ok i p hp
  have hR := heq i p hp
  have cx := fun (W : World) (k : Keep w W) => P.basal a b c W p.fx p.x p.rx ((WSt.keep P h k).rx i p hp) ok1 ok2
  have cy := fun (W W2 : World) (k : Keep w W) (f : Frm p.fx W W2) => ref_pumpy.basal a b c W2 p.fy p.y p.ry (ref_pumpy.frm ((WSt.keep P h k).ry i p hp) f (fun x hx e => h.xy i p hp x e hx)) ok3 ok4
  rw [← hR] at cy
  have CX := hide cx
  have CY := hide cy
  have H := hide (And.intro h (And.intro hp heq))
  have OK := hide (basalR_ok ok1 ok2 a b c)
  have hlt := WSt.ltF P h hp
  have HLT := hide hlt
  clear h cx cy ok1 ok2 ok3 ok4 hR hp heq hlt
  generalize basalErr p.rx a b c = er at *
  have hee : (er == er) = true := by simp
  go_enter Tryz.func42, Tryz.ntmps42
  go_wp2_with fail
  refine (CX.out _ (by exact ((Frm.refl _ _).alloc _).alloc _)).mono ?_
  rintro e w2 ⟨rfl, m1⟩
  have f1 := m1.1
  have bp : Blk w2 w.heap.size #[.pointer (some ⟨p.x, 0, none⟩), .pointer (some ⟨p.y, 0, none⟩)] 92 := ((Blk.new _ _ _).alloc _).frm f1 (fun e => by have := HLT.out _ (Or.inl e); omega)
  have bo : Blk w2 (w.heap.size + 1) #[I 2, I pp, I a, I b, I c, I d, I ch, .slice al nl cl, I lock, .string s] 62 := by
    have := (Blk.new (w.alloc (.cells #[.pointer (some ⟨p.x, 0, none⟩), .pointer (some ⟨p.y, 0, none⟩)] 92)) #[I 2, I pp, I a, I b, I c, I d, I ch, .slice al nl cl, I lock, .string s] 62).frm f1 (fun e => by have := HLT.out _ (Or.inl e); simp at this; omega)
    simpa using this
  have p1 : w2.cell? ⟨w.heap.size, 1, none⟩ = some (.pointer (some ⟨p.y, 0, none⟩)) := by rw [bp.cell]; rfl
  have o2 : w2.cell? ⟨w.heap.size + 1, 2, none⟩ = some (I a) := by rw [bo.cell]; rfl
  have o3 : w2.cell? ⟨w.heap.size + 1, 3, none⟩ = some (I b) := by rw [bo.cell]; rfl
  have o4 : w2.cell? ⟨w.heap.size + 1, 4, none⟩ = some (I c) := by rw [bo.cell]; rfl
  have M1 := hide m1
  clear m1 bp bo
  go_wp2_with fail
  refine (CY.out _ w2 (by exact ((Frm.refl _ _).alloc _).alloc _) f1).mono ?_
  rintro e w3 ⟨rfl, m2⟩
  have M2 := hide m2
  clear m2
  go_wp2_with (go_at_call 72; refine (num_any _ _).mono ?_; rintro e w7 ⟨rfl, hw7⟩; have hw8 := hw7.symm; subst hw8)
  go_ret
  exact ⟨rfl, WSt.both P (H.out).1 (H.out).2.2 (H.out).2.1 (((Frm.refl _ _).alloc _).alloc _) M1.out M2.out (Frm.refl _ _) OK.out⟩

set_option maxRecDepth 100000 in
set_option maxHeartbeats 1600000 in
theorem asks_room (pa : Rep) (P : Pumpy 25 32 46 14 78 pa) (B : Nat) (wb : Nat) (vp vd vl vm : Value) (ds : List Value) (ms : List Int) (ls : List Value) (ps : List PR) (i : Nat) (p : PR) (pp a b c d ch : Int) (al : Option Addr) (nl cl : Nat) (lock : Int) (s : ByteArray) (w : World)
    (h : WSt pa B w wb vp vd vl vm ds ms ls ps) (hp : ps[i]? = some p) (heq : ∀ (j : Nat) (q : PR), ps[j]? = some q → q.rx = q.ry) :
    Calls Tryz.prog 41 #[prV p, opV 4 pp a b c d ch (.slice al nl cl) lock (.string s)] w fun r w' => r = .returned (.bool true) ∧ StepEnd pa B w wb ds.length ls.length ps.length ps w' := by
  obtain ⟨ok1, ok2, ok3, ok4⟩ := h.ok i p hp
  have hR := heq i p hp
  have cx := fun (W : World) (k : Keep w W) => P.room a W p.fx p.x p.rx ((WSt.keep P h k).rx i p hp) ok1 ok2
  have cy := fun (W W2 : World) (k : Keep w W) (f : Frm p.fx W W2) => ref_pumpy.room a W2 p.fy p.y p.ry (ref_pumpy.frm ((WSt.keep P h k).ry i p hp) f (fun x hx e => h.xy i p hp x e hx)) ok3 ok4
  rw [← hR] at cy
  have CX := hide cx
  have CY := hide cy
  have H := hide (And.intro h (And.intro hp heq))
  have OK := hide (And.intro ok1 ok2)
  have hlt := WSt.ltF P h hp
  have HLT := hide hlt
  clear h cx cy ok1 ok2 ok3 ok4 hR hp heq hlt
  have hv : ∃ x er, roomV p.rx a = .tuple #[I x, I er] := by unfold roomV; split; exact ⟨_, _, rfl⟩; exact ⟨_, _, rfl⟩
  obtain ⟨x, er, hv⟩ := hv
  rw [hv] at CX CY
  clear hv
  have hee : (er == er) = true := by simp
  have hxx : (x == x) = true := by simp
  go_enter Tryz.func41, Tryz.ntmps41
  go_wp2_with fail
  refine (CX.out _ (by exact ((Frm.refl _ _).alloc _).alloc _)).mono ?_
  rintro e w2 ⟨rfl, m1⟩
  have f1 := m1.1
  have bp : Blk w2 w.heap.size #[.pointer (some ⟨p.x, 0, none⟩), .pointer (some ⟨p.y, 0, none⟩)] 92 := ((Blk.new _ _ _).alloc _).frm f1 (fun e => by have := HLT.out _ (Or.inl e); omega)
  have bo : Blk w2 (w.heap.size + 1) #[I 4, I pp, I a, I b, I c, I d, I ch, .slice al nl cl, I lock, .string s] 62 := by
    have := (Blk.new (w.alloc (.cells #[.pointer (some ⟨p.x, 0, none⟩), .pointer (some ⟨p.y, 0, none⟩)] 92)) #[I 4, I pp, I a, I b, I c, I d, I ch, .slice al nl cl, I lock, .string s] 62).frm f1 (fun e => by have := HLT.out _ (Or.inl e); simp at this; omega)
    simpa using this
  have p1 : w2.cell? ⟨w.heap.size, 1, none⟩ = some (.pointer (some ⟨p.y, 0, none⟩)) := by rw [bp.cell]; rfl
  have o2 : w2.cell? ⟨w.heap.size + 1, 2, none⟩ = some (I a) := by rw [bo.cell]; rfl
  have M1 := hide m1
  clear m1 bp bo
  go_wp2_with fail
  refine (CY.out _ w2 (by exact ((Frm.refl _ _).alloc _).alloc _) f1).mono ?_
  rintro e w3 ⟨rfl, m2⟩
  have M2 := hide m2
  clear m2
  go_wp2_with (go_at_call 72; refine (num_any _ _).mono ?_; rintro e w7 ⟨rfl, hw7⟩; have hw8 := hw7.symm; subst hw8)
  go_ret
  exact ⟨rfl, WSt.both P (H.out).1 (H.out).2.2 (H.out).2.1 (((Frm.refl _ _).alloc _).alloc _) M1.out M2.out (Frm.refl _ _) OK.out⟩

set_option maxRecDepth 100000 in
set_option maxHeartbeats 1600000 in
theorem asks_wait (pa : Rep) (P : Pumpy 25 32 46 14 78 pa) (B : Nat) (wb : Nat) (vp vd vl vm : Value) (ds : List Value) (ms : List Int) (ls : List Value) (ps : List PR) (i : Nat) (p : PR) (pp a b c d ch : Int) (al : Option Addr) (nl cl : Nat) (lock : Int) (s : ByteArray) (w : World)
    (h : WSt pa B w wb vp vd vl vm ds ms ls ps) (hp : ps[i]? = some p) (heq : ∀ (j : Nat) (q : PR), ps[j]? = some q → q.rx = q.ry) :
    Calls Tryz.prog 41 #[prV p, opV 5 pp a b c d ch (.slice al nl cl) lock (.string s)] w fun r w' => r = .returned (.bool true) ∧ StepEnd pa B w wb ds.length ls.length ps.length ps w' := by
  obtain ⟨ok1, ok2, ok3, ok4⟩ := h.ok i p hp
  have hR := heq i p hp
  have cx := fun (W : World) (k : Keep w W) => P.wait a b W p.fx p.x p.rx ((WSt.keep P h k).rx i p hp) ok1 ok2
  have cy := fun (W W2 : World) (k : Keep w W) (f : Frm p.fx W W2) => ref_pumpy.wait a b W2 p.fy p.y p.ry (ref_pumpy.frm ((WSt.keep P h k).ry i p hp) f (fun x hx e => h.xy i p hp x e hx)) ok3 ok4
  rw [← hR] at cy
  have CX := hide cx
  have CY := hide cy
  have H := hide (And.intro h (And.intro hp heq))
  have OK := hide (And.intro ok1 ok2)
  have hlt := WSt.ltF P h hp
  have HLT := hide hlt
  clear h cx cy ok1 ok2 ok3 ok4 hR hp heq hlt
  go_enter Tryz.func41, Tryz.ntmps41
  go_wp2_with fail
  refine (CX.out _ (by exact ((Frm.refl _ _).alloc _).alloc _)).mono ?_
  rintro e w2 ⟨hwo, m1⟩
  have hex : ∃ x y er, e = .returned (.tuple #[I x, .bool y, I er]) := by
    rcases hwo with ⟨-, rfl⟩ | ⟨-, -, -, r, rfl, -⟩
    · exact ⟨_, _, _, rfl⟩
    · cases r with
      | none => exact ⟨_, _, _, rfl⟩
      | some n => exact ⟨_, _, _, rfl⟩
  obtain ⟨x, y, er, rfl⟩ := hex
  have hee : (er == er) = true := by simp
  have hxx : (x == x) = true := by simp
  have hyy : (y == y) = true := by simp
  have HWO := hide hwo
  clear hwo
  have f1 := m1.1
  have bp : Blk w2 w.heap.size #[.pointer (some ⟨p.x, 0, none⟩), .pointer (some ⟨p.y, 0, none⟩)] 92 := ((Blk.new _ _ _).alloc _).frm f1 (fun e => by have := HLT.out _ (Or.inl e); omega)
  have bo : Blk w2 (w.heap.size + 1) #[I 5, I pp, I a, I b, I c, I d, I ch, .slice al nl cl, I lock, .string s] 62 := by
    have := (Blk.new (w.alloc (.cells #[.pointer (some ⟨p.x, 0, none⟩), .pointer (some ⟨p.y, 0, none⟩)] 92)) #[I 5, I pp, I a, I b, I c, I d, I ch, .slice al nl cl, I lock, .string s] 62).frm f1 (fun e => by have := HLT.out _ (Or.inl e); simp at this; omega)
    simpa using this
  have p1 : w2.cell? ⟨w.heap.size, 1, none⟩ = some (.pointer (some ⟨p.y, 0, none⟩)) := by rw [bp.cell]; rfl
  have o2 : w2.cell? ⟨w.heap.size + 1, 2, none⟩ = some (I a) := by rw [bo.cell]; rfl
  have o3 : w2.cell? ⟨w.heap.size + 1, 3, none⟩ = some (I b) := by rw [bo.cell]; rfl
  have M1 := hide m1
  clear m1 bp bo
  go_wp2_with fail
  refine (CY.out _ w2 (by exact ((Frm.refl _ _).alloc _).alloc _) f1).mono ?_
  rintro e w3 ⟨hwo2, m2⟩
  have hsame := waitOut_unique hwo2 HWO.out
  subst hsame
  clear hwo2
  have M2 := hide m2
  clear m2
  go_wp2_with (go_at_call 72; refine (num_any _ _).mono ?_; rintro e w7 ⟨rfl, hw7⟩; have hw8 := hw7.symm; subst hw8)
  go_ret
  exact ⟨rfl, WSt.both P (H.out).1 (H.out).2.2 (H.out).2.1 (((Frm.refl _ _).alloc _).alloc _) M1.out M2.out (Frm.refl _ _) OK.out⟩

end Go.Proofs.YtpilmkipbbengaaGreatDoor
