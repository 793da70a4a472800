/- driplaw: the World with its pumps; runs. -/
import Derived.Test.YtpilmkipbbengaaGreatDoorIface
namespace Go.Proofs.YtpilmkipbbengaaGreatDoor
open Go.RowKit

/-- a pair of pumps -/
structure PR where
  x : Nat
  y : Nat
  fx : Nat → Prop
  fy : Nat → Prop
  rx : RSt
  ry : RSt
def pairC (p : PR) : List Value := [.pointer (some ⟨p.x, 0, none⟩), .pointer (some ⟨p.y, 0, none⟩)]
def PR.F (p : PR) : Nat → Prop := fun x => p.fx x ∨ p.fy x

structure WSt (pa : Rep) (B : Nat) (w : World) (wb : Nat) (vp vd vl vm : Value) (ds : List Value) (ms : List Int) (ls : List Value) (ps : List PR) : Prop where
  L : Lists w wb vp vd vl vm ds ms ls
  S : LSep wb vp vd vl vm ds ls
  pr : w.ownsRow 0 92 2 vp ps.length (ps.flatMap pairC)
  rx : ∀ (i : Nat) (p : PR), ps[i]? = some p → pa w p.fx p.x p.rx
  ry : ∀ (i : Nat) (p : PR), ps[i]? = some p → ra w p.fy p.y p.ry
  ok : ∀ (i : Nat) (p : PR), ps[i]? = some p → p.rx.Ok ∧ p.rx.Full ∧ p.ry.Ok ∧ p.ry.Full
  off : ∀ (i : Nat) (p : PR), ps[i]? = some p → ∀ x, p.F x → ¬ LF wb vp vd vl vm ds ls x
  xy : ∀ (i : Nat) (p : PR), ps[i]? = some p → ∀ x, p.fx x → ¬ p.fy x
  sep : ∀ (i j : Nat) (p q : PR), ps[i]? = some p → ps[j]? = some q → i ≠ j → ∀ x, p.F x → ¬ q.F x
  bl : ∀ x, LF wb vp vd vl vm ds ls x → B ≤ x
  bp : ∀ (i : Nat) (p : PR), ps[i]? = some p → ∀ x, p.F x → B ≤ x
  bB : B ≤ w.heap.size

section
variable {pa : Rep} {fN fB fR fO fW : FuncId} {B : Nat} {w w' : World} {wb : Nat} {vp vd vl vm : Value} {ds : List Value} {ms : List Int} {ls : List Value} {ps : List PR}
theorem WSt.ltF (P : Pumpy fN fB fR fO fW pa) (h : WSt pa B w wb vp vd vl vm ds ms ls ps) {i : Nat} {p : PR} (hp : ps[i]? = some p) : ∀ x, p.F x → x < w.heap.size := by
  rintro x (e | e)
  · exact P.lt (h.rx i p hp) x e
  · exact ref_pumpy.lt (h.ry i p hp) x e
theorem WSt.ltL (h : WSt pa B w wb vp vd vl vm ds ms ls ps) : ∀ x, LF wb vp vd vl vm ds ls x → x < w.heap.size := h.L.lt (fun x hx => (h.pr.lt x hx).2)

theorem WSt.frm {S : Nat → Prop} (P : Pumpy fN fB fR fO fW pa) (h : WSt pa B w wb vp vd vl vm ds ms ls ps) (f : Frm S w w') (h1 : ∀ x, LF wb vp vd vl vm ds ls x → ¬ S x) (h2 : ∀ (i : Nat) (p : PR), ps[i]? = some p → ∀ x, p.F x → ¬ S x) : WSt pa B w' wb vp vd vl vm ds ms ls ps :=
  ⟨h.L.frm f h1, h.S, row_frm h.pr f (fun g hg => h1 g (Or.inr (Or.inl hg))), fun i p hp => P.frm (h.rx i p hp) f (fun x hx => h2 i p hp x (Or.inl hx)), fun i p hp => ref_pumpy.frm (h.ry i p hp) f (fun x hx => h2 i p hp x (Or.inr hx)), h.ok, h.off, h.xy, h.sep, h.bl, h.bp, Nat.le_trans h.bB f.size⟩

theorem WSt.keep (P : Pumpy fN fB fR fO fW pa) (h : WSt pa B w wb vp vd vl vm ds ms ls ps) (k : Keep w w') : WSt pa B w' wb vp vd vl vm ds ms ls ps := WSt.frm P h k (fun _ _ e => e) (fun _ _ _ _ _ e => e)

theorem set_get {ps : List PR} {i j : Nat} {p q r : PR} (_hp : ps[i]? = some p) (h : (ps.set i q)[j]? = some r) : (j = i ∧ r = q) ∨ (j ≠ i ∧ ps[j]? = some r) := by
  rw [List.getElem?_set] at h
  split at h
  · rename_i e; subst e
    split at h
    · injection h with h; exact Or.inl ⟨rfl, h.symm⟩
    · cases h
  · rename_i e; exact Or.inr ⟨fun e' => e e'.symm, h⟩

theorem pairs_set {ps : List PR} {i : Nat} {p q : PR} (hp : ps[i]? = some p) (hx : q.x = p.x) (hy : q.y = p.y) : (ps.set i q).flatMap pairC = ps.flatMap pairC := by
  have h1 : ∀ r : PR, pairC r = (fun (a : Nat × Nat) => [Value.pointer (some ⟨a.1, 0, none⟩), .pointer (some ⟨a.2, 0, none⟩)]) (r.x, r.y) := fun _ => rfl
  have h2 : ∀ l : List PR, l.flatMap pairC = (l.map fun r => (r.x, r.y)).flatMap fun (a : Nat × Nat) => [Value.pointer (some ⟨a.1, 0, none⟩), .pointer (some ⟨a.2, 0, none⟩)] := fun l => by
    rw [List.flatMap_map]; rfl
  rw [h2, h2, List.map_set]
  congr 1
  apply List.ext_getElem?
  intro k
  rw [List.getElem?_set]
  split
  · rename_i e; subst e
    have hl : i < ps.length := (List.getElem?_eq_some_iff.1 hp).1
    have hv : ps[i] = p := (List.getElem?_eq_some_iff.1 hp).2
    simp [hl, hv, hx, hy]
  · rfl

/-- the pump x of a pair has moved -/
theorem WSt.moveX (P : Pumpy fN fB fR fO fW pa) (h : WSt pa B w wb vp vd vl vm ds ms ls ps) {i : Nat} {p : PR} (hp : ps[i]? = some p) {R' : RSt} {F' : Nat → Prop} (f : Frm p.fx w w') (hr : pa w' F' p.x R') (hF : ∀ x, F' x → p.fx x ∨ w.heap.size ≤ x) (ok : R'.Ok ∧ R'.Full) :
    WSt pa B w' wb vp vd vl vm ds ms ls (ps.set i { p with fx := F', rx := R' }) := by
  have hlt := fun (j : Nat) (q : PR) (hq : ps[j]? = some q) => WSt.ltF P h hq
  have hLt := h.ltL
  have hnew : ∀ x, F' x → x < w.heap.size → p.fx x := fun x hx hl => by rcases hF x hx with e | e; exact e; omega
  refine ⟨h.L.frm f (fun x hx e => h.off i p hp x (Or.inl e) hx), h.S, ?_, ?_, ?_, ?_, ?_, ?_, ?_, h.bl, ?_, Nat.le_trans h.bB f.size⟩
  · rw [pairs_set (q := { p with fx := F', rx := R' }) hp rfl rfl, List.length_set]
    exact row_frm h.pr f (fun g hg e => h.off i p hp g (Or.inl e) (Or.inr (Or.inl hg)))
  · intro j q hq
    rcases set_get hp hq with ⟨rfl, rfl⟩ | ⟨hne, hq'⟩
    · exact hr
    · exact P.frm (h.rx j q hq') f (fun x hx e => h.sep i j p q hp hq' (Ne.symm hne) x (Or.inl e) (Or.inl hx))
  · intro j q hq
    rcases set_get hp hq with ⟨rfl, rfl⟩ | ⟨hne, hq'⟩
    · exact ref_pumpy.frm (h.ry j p hp) f (fun x hx e => h.xy j p hp x e hx)
    · exact ref_pumpy.frm (h.ry j q hq') f (fun x hx e => h.sep i j p q hp hq' (Ne.symm hne) x (Or.inl e) (Or.inr hx))
  · intro j q hq
    rcases set_get hp hq with ⟨rfl, rfl⟩ | ⟨hne, hq'⟩
    · exact ⟨ok.1, ok.2, (h.ok j p hp).2.2⟩
    · exact h.ok j q hq'
  · intro j q hq x hx hL
    rcases set_get hp hq with ⟨rfl, rfl⟩ | ⟨hne, hq'⟩
    · rcases hx with e | e
      · exact h.off j p hp x (Or.inl (hnew x e (hLt x hL))) hL
      · exact h.off j p hp x (Or.inr e) hL
    · exact h.off j q hq' x hx hL
  · intro j q hq x hx hy
    rcases set_get hp hq with ⟨rfl, rfl⟩ | ⟨hne, hq'⟩
    · exact h.xy j p hp x (hnew x hx (hlt j p hp x (Or.inr hy))) hy
    · exact h.xy j q hq' x hx hy
  · intro j k q r hq hr' hjk x hx hy
    rcases set_get hp hq with ⟨rfl, rfl⟩ | ⟨hne, hq'⟩
    · rcases set_get hp hr' with ⟨rfl, rfl⟩ | ⟨hne2, hr2⟩
      · exact hjk rfl
      · rcases hx with e | e
        · exact h.sep j k p r hp hr2 hjk x (Or.inl (hnew x e (hlt k r hr2 x hy))) hy
        · exact h.sep j k p r hp hr2 hjk x (Or.inr e) hy
    · rcases set_get hp hr' with ⟨rfl, rfl⟩ | ⟨hne2, hr2⟩
      · rcases hy with e | e
        · exact h.sep j k q p hq' hp hjk x hx (Or.inl (hnew x e (hlt j q hq' x hx)))
        · exact h.sep j k q p hq' hp hjk x hx (Or.inr e)
      · exact h.sep j k q r hq' hr2 hjk x hx hy
  · intro j q hq x hx
    rcases set_get hp hq with ⟨rfl, rfl⟩ | ⟨hne, hq'⟩
    · rcases hx with e | e
      · rcases hF x e with e' | e'
        · exact h.bp j p hp x (Or.inl e')
        · exact Nat.le_trans h.bB e'
      · exact h.bp j p hp x (Or.inr e)
    · exact h.bp j q hq' x hx

/-- the pump y of a pair has moved -/
theorem WSt.moveY (P : Pumpy fN fB fR fO fW pa) (h : WSt pa B w wb vp vd vl vm ds ms ls ps) {i : Nat} {p : PR} (hp : ps[i]? = some p) {R' : RSt} {F' : Nat → Prop} (f : Frm p.fy w w') (hr : ra w' F' p.y R') (hF : ∀ x, F' x → p.fy x ∨ w.heap.size ≤ x) (ok : R'.Ok ∧ R'.Full) :
    WSt pa B w' wb vp vd vl vm ds ms ls (ps.set i { p with fy := F', ry := R' }) := by
  have hlt := fun (j : Nat) (q : PR) (hq : ps[j]? = some q) => WSt.ltF P h hq
  have hLt := h.ltL
  have hnew : ∀ x, F' x → x < w.heap.size → p.fy x := fun x hx hl => by rcases hF x hx with e | e; exact e; omega
  refine ⟨h.L.frm f (fun x hx e => h.off i p hp x (Or.inr e) hx), h.S, ?_, ?_, ?_, ?_, ?_, ?_, ?_, h.bl, ?_, Nat.le_trans h.bB f.size⟩
  · rw [pairs_set (q := { p with fy := F', ry := R' }) hp rfl rfl, List.length_set]
    exact row_frm h.pr f (fun g hg e => h.off i p hp g (Or.inr e) (Or.inr (Or.inl hg)))
  · intro j q hq
    rcases set_get hp hq with ⟨rfl, rfl⟩ | ⟨hne, hq'⟩
    · exact P.frm (h.rx j p hp) f (fun x hx e => h.xy j p hp x hx e)
    · exact P.frm (h.rx j q hq') f (fun x hx e => h.sep i j p q hp hq' (Ne.symm hne) x (Or.inr e) (Or.inl hx))
  · intro j q hq
    rcases set_get hp hq with ⟨rfl, rfl⟩ | ⟨hne, hq'⟩
    · exact hr
    · exact ref_pumpy.frm (h.ry j q hq') f (fun x hx e => h.sep i j p q hp hq' (Ne.symm hne) x (Or.inr e) (Or.inr hx))
  · intro j q hq
    rcases set_get hp hq with ⟨rfl, rfl⟩ | ⟨hne, hq'⟩
    · exact ⟨(h.ok j p hp).1, (h.ok j p hp).2.1, ok.1, ok.2⟩
    · exact h.ok j q hq'
  · intro j q hq x hx hL
    rcases set_get hp hq with ⟨rfl, rfl⟩ | ⟨hne, hq'⟩
    · rcases hx with e | e
      · exact h.off j p hp x (Or.inl e) hL
      · exact h.off j p hp x (Or.inr (hnew x e (hLt x hL))) hL
    · exact h.off j q hq' x hx hL
  · intro j q hq x hx hy
    rcases set_get hp hq with ⟨rfl, rfl⟩ | ⟨hne, hq'⟩
    · exact h.xy j p hp x hx (hnew x hy (hlt j p hp x (Or.inl hx)))
    · exact h.xy j q hq' x hx hy
  · intro j k q r hq hr' hjk x hx hy
    rcases set_get hp hq with ⟨rfl, rfl⟩ | ⟨hne, hq'⟩
    · rcases set_get hp hr' with ⟨rfl, rfl⟩ | ⟨hne2, hr2⟩
      · exact hjk rfl
      · rcases hx with e | e
        · exact h.sep j k p r hp hr2 hjk x (Or.inl e) hy
        · exact h.sep j k p r hp hr2 hjk x (Or.inr (hnew x e (hlt k r hr2 x hy))) hy
    · rcases set_get hp hr' with ⟨rfl, rfl⟩ | ⟨hne2, hr2⟩
      · rcases hy with e | e
        · exact h.sep j k q p hq' hp hjk x hx (Or.inl e)
        · exact h.sep j k q p hq' hp hjk x hx (Or.inr (hnew x e (hlt j q hq' x hx)))
      · exact h.sep j k q r hq' hr2 hjk x hx hy
  · intro j q hq x hx
    rcases set_get hp hq with ⟨rfl, rfl⟩ | ⟨hne, hq'⟩
    · rcases hx with e | e
      · exact h.bp j p hp x (Or.inl e)
      · rcases hF x e with e' | e'
        · exact h.bp j p hp x (Or.inr e')
        · exact Nat.le_trans h.bB e'
    · exact h.bp j q hq' x hx
end

end Go.Proofs.YtpilmkipbbengaaGreatDoor
