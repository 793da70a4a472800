/- An order more: memory. -/
import Derived.Test.YtpilmkipbbengaaGreatDoorObas
namespace Go.Proofs.YtpilmkipbbengaaGreatDoor
open Go.RowKit

theorem snoc_get {α : Type} {l : List α} {a x : α} {j : Nat} (h : (l ++ [a])[j]? = some x) : l[j]? = some x ∨ (j = l.length ∧ x = a) := by
  rw [List.getElem?_append] at h
  split at h
  · exact Or.inl h
  · rename_i hl
    have hj : j - l.length < [a].length := (List.getElem?_eq_some_iff.1 h).1
    simp at hj
    have e : j = l.length := by omega
    subst e
    simp at h
    exact Or.inr ⟨rfl, h.symm⟩

def newO (ob cc oc pc : Nat) (rest start stop : Int) (k : Nat) (e1 e2 : Ent) : OrdD := ⟨ob, rest, start, stop, k, some (e1, cc, oc), some (e2, cc, oc, pc)⟩

theorem OAt.snoc {S : Nat → Prop} {w w' : World} {b : Nat} {vc : Value} {sos : List Value} {vo vo' : Value} {xt xt' : List Ent} {nv : Int} {ods : List OrdD} (h : OAt w b vc sos vo xt nv ods) (f : Frm S w w') (hS : ∀ x T, HasT w x T → OTy T → S x → vo.ownBlock = some x)
    {ob cc oc pc g n cap k : Nat} {e1 e2 : Ent} {rest start stop : Int} (lo : w.heap.size ≤ ob) (loc : w.heap.size ≤ oc)
    (bo : Blk w' ob #[I ((ods.length : Int) + 1), I rest, I stop] 148) (bc : Blk w' cc #[ptr g (k * 5)] 130) (boc : Blk w' oc #[pt ob] 149) (bpc : Blk w' pc #[ptr b 0] 34) (hv : vc = .slice (some ⟨g, 0, none⟩) n cap)
    (hr : w'.ownsRow 0 149 1 vo' (ods.length + 1) ((ods.flatMap fun o => [pt o.blk]) ++ [pt ob])) (hn : vo'.ownBlock = vo.ownBlock ∨ ∃ q, vo'.ownBlock = some q ∧ w.heap.size ≤ q) (hno : vo'.ownBlock ≠ some oc)
    (t1 : e1.tick = start) (a1 : e1.act = .func (.func 101) #[] #[ptr cc 0, ptr oc 0]) (t2 : e2.tick = stop) (a2 : e2.act = .func (.func 103) #[] #[ptr cc 0, ptr oc 0, ptr pc 0]) (hk : k < sos.length) (hlt : start < stop) (hx : xt'.Perm (e1 :: e2 :: xt)) :
    OAt w' b vc sos vo' xt' (nv + 1) (ods ++ [newO ob cc oc pc rest start stop k e1 e2]) := by
  have bl : ∀ {x : Nat} {c : Array Value} {T : TypeId}, Blk w x c T → OTy T → vo.ownBlock ≠ some x → Blk w' x c T := fun hx ht hne => hx.frm f fun e => hne (hS _ _ ⟨_, hx⟩ ht e)
  have bl' : ∀ {x : Nat} {c : Array Value} {T : TypeId}, Blk w x c T → OTy T → T ≠ 149 → Blk w' x c T := fun hx ht hne => bl hx ht fun e => hne (HasT.uniq ⟨_, hx⟩ (row_ty h.vor e))
  have rl : ∀ {v : Value} {n : Nat} {xs : List Value}, w.ownsRow 0 149 1 v n xs → Dis v vo → w'.ownsRow 0 149 1 v n xs := fun hq hd => row_frm hq f fun g hg e => hd g hg (hS _ _ (row_ty hq hg) (Or.inr (Or.inl rfl)) e)
  have vnew : ∀ x, vo'.ownBlock = some x → vo.ownBlock = some x ∨ w.heap.size ≤ x := by
    intro x hx
    rcases hn with e | ⟨q, e, hq⟩
    · exact Or.inl (by rw [← e]; exact hx)
    · rw [e] at hx; injection hx with hx; exact Or.inr (by omega)
  have hgo : ∀ l, going (ods ++ [newO ob cc oc pc rest start stop k e1 e2]) l = going ods l := by
    intro l
    rw [going_append]
    have : going [newO ob cc oc pc rest start stop k e1 e2] l = [] := by simp [going, newO, OrdD.on]
    rw [this, List.append_nil]
  have old : ∀ (j : Nat) (o : OrdD), ods[j]? = some o → o.blk < w.heap.size := fun j o hj => (h.ords j o hj).lt
  refine ⟨?_, ?_, ?_, ?_, ?_, ?_, ?_, h.ss, ?_, ?_, ?_, ?_, ?_, ?_, ?_⟩
  · intro j o hj
    rcases snoc_get hj with q | ⟨rfl, rfl⟩
    · exact bl' (h.ords j o q) (Or.inl rfl) (by decide)
    · exact bo
  · intro i j o p hi hj e
    rcases snoc_get hi with q | ⟨rfl, rfl⟩
    · rcases snoc_get hj with q' | ⟨rfl, rfl⟩
      · exact h.dup i j o p q q' e
      · have := old i o q
        have e : o.blk = ob := e
        omega
    · rcases snoc_get hj with q' | ⟨rfl, rfl⟩
      · have := old j p q'
        have e : ob = p.blk := e
        omega
      · rfl
  · have : (ods ++ [newO ob cc oc pc rest start stop k e1 e2]).flatMap (fun o => [pt o.blk]) = (ods.flatMap fun o => [pt o.blk]) ++ [pt ob] := by simp [newO]
    rw [this, List.length_append]
    exact hr
  · intro l s hs
    rw [hgo l]
    exact rl (h.so l s hs) (h.sv l s hs)
  · intro j o e c1 c2 hj he
    rcases snoc_get hj with q | ⟨rfl, rfl⟩
    · obtain ⟨q1, q2, ⟨g, n, cap, q3, q3'⟩, q4⟩ := h.begs j o e c1 c2 q he
      exact ⟨q1, q2, ⟨g, n, cap, q3, bl' q3' (Or.inr (Or.inr (Or.inl rfl))) (by decide)⟩, bl q4 (Or.inr (Or.inl rfl)) (h.bo j o e c1 c2 q he).2⟩
    · simp only [newO, Option.some.injEq, Prod.mk.injEq] at he
      obtain ⟨rfl, rfl, rfl⟩ := he
      exact ⟨t1, a1, ⟨g, n, cap, hv, bc⟩, boc⟩
  · intro j o e c1 c2 c3 hj he
    rcases snoc_get hj with q | ⟨rfl, rfl⟩
    · obtain ⟨q1, q2, ⟨g, n, cap, q3, q3'⟩, q4, q5⟩ := h.fins j o e c1 c2 c3 q he
      exact ⟨q1, q2, ⟨g, n, cap, q3, bl' q3' (Or.inr (Or.inr (Or.inl rfl))) (by decide)⟩, bl q4 (Or.inr (Or.inl rfl)) (h.fo j o e c1 c2 c3 q he).2, bl' q5 (Or.inr (Or.inr (Or.inr rfl))) (by decide)⟩
    · simp only [newO, Option.some.injEq, Prod.mk.injEq] at he
      obtain ⟨rfl, rfl, rfl, rfl⟩ := he
      exact ⟨t2, a2, ⟨g, n, cap, hv, bc⟩, boc, bpc⟩
  · have eb : begsOf (ods ++ [newO ob cc oc pc rest start stop k e1 e2]) = begsOf ods ++ [e1] := by simp [begsOf, newO]
    have ef : finsOf (ods ++ [newO ob cc oc pc rest start stop k e1 e2]) = finsOf ods ++ [e2] := by simp [finsOf, newO]
    rw [eb, ef]
    refine hx.trans (((h.xtp.cons e2).cons e1).trans ?_)
    have p1 : (begsOf ods ++ [e1] ++ (finsOf ods ++ [e2])).Perm (e1 :: (begsOf ods ++ (finsOf ods ++ [e2]))) := by
      simp only [List.append_assoc, List.singleton_append]
      exact List.perm_middle
    have p2 : (begsOf ods ++ (finsOf ods ++ [e2])).Perm (e2 :: (begsOf ods ++ finsOf ods)) := by
      rw [← List.append_assoc]
      exact List.perm_append_singleton _ _
    exact (p1.trans (p2.cons e1)).symm
  · intro l s hs x hx e
    rcases vnew x e with q | q
    · exact h.sv l s hs x hx q
    · have := ((h.so l s hs).lt x hx).2; omega
  · intro j o e c1 c2 hj he
    rcases snoc_get hj with q | ⟨rfl, rfl⟩
    · obtain ⟨q1, q2⟩ := h.bo j o e c1 c2 q he
      have hl := (h.begs j o e c1 c2 q he).2.2.2.lt
      refine ⟨q1, fun e' => ?_⟩
      rcases vnew c2 e' with z | z
      · exact q2 z
      · omega
    · simp only [newO, Option.some.injEq, Prod.mk.injEq] at he
      obtain ⟨rfl, rfl, rfl⟩ := he
      exact ⟨fun l s hs e' => by have := ((h.so l s hs).lt _ e').2; omega, hno⟩
  · intro j o e c1 c2 c3 hj he
    rcases snoc_get hj with q | ⟨rfl, rfl⟩
    · obtain ⟨q1, q2⟩ := h.fo j o e c1 c2 c3 q he
      have hl := (h.fins j o e c1 c2 c3 q he).2.2.2.1.lt
      refine ⟨q1, fun e' => ?_⟩
      rcases vnew c2 e' with z | z
      · exact q2 z
      · omega
    · simp only [newO, Option.some.injEq, Prod.mk.injEq] at he
      obtain ⟨rfl, rfl, rfl, rfl⟩ := he
      exact ⟨fun l s hs e' => by have := ((h.so l s hs).lt _ e').2; omega, hno⟩
  · intro j o hj
    rcases snoc_get hj with q | ⟨rfl, rfl⟩
    · exact h.chn j o q
    · exact hk
  · intro j o hj hb
    rcases snoc_get hj with q | ⟨rfl, rfl⟩
    · exact h.bf j o q hb
    · simp [newO]
  · intro j o hj
    rcases snoc_get hj with q | ⟨rfl, rfl⟩
    · exact h.lt j o q
    · exact hlt
  · have ef : finsOf (ods ++ [newO ob cc oc pc rest start stop k e1 e2]) = finsOf ods ++ [e2] := by simp [finsOf, newO]
    rw [ef, h.cnt]; simp

/-- Add, behind it -/
structure AddG (w : World) (b : Nat) (D : GSt) (vc vw : Value) (x : Ent) (es' : List Ent) (eb' : Option Nat) (num' : Int) (w' : World) : Prop where
  lie : GAt w' b { D with es := es', xt := x :: D.xt, eb := eb', num := num' } vc vw
  len : es'.length = D.es.length + 1
  foot : ∀ y, AgF b eb' es' y → AgF b D.eb D.es y ∨ w.heap.size ≤ y
  frm : Frm (AgF b D.eb D.es) w w'

theorem add_put (b : Nat) (D : GSt) (vc vw : Value) (tick : Int) (f : FuncId) (caps : Array Value) (w : World) (h : GAt w b D vc vw) (hn : D.es.length ≤ 10000) :
    Calls Tryz.prog 64 #[ptr b 4, I tick, .func (.func f) #[] caps] w fun e w' => ∃ x es' eb' num', e = .returned (ptr x.blk 0) ∧ x.tick = tick ∧ x.act = .func (.func f) #[] caps ∧ AddG w b D vc vw x es' eb' num' w' := by
  obtain ⟨sl, ag⟩ := h.ag
  refine (add_any b 4 _ 75 D.eb D.es tick D.num (.func f) caps w ag h.heap (by omega) (by rfl)).mono ?_
  rintro e w5 ⟨x, rfl, x1, x2, x3, x4, sl5, eb5, es5, ag5, pm5, hp5, hb5, fr5⟩
  rw [gCells_num, gCells_sl] at ag5
  have agf : ∀ y, AgF b eb5 es5 y → AgF b D.eb D.es y ∨ w.heap.size ≤ y := by
    rintro y (e | e | ⟨e, he, rfl⟩)
    · exact Or.inl (Or.inl e)
    · rcases hb5 with q | ⟨q, e1, e2⟩
      · exact Or.inl (Or.inr (Or.inl (by rw [← q]; exact e)))
      · rw [e1] at e; injection e with e; exact Or.inr (by omega)
    · rcases List.mem_cons.1 (pm5.mem_iff.1 he) with rfl | h'
      · exact Or.inr x4
      · exact Or.inl (Or.inr (Or.inr ⟨e, h', rfl⟩))
  have pm : es5.Perm (gents D.chs ++ x :: D.xt) := (pm5.trans (h.perm.cons x)).trans List.perm_middle.symm
  exact ⟨x, es5, eb5, _, rfl, x1, x3, h.put agf ag5 hp5 pm fr5, by have := pm5.length_eq; simpa using this, agf, fr5⟩

end Go.Proofs.YtpilmkipbbengaaGreatDoor
