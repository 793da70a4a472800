/- An order more: memory. -/
import Derived.Test.YtahiolfelcmikaaGreatTickM
namespace Go.Proofs.YtahiolfelcmikaaGreat
open Go.RowKit

theorem snoc_get {α : Type} {l : List α} {a x : α} {j : Nat} (h : (l ++ [a])[j]? = some x) : l[j]? = some x ∨ (j = l.length ∧ x = a) := by
  rw [List.getElem?_append] at h
  split at h
  · exact Or.inl h
  · rename_i hl
    have hj : j - l.length < [a].length := (List.getElem?_eq_some_iff.1 h).1
    simp at hj
    have e : j = l.length := by omega
    subst e
    simp at h
    exact Or.inr ⟨rfl, h.symm⟩

def newO (ob cc oc pc : Nat) (rest start stop : Int) (k : Nat) (e1 e2 : Ent) : OrdD := ⟨ob, rest, start, stop, k, some (e1, cc, oc), some (e2, cc, oc, pc)⟩

theorem OAt.snoc {S : Nat → Prop} {w w' : World} {b : Nat} {vc : Value} {sos : List Value} {vo vo' : Value} {xt xt' : List Ent} {nv : Int} {ods : List OrdD} (h : OAt w b vc sos vo xt nv ods) (f : Frm S w w') (hS : ∀ x T, HasT w x T → OTy T → S x → vo.ownBlock = some x)
    {ob cc oc pc g n cap k : Nat} {e1 e2 : Ent} {rest start stop : Int} (lo : w.heap.size ≤ ob) (loc : w.heap.size ≤ oc)
    (bo : Blk w' ob #[I ((ods.length : Int) + 1), I rest, I stop] 109) (bc : Blk w' cc #[ptr g (k * 5)] 113) (boc : Blk w' oc #[pt ob] 110) (bpc : Blk w' pc #[ptr b 0] 43) (hv : vc = .slice (some ⟨g, 0, none⟩) n cap)
    (hr : w'.ownsRow 0 110 1 vo' (ods.length + 1) ((ods.flatMap fun o => [pt o.blk]) ++ [pt ob])) (hn : vo'.ownBlock = vo.ownBlock ∨ ∃ q, vo'.ownBlock = some q ∧ w.heap.size ≤ q) (hno : vo'.ownBlock ≠ some oc)
    (t1 : e1.tick = start) (a1 : e1.act = .func (.func 83) #[] #[ptr cc 0, ptr oc 0]) (t2 : e2.tick = stop) (a2 : e2.act = .func (.func 85) #[] #[ptr cc 0, ptr oc 0, ptr pc 0]) (hk : k < sos.length) (hlt : start < stop) (hx : xt'.Perm (e1 :: e2 :: xt)) :
    OAt w' b vc sos vo' xt' (nv + 1) (ods ++ [newO ob cc oc pc rest start stop k e1 e2]) := by
  have bl : ∀ {x : Nat} {c : Array Value} {T : TypeId}, Blk w x c T → OTy T → vo.ownBlock ≠ some x → Blk w' x c T := fun hx ht hne => hx.frm f fun e => hne (hS _ _ ⟨_, hx⟩ ht e)
  have bl' : ∀ {x : Nat} {c : Array Value} {T : TypeId}, Blk w x c T → OTy T → T ≠ 110 → Blk w' x c T := fun hx ht hne => bl hx ht fun e => hne (HasT.uniq ⟨_, hx⟩ (row_ty h.vor e))
  have rl : ∀ {v : Value} {n : Nat} {xs : List Value}, w.ownsRow 0 110 1 v n xs → Dis v vo → w'.ownsRow 0 110 1 v n xs := fun hq hd => row_frm hq f fun g hg e => hd g hg (hS _ _ (row_ty hq hg) (Or.inr (Or.inl rfl)) e)
  have vnew : ∀ x, vo'.ownBlock = some x → vo.ownBlock = some x ∨ w.heap.size ≤ x := by
    intro x hx
    rcases hn with e | ⟨q, e, hq⟩
    · exact Or.inl (by rw [← e]; exact hx)
    · rw [e] at hx; injection hx with hx; exact Or.inr (by omega)
  have hgo : ∀ l, going (ods ++ [newO ob cc oc pc rest start stop k e1 e2]) l = going ods l := by
    intro l
    rw [going_append]
    have : going [newO ob cc oc pc rest start stop k e1 e2] l = [] := by simp [going, newO, OrdD.on]
    rw [this, List.append_nil]
  have old : ∀ (j : Nat) (o : OrdD), ods[j]? = some o → o.blk < w.heap.size := fun j o hj => (h.ords j o hj).lt
  refine ⟨?_, ?_, ?_, ?_, ?_, ?_, ?_, h.ss, ?_, ?_, ?_, ?_, ?_, ?_, ?_⟩
  · intro j o hj
    rcases snoc_get hj with q | ⟨rfl, rfl⟩
    · exact bl' (h.ords j o q) (Or.inl rfl) (by decide)
    · exact bo
  · intro i j o p hi hj e
    rcases snoc_get hi with q | ⟨rfl, rfl⟩
    · rcases snoc_get hj with q' | ⟨rfl, rfl⟩
      · exact h.dup i j o p q q' e
      · have := old i o q
        have e : o.blk = ob := e
        omega
    · rcases snoc_get hj with q' | ⟨rfl, rfl⟩
      · have := old j p q'
        have e : ob = p.blk := e
        omega
      · rfl
  · have : (ods ++ [newO ob cc oc pc rest start stop k e1 e2]).flatMap (fun o => [pt o.blk]) = (ods.flatMap fun o => [pt o.blk]) ++ [pt ob] := by simp [newO]
    rw [this, List.length_append]
    exact hr
  · intro l s hs
    rw [hgo l]
    exact rl (h.so l s hs) (h.sv l s hs)
  · intro j o e c1 c2 hj he
    rcases snoc_get hj with q | ⟨rfl, rfl⟩
    · obtain ⟨q1, q2, ⟨g, n, cap, q3, q3'⟩, q4⟩ := h.begs j o e c1 c2 q he
      exact ⟨q1, q2, ⟨g, n, cap, q3, bl' q3' (Or.inr (Or.inr (Or.inl rfl))) (by decide)⟩, bl q4 (Or.inr (Or.inl rfl)) (h.bo j o e c1 c2 q he).2⟩
    · simp only [newO, Option.some.injEq, Prod.mk.injEq] at he
      obtain ⟨rfl, rfl, rfl⟩ := he
      exact ⟨t1, a1, ⟨g, n, cap, hv, bc⟩, boc⟩
  · intro j o e c1 c2 c3 hj he
    rcases snoc_get hj with q | ⟨rfl, rfl⟩
    · obtain ⟨q1, q2, ⟨g, n, cap, q3, q3'⟩, q4, q5⟩ := h.fins j o e c1 c2 c3 q he
      exact ⟨q1, q2, ⟨g, n, cap, q3, bl' q3' (Or.inr (Or.inr (Or.inl rfl))) (by decide)⟩, bl q4 (Or.inr (Or.inl rfl)) (h.fo j o e c1 c2 c3 q he).2, bl' q5 (Or.inr (Or.inr (Or.inr rfl))) (by decide)⟩
    · simp only [newO, Option.some.injEq, Prod.mk.injEq] at he
      obtain ⟨rfl, rfl, rfl, rfl⟩ := he
      exact ⟨t2, a2, ⟨g, n, cap, hv, bc⟩, boc, bpc⟩
  · have eb : begsOf (ods ++ [newO ob cc oc pc rest start stop k e1 e2]) = begsOf ods ++ [e1] := by simp [begsOf, newO]
    have ef : finsOf (ods ++ [newO ob cc oc pc rest start stop k e1 e2]) = finsOf ods ++ [e2] := by simp [finsOf, newO]
    rw [eb, ef]
    refine hx.trans (((h.xtp.cons e2).cons e1).trans ?_)
    have p1 : (begsOf ods ++ [e1] ++ (finsOf ods ++ [e2])).Perm (e1 :: (begsOf ods ++ (finsOf ods ++ [e2]))) := by
      simp only [List.append_assoc, List.singleton_append]
      exact List.perm_middle
    have p2 : (begsOf ods ++ (finsOf ods ++ [e2])).Perm (e2 :: (begsOf ods ++ finsOf ods)) := by
      rw [← List.append_assoc]
      exact List.perm_append_singleton _ _
    exact (p1.trans (p2.cons e1)).symm
  · intro l s hs x hx e
    rcases vnew x e with q | q
    · exact h.sv l s hs x hx q
    · have := ((h.so l s hs).lt x hx).2; omega
  · intro j o e c1 c2 hj he
    rcases snoc_get hj with q | ⟨rfl, rfl⟩
    · obtain ⟨q1, q2⟩ := h.bo j o e c1 c2 q he
      have hl := (h.begs j o e c1 c2 q he).2.2.2.lt
      refine ⟨q1, fun e' => ?_⟩
      rcases vnew c2 e' with z | z
      · exact q2 z
      · omega
    · simp only [newO, Option.some.injEq, Prod.mk.injEq] at he
      obtain ⟨rfl, rfl, rfl⟩ := he
      exact ⟨fun l s hs e' => by have := ((h.so l s hs).lt _ e').2; omega, hno⟩
  · intro j o e c1 c2 c3 hj he
    rcases snoc_get hj with q | ⟨rfl, rfl⟩
    · obtain ⟨q1, q2⟩ := h.fo j o e c1 c2 c3 q he
      have hl := (h.fins j o e c1 c2 c3 q he).2.2.2.1.lt
      refine ⟨q1, fun e' => ?_⟩
      rcases vnew c2 e' with z | z
      · exact q2 z
      · omega
    · simp only [newO, Option.some.injEq, Prod.mk.injEq] at he
      obtain ⟨rfl, rfl, rfl, rfl⟩ := he
      exact ⟨fun l s hs e' => by have := ((h.so l s hs).lt _ e').2; omega, hno⟩
  · intro j o hj
    rcases snoc_get hj with q | ⟨rfl, rfl⟩
    · exact h.chn j o q
    · exact hk
  · intro j o hj hb
    rcases snoc_get hj with q | ⟨rfl, rfl⟩
    · exact h.bf j o q hb
    · simp [newO]
  · intro j o hj
    rcases snoc_get hj with q | ⟨rfl, rfl⟩
    · exact h.lt j o q
    · exact hlt
  · have ef : finsOf (ods ++ [newO ob cc oc pc rest start stop k e1 e2]) = finsOf ods ++ [e2] := by simp [finsOf, newO]
    rw [ef, h.cnt]; simp

/-- Add, behind it -/
structure AddG (w : World) (b : Nat) (D : GSt) (vc vw : Value) (x : Ent) (es' : List Ent) (eb' : Option Nat) (num' : Int) (w' : World) : Prop where
  lie : GAt w' b { D with es := es', xt := x :: D.xt, eb := eb', num := num' } vc vw
  len : es'.length = D.es.length + 1
  foot : ∀ y, AgF b eb' es' y → AgF b D.eb D.es y ∨ w.heap.size ≤ y
  frm : Frm (AgF b D.eb D.es) w w'

theorem add_put (b : Nat) (D : GSt) (vc vw : Value) (tick : Int) (f : FuncId) (caps : Array Value) (w : World) (h : GAt w b D vc vw) (hn : D.es.length ≤ 10000) :
    Calls Tryz.prog 60 #[ptr b 4, I tick, .func (.func f) #[] caps] w fun e w' => ∃ x es' eb' num', e = .returned (ptr x.blk 0) ∧ x.tick = tick ∧ x.act = .func (.func f) #[] caps ∧ AddG w b D vc vw x es' eb' num' w' := by
  obtain ⟨sl, ag⟩ := h.ag
  refine (add_any b 4 _ 94 D.eb D.es tick D.num (.func f) caps w ag h.heap (by omega) (by rfl)).mono ?_
  rintro e w5 ⟨x, rfl, x1, x2, x3, x4, sl5, eb5, es5, ag5, pm5, hp5, hb5, fr5⟩
  rw [gCells_num, gCells_sl] at ag5
  have agf : ∀ y, AgF b eb5 es5 y → AgF b D.eb D.es y ∨ w.heap.size ≤ y := by
    rintro y (e | e | ⟨e, he, rfl⟩)
    · exact Or.inl (Or.inl e)
    · rcases hb5 with q | ⟨q, e1, e2⟩
      · exact Or.inl (Or.inr (Or.inl (by rw [← q]; exact e)))
      · rw [e1] at e; injection e with e; exact Or.inr (by omega)
    · rcases List.mem_cons.1 (pm5.mem_iff.1 he) with rfl | h'
      · exact Or.inr x4
      · exact Or.inl (Or.inr (Or.inr ⟨e, h', rfl⟩))
  have pm : es5.Perm (gents D.chs ++ x :: D.xt) := (pm5.trans (h.perm.cons x)).trans List.perm_middle.symm
  exact ⟨x, es5, eb5, _, rfl, x1, x3, h.put agf ag5 hp5 pm fr5, by have := pm5.length_eq; simpa using this, agf, fr5⟩

end Go.Proofs.YtahiolfelcmikaaGreat

/- An order more: what take leaves. -/
namespace Go.Proofs.YtahiolfelcmikaaGreat
open Go.RowKit

theorem GAt.oblk {w w' : World} {b : Nat} {D : GSt} {vc vw : Value} (h : GAt w b D vc vw) (f : Frm (GW b D vc vw) w w') {x : Nat} {c : Array Value} {T : TypeId} (hb : Blk w x c T) (ho : OTy T) : Blk w' x c T :=
  hb.frm f fun e => by
    obtain ⟨T', q1, q2⟩ := h.ty e
    have := q1.uniq ⟨_, hb⟩
    subst this
    exact q2.noO ho
theorem GAt.orow {w w' : World} {b : Nat} {D : GSt} {vc vw : Value} (h : GAt w b D vc vw) (f : Frm (GW b D vc vw) w w') {v : Value} {n : Nat} {xs : List Value} (hr : w.ownsRow 0 110 1 v n xs) : w'.ownsRow 0 110 1 v n xs :=
  row_frm hr f fun x hx e => by
    obtain ⟨T', q1, q2⟩ := h.ty e
    have := q1.uniq (row_ty hr hx)
    subst this
    exact q2.noO (Or.inr (Or.inl rfl))

/-- the order is made, and in the list -/
structure TakeA (w wx : World) (b : Nat) (D : GSt) (vc vw : Value) (ods : List OrdD) (rest stop : Int) (vo' : Value) : Prop where
  g : GAt wx b { D with vo := vo' } vc vw
  frm : Frm (fun x => D.vo.ownBlock = some x ∨ AgF b D.eb D.es x) w wx
  bpc : Blk wx w.heap.size #[ptr b 0] 43
  bob : Blk wx (w.heap.size + 1) #[I ((ods.length : Int) + 1), I rest, I stop] 109
  boc : Blk wx (w.heap.size + 2) #[pt (w.heap.size + 1)] 110
  row : wx.ownsRow 0 110 1 vo' (ods.length + 1) ((ods.flatMap fun o => [pt o.blk]) ++ [pt (w.heap.size + 1)])
  hn : vo'.ownBlock = D.vo.ownBlock ∨ ∃ q, vo'.ownBlock = some q ∧ w.heap.size ≤ q
  hno : vo'.ownBlock ≠ some (w.heap.size + 2)

theorem takeA_of {w W w2 w5 : World} {b : Nat} {D : GSt} {vc vw : Value} {ods : List OrdD} {rest stop : Int} {v5 : Value} (h : PAt w b D vc vw ods)
    (hw2 : w2 = (((w.alloc (.cells #[ptr b 0] 43)).alloc (.cells #[I ((ods.length : Int) + 1), I rest, I stop] 109)).alloc (.cells #[pt (w.heap.size + 1)] 110))) (kW : Keep w2 W)
    (hown : w5.ownsRow 0 110 1 v5 (ods.length + 1) ((ods.flatMap fun o => [pt o.blk]) ++ [pt (w.heap.size + 1)])) (hg : W.grownBy w5 D.vo.ownBlock) (hnew : v5.ownBlock = D.vo.ownBlock ∨ (v5.ownBlock = some W.heap.size ∧ W.grownBy w5 none)) :
    TakeA w (w5.setCell ⟨b, 6, none⟩ v5) b D vc vw ods rest stop v5 := by
  have s2 : w2.heap.size = w.heap.size + 3 := by rw [hw2]; simp
  have k2 : Keep w w2 := by rw [hw2]; exact (((Frm.refl _ _).alloc _).alloc _).alloc _
  have kk : Keep w W := k2.trans kW
  have sW := kW.size
  have hvl : ∀ x, D.vo.ownBlock = some x → x < w.heap.size := fun x hx => (h.o.vor.lt x hx).2
  have f5 := grown_frm hg
  have hP := h.keep kk
  have g5 : GAt w5 b D vc vw := hP.g.frmO f5 fun x e => Or.inl (row_ty hP.o.vor e)
  obtain ⟨s1, sf⟩ := g5.setHead (D' := { D with vo := v5 }) 6 (by decide) v5 (fun sl => by simp [gCells]) rfl rfl rfl rfl rfl
  have sf' : Frm (GW b D vc vw) w5 (w5.setCell ⟨b, 6, none⟩ v5) := sf.mono fun x _ e => Or.inl (Or.inl e)
  have b1 : Blk w2 w.heap.size #[ptr b 0] 43 := by rw [hw2]; exact ((Blk.new w _ _).alloc _).alloc _
  have b2 : Blk w2 (w.heap.size + 1) #[I ((ods.length : Int) + 1), I rest, I stop] 109 := by
    rw [hw2]
    have := (Blk.new (w.alloc (.cells #[ptr b 0] 43)) #[I ((ods.length : Int) + 1), I rest, I stop] 109).alloc (.cells #[pt (w.heap.size + 1)] 110)
    simpa using this
  have b3 : Blk w2 (w.heap.size + 2) #[pt (w.heap.size + 1)] 110 := by
    rw [hw2]
    have := Blk.new ((w.alloc (.cells #[ptr b 0] 43)).alloc (.cells #[I ((ods.length : Int) + 1), I rest, I stop] 109)) #[pt (w.heap.size + 1)] 110
    simpa using this
  have keep5 : ∀ {x : Nat} {c : Array Value} {T : TypeId}, Blk w2 x c T → OTy T → w.heap.size ≤ x → Blk (w5.setCell ⟨b, 6, none⟩ v5) x c T := by
    intro x c T hb ho hx
    exact g5.oblk sf' ((kW.blk hb).frm f5 fun e => by have := hvl x e; omega) ho
  refine ⟨s1, ?_, keep5 b1 (Or.inr (Or.inr (Or.inr rfl))) (Nat.le_refl _), keep5 b2 (Or.inl rfl) (by omega), keep5 b3 (Or.inr (Or.inl rfl)) (by omega), g5.orow sf' hown, ?_, ?_⟩
  · exact ((kk.mono fun _ _ e => e.elim).trans2 f5 fun x _ e => Or.inl e).trans (sf.mono fun x _ e => Or.inr (Or.inl e))
  · rcases hnew with e | ⟨e, -⟩
    · exact Or.inl e
    · exact Or.inr ⟨_, e, by omega⟩
  · intro e
    rcases hnew with q | ⟨q, -⟩
    · rw [q] at e; have := hvl _ e; omega
    · rw [q] at e; injection e with e; omega

/-- both entries are in the agenda -/
theorem take_in {w wx w5 w6 W6 w7 : World} {b : Nat} {D : GSt} {vc vw vo' : Value} {ods : List OrdD} {rest start stop : Int} {k g cap : Nat} {e1 e2 : Ent} {es1 es2 : List Ent} {eb1 eb2 : Option Nat} {n1 n2 : Int} (h : PAt w b D vc vw ods) (A : TakeA w wx b D vc vw ods rest stop vo')
    (hv : vc = .slice (some ⟨g, 0, none⟩) D.chs.length cap) (hk : k < D.chs.length) (hlt : start < stop) (h5 : w5 = (wx.setCell ⟨b, 7, none⟩ (I (D.nv + 1))).alloc (.cells #[ptr g (k * 5)] 113))
    (G1 : AddG w5 b { D with vo := vo', nv := D.nv + 1 } vc vw e1 es1 eb1 n1 w6) (k6 : Keep w6 W6) (G2 : AddG W6 b { D with vo := vo', nv := D.nv + 1, es := es1, xt := e1 :: D.xt, eb := eb1, num := n1 } vc vw e2 es2 eb2 n2 w7)
    (t1 : e1.tick = start) (a1 : e1.act = .func (.func 83) #[] #[ptr wx.heap.size 0, ptr (w.heap.size + 2) 0]) (t2 : e2.tick = stop) (a2 : e2.act = .func (.func 85) #[] #[ptr wx.heap.size 0, ptr (w.heap.size + 2) 0, ptr w.heap.size 0]) :
    PAt w7 b { D with vo := vo', nv := D.nv + 1, es := es2, xt := e2 :: e1 :: D.xt, eb := eb2, num := n2 } vc vw (ods ++ [newO (w.heap.size + 1) wx.heap.size (w.heap.size + 2) w.heap.size rest start stop k e1 e2]) ∧
      Frm (PF b D vc vw ods) w w7 ∧ ∀ x, PF b { D with vo := vo', nv := D.nv + 1, es := es2, xt := e2 :: e1 :: D.xt, eb := eb2, num := n2 } vc vw (ods ++ [newO (w.heap.size + 1) wx.heap.size (w.heap.size + 2) w.heap.size rest start stop k e1 e2]) x → PF b D vc vw ods x ∨ w.heap.size ≤ x := by
  obtain ⟨s1, sf⟩ := A.g.setHead (D' := { D with vo := vo', nv := D.nv + 1 }) 7 (by decide) (I (D.nv + 1)) (fun sl => by simp [gCells]) rfl rfl rfl rfl rfl
  have ka : Keep (wx.setCell ⟨b, 7, none⟩ (I (D.nv + 1))) w5 := by rw [h5]; exact (Frm.refl _ _).alloc _
  have g5 : GAt w5 b { D with vo := vo', nv := D.nv + 1 } vc vw := s1.keep ka
  have f5 : Frm (GW b { D with vo := vo' } vc vw) wx w5 := (sf.mono fun x _ e => Or.inl (Or.inl e)).trans2 ka fun _ _ e => e.elim
  have f6 : Frm (GW b { D with vo := vo', nv := D.nv + 1 } vc vw) w5 W6 := (G1.frm.mono fun x _ e => Or.inl e).trans2 k6 fun _ _ e => e.elim
  have g6 := G1.lie.keep k6
  have f7 : Frm (GW b { D with vo := vo', nv := D.nv + 1, es := es1, xt := e1 :: D.xt, eb := eb1, num := n1 } vc vw) W6 w7 := G2.frm.mono fun x _ e => Or.inl e
  have all : ∀ {x : Nat} {c : Array Value} {T : TypeId}, Blk wx x c T → OTy T → Blk w7 x c T := fun hb ho => g6.oblk f7 (g5.oblk f6 (A.g.oblk f5 hb ho) ho) ho
  have sz : w.heap.size ≤ wx.heap.size := A.frm.size
  have sz5 : wx.heap.size ≤ w5.heap.size := f5.size
  have sz6 : w5.heap.size ≤ W6.heap.size := f6.size
  have bcc : Blk w7 wx.heap.size #[ptr g (k * 5)] 113 := by
    have hb : Blk w5 wx.heap.size #[ptr g (k * 5)] 113 := by
      rw [h5]
      have := Blk.new (wx.setCell ⟨b, 7, none⟩ (I (D.nv + 1))) #[ptr g (k * 5)] 113
      have e : (wx.setCell ⟨b, 7, none⟩ (I (D.nv + 1))).heap.size = wx.heap.size := World.size_setCell ..
      rw [e] at this
      exact this
    have ho : OTy 113 := Or.inr (Or.inr (Or.inl rfl))
    exact g6.oblk f7 (g5.oblk f6 hb ho) ho
  have ff : Frm (fun x => D.vo.ownBlock = some x ∨ AgF b D.eb D.es x) w w7 := by
    refine ((A.frm.trans2 (sf.trans2 ka fun _ _ e => e.elim) fun x _ e => Or.inr (Or.inl e)).trans2 (G1.frm.trans2 k6 fun _ _ e => e.elim) fun x _ e => Or.inr e).trans2 G2.frm fun x hx e => ?_
    rcases G1.foot x e with q | q
    · exact Or.inr q
    · omega
  have hsk : k < (sosOf D.chs).length := by simpa [sosOf] using hk
  have hO := h.o.snoc (xt' := e2 :: e1 :: D.xt) ff (fun x T hT ho e => by
      rcases e with e | e
      · exact e
      · exfalso
        obtain ⟨T', q1, q2⟩ := h.g.ty (Or.inl e)
        have := q1.uniq hT
        subst this
        exact q2.noO ho) (by omega) (by omega) (all A.bob (Or.inl rfl)) bcc (all A.boc (Or.inr (Or.inl rfl))) (all A.bpc (Or.inr (Or.inr (Or.inr rfl)))) hv (g6.orow f7 (g5.orow f6 (A.g.orow f5 A.row))) A.hn A.hno t1 a1 t2 a2 hsk hlt (List.Perm.swap _ _ _)
  refine ⟨⟨G2.lie, hO⟩, ff.mono fun x _ e => ?_, ?_⟩
  · rcases e with e | e
    · exact Or.inr (Or.inr (Or.inl e))
    · exact Or.inl (Or.inl e)
  · rintro x ((e | e | e | e) | e)
    · rcases G2.foot x e with q | q
      · rcases G1.foot x q with q | q
        · exact Or.inl (Or.inl (Or.inl q))
        · exact Or.inr (by omega)
      · exact Or.inr (by omega)
    · exact Or.inl (Or.inl (Or.inr (Or.inl e)))
    · exact Or.inl (Or.inl (Or.inr (Or.inr (Or.inl e))))
    · exact Or.inl (Or.inl (Or.inr (Or.inr (Or.inr e))))
    · rcases e with ⟨j, o, hj, hh⟩ | e | ⟨l, s, hs, e⟩
      · rcases snoc_get hj with q | ⟨rfl, rfl⟩
        · exact Or.inl (Or.inr (Or.inl ⟨j, o, q, hh⟩))
        · right
          rcases hh with rfl | ⟨e, c1, c2, he, hh⟩ | ⟨e, c1, c2, c3, he, hh⟩
          · show w.heap.size ≤ w.heap.size + 1
            omega
          · simp only [newO, Option.some.injEq, Prod.mk.injEq] at he
            obtain ⟨rfl, rfl, rfl⟩ := he
            omega
          · simp only [newO, Option.some.injEq, Prod.mk.injEq] at he
            obtain ⟨rfl, rfl, rfl, rfl⟩ := he
            omega
      · rcases A.hn with q | ⟨q, q1, q2⟩
        · exact Or.inl (Or.inr (Or.inr (Or.inl (by rw [← q]; exact e))))
        · have e : vo'.ownBlock = some x := e
          rw [q1] at e; injection e with e; exact Or.inr (by omega)
      · exact Or.inl (Or.inr (Or.inr (Or.inr ⟨l, s, hs, e⟩)))

/-- orders, as time has it -/
theorem OSame.late {t : Int} {ods ods' : List OrdD} (h : OSame t ods ods') (ht : ∀ o ∈ ods, (o.beg = none → o.start ≤ t) ∧ (o.fin = none → o.stop ≤ t)) (hb : ∀ o ∈ ods', ∀ y, o.beg = some y → t < o.start) (hf : ∀ o ∈ ods', ∀ y, o.fin = some y → t < o.stop) : ∀ o ∈ ods', Turned t o := by
  intro o ho
  obtain ⟨j, hj⟩ := List.getElem?_of_mem ho
  obtain ⟨o0, a1, a2, a3, a4, a5, a6, a7, a8⟩ := h.2 j o hj
  obtain ⟨t1, t2⟩ := ht o0 (List.mem_of_getElem? a1)
  refine ⟨⟨fun e => ?_, fun e => ?_⟩, fun e => ?_, fun e => ?_⟩
  · rcases a7 with q | q
    · rw [a4]; exact t1 (by rw [← q]; exact e)
    · exact q.2
  · cases hh : o.beg with
    | none => rfl
    | some y => have := hb o ho y hh; omega
  · rcases a8 with q | q
    · rw [a5]; exact t2 (by rw [← q]; exact e)
    · exact q.2
  · cases hh : o.fin with
    | none => rfl
    | some y => have := hf o ho y hh; omega

/-- what is due at once has been done -/
def Taken (w : World) (b : Nat) (D : GSt) (vc vw : Value) (ods : List OrdD) (R : RSt) (w' : World) : Prop :=
  Goes w b D vc vw ods R w' ∧ w'.cell? ⟨w.heap.size + 2, 0, none⟩ = some (pt (w.heap.size + 1)) ∧ w'.cell? ⟨w.heap.size + 1, 0, none⟩ = some (I ((ods.length : Int) + 1))

theorem take_reach {w w7 : World} {b : Nat} {D D7 : GSt} {vc vw : Value} {ods : List OrdD} {R : RSt} {rest start stop : Int} {k cc : Nat} {e1 e2 : Ent} (rel : ORel D ods R) (ok : R.Ok) (hol : ods.length ≤ 3208) (hlt : R.now < stop) (h7 : PAt w7 b D7 vc vw (ods ++ [newO (w.heap.size + 1) cc (w.heap.size + 2) w.heap.size rest start stop k e1 e2]))
    (d1 : D7.now = D.now) (d2 : D7.lock = D.lock) (d3 : D7.ws = D.ws) (d4 : D7.chs = D.chs) (f7 : Frm (PF b D vc vw ods) w w7) (foot : ∀ x, PF b D7 vc vw (ods ++ [newO (w.heap.size + 1) cc (w.heap.size + 2) w.heap.size rest start stop k e1 e2]) x → PF b D vc vw ods x ∨ w.heap.size ≤ x) (m : Nat) :
    Calls Tryz.prog 74 #[ptr b 4, I R.now] (w7.drewN m) fun e w8 => e = .returned (.tuple #[]) ∧ Taken w b D vc vw ods { R with os := R.os ++ [⟨k, start, stop, rest⟩] } w8 := by
  have nc : D7.chs.length ≤ 4 := by rw [d4, rel.nch]; exact ok.nc1
  have kp : Keep w7 (w7.drewN m) := (Frm.refl _ _).drewN _
  generalize hods : ods ++ [newO (w.heap.size + 1) cc (w.heap.size + 2) w.heap.size rest start stop k e1 e2] = ods7 at *
  have hl7 : ods7.length = ods.length + 1 := by rw [← hods]; simp
  have hi : PInv w7 b D7 ods7 vc vw R.now (w7.drewN m) D7.es.length :=
    ⟨_, ods7, ⟨h7.keep kp, rfl, rfl, rfl, rfl, rfl, rfl, CSame.refl _ _, OSame.refl _ _, fun _ hx => Or.inl hx, (Frm.refl _ _).drewN _⟩, rfl⟩
  refine (reach_any _ b 4 R.now (pinv_due w7 b D7 ods7 vc vw R.now nc (by omega)) D7.es.length (w7.drewN m) hi).mono ?_
  intro e w8 he
  obtain ⟨rfl, D8, ods8, r, late⟩ := preached w7 w8 b D7 ods7 vc vw R.now e he
  have hget : ods7[ods.length]? = some (newO (w.heap.size + 1) cc (w.heap.size + 2) w.heap.size rest start stop k e1 e2) := by rw [← hods]; simp
  have hl8 : ods.length < ods8.length := by rw [r.osm.1]; omega
  obtain ⟨o8, ho8⟩ : ∃ o, ods8[ods.length]? = some o := ⟨_, List.getElem?_eq_getElem hl8⟩
  obtain ⟨o7, a1, a2, a3, a4, a5, a6, a7, a8⟩ := r.osm.2 _ _ ho8
  rw [hget] at a1
  simp only [Option.some.injEq] at a1
  subst a1
  have hfin : o8.fin = some (e2, cc, w.heap.size + 2, w.heap.size) := by
    rcases a8 with q | ⟨-, q⟩
    · exact q
    · rw [a5] at q
      have q : stop ≤ R.now := q
      omega
  have bf := (r.lie.o.fins _ o8 _ _ _ _ ho8 hfin).2.2.2.1
  have bo := r.lie.o.ords _ o8 ho8
  have hbk : o8.blk = w.heap.size + 1 := a2
  rw [hbk] at bf bo
  have sz := f7.size
  refine ⟨rfl, ⟨D8, ods8, r.lie, ?_, fun x hx => ?_, ?_⟩, by rw [bf.cell]; rfl, by rw [bo.cell]; rfl⟩
  · refine ⟨by rw [r.now, d1]; exact rel.now, by rw [r.lock, d2]; exact rel.lock, rel.l0, rel.l1, ?_, ?_, by rw [r.ws, d3]; exact rel.fits, rel.past, by rw [r.chs.1, d4]; exact rel.nch, ?_⟩
    · show R.os ++ [_] = _
      rw [r.osm.toR, ← hods, rel.os]
      simp [toR, newO]
    · refine r.osm.late ?_ ?_ ?_
      · intro o ho
        rw [← hods] at ho
        rcases List.mem_append.1 ho with q | q
        · have := rel.trn o q
          exact ⟨this.1.1, this.2.1⟩
        · simp at q; subst q
          exact ⟨fun e => by simp [newO] at e, fun e => by simp [newO] at e⟩
      · intro o ho y hy
        obtain ⟨q1, q2⟩ := beg_in r.lie ho hy
        have := late _ q1; rw [← q2]; exact this
      · intro o ho y hy
        obtain ⟨q1, q2⟩ := fin_in r.lie ho hy
        have := late _ q1; rw [← q2]; exact this
    · intro l d c hd hc
      obtain ⟨d0, hd0, c1, c2, hcase⟩ := r.chs.2 l d hd
      rw [d4] at hd0
      have rc := rel.ch l d0 c hd0 hc
      rcases hcase with ⟨q1, q2⟩ | ⟨-, -, e, cb, he, ht⟩
      · unfold OChRel at rc ⊢
        rw [c1, c2, q1, q2]; exact rc
      · have := rc.2.2.2.1 e cb he
        omega
  · rcases r.foot x hx with q | q
    · exact foot x q
    · exact Or.inr (by omega)
  · exact f7.trans2 r.frm fun x hx e => by
      rcases foot x e with q | q
      · exact q
      · omega

end Go.Proofs.YtahiolfelcmikaaGreat

/- take. -/
namespace Go.Proofs.YtahiolfelcmikaaGreat
open Go.RowKit

set_option maxRecDepth 100000 in
set_option maxHeartbeats 3200000 in
theorem take_call (b : Nat) (D : GSt) (vc vw : Value) (ods : List OrdD) (R : RSt) (k : Nat) (a d t : Int) (w : World) (h : PAt w b D vc vw ods) (rel : ORel D ods R) (ok : R.Ok) (full : R.Full) (hk : k < D.chs.length) (_a0 : 1 ≤ a) (_a1 : a ≤ 1000) (d0 : 0 ≤ d) (d1 : d ≤ 400) (t0 : 1 ≤ t) (t1 : t ≤ 400) :
    Calls Tryz.prog 63 #[ptr b 0, I k, I a, I d, I t] w fun e w' => e = .returned (I ((ods.length : Int) + 1)) ∧ Goes w b D vc vw ods { R with os := R.os ++ [⟨k, R.now + d, R.now + d + t, a⟩] } w' := by
  have hol : ods.length ≤ 3208 := by
    have q1 := congrArg List.length rel.os
    simp only [List.length_map] at q1
    have q2 := full.2.1
    have q3 := full.2.2
    have q4 := ok.now1
    omega
  have nc : D.chs.length ≤ 4 := by rw [rel.nch]; exact ok.nc1
  have hes := h.esLen nc (by omega)
  obtain ⟨c, hc⟩ : ∃ c, D.chs[k]? = some c := ⟨_, List.getElem?_eq_getElem hk⟩
  obtain ⟨g, cap, hv, -⟩ := h.g.chan hc
  obtain ⟨av, cp, hvo⟩ := row_slice h.o.vor
  obtain ⟨sl, ag⟩ := h.g.ag
  have c0 : w.cell? ⟨b, 0, none⟩ = some (I R.now) := by rw [ag.head.cell, ← rel.now]; rfl
  have c6 : w.cell? ⟨b, 6, none⟩ = some (.slice av ods.length cp) := by rw [ag.head.cell, ← hvo]; rfl
  have lb := ag.head.lt
  have n0 := ok.now0
  have n1 := ok.now1
  have wa : IntKind.i64.wrap (R.now + d) = R.now + d := wrap_id _ (by omega) (by omega)
  have wb : IntKind.i64.wrap (R.now + d + t) = R.now + d + t := wrap_id _ (by omega) (by omega)
  have two : Hid (∀ w2 : World, w2 = (((w.alloc (.cells #[ptr b 0] 43)).alloc (.cells #[I ((ods.length : Int) + 1), I a, I (R.now + d + t)] 109)).alloc (.cells #[pt (w.heap.size + 1)] 110)) →
      w2.cell? ⟨w.heap.size, 0, none⟩ = some (ptr b 0) ∧ w2.cell? ⟨w.heap.size + 1 + 1, 0, none⟩ = some (pt (w.heap.size + 1)) ∧ w2.cell? ⟨b, 6, none⟩ = some (.slice av ods.length cp) ∧ b < w2.heap.size ∧ w.heap.size + 1 + 1 < w2.heap.size ∧ w.heap.size < w2.heap.size ∧
      Hid (w2.ownsRow 0 110 1 (.slice av ods.length cp) ods.length (ods.flatMap fun o => [pt o.blk]) ∧ (∃ hc, Blk w2 b hc 94 ∧ hc[6]? = some (.slice av ods.length cp)) ∧ Blk w2 w.heap.size #[ptr b 0] 43 ∧ (Value.slice av ods.length cp).ownBlock ≠ some b ∧ (Value.slice av ods.length cp).ownBlock ≠ some w.heap.size)) := by
    intro w2 hw2
    have k2 : Keep w w2 := by rw [hw2]; exact (((Frm.refl _ _).alloc _).alloc _).alloc _
    have b1 : Blk w2 w.heap.size #[ptr b 0] 43 := by rw [hw2]; exact ((Blk.new w _ _).alloc _).alloc _
    have b3 : Blk w2 (w.heap.size + 1 + 1) #[pt (w.heap.size + 1)] 110 := by
      rw [hw2]
      have := Blk.new ((w.alloc (.cells #[ptr b 0] 43)).alloc (.cells #[I ((ods.length : Int) + 1), I a, I (R.now + d + t)] 109)) #[pt (w.heap.size + 1)] 110
      simpa using this
    have hb2 := k2.blk ag.head
    have hr2 : w2.ownsRow 0 110 1 (.slice av ods.length cp) ods.length (ods.flatMap fun o => [pt o.blk]) := by rw [← hvo]; exact row_frm h.o.vor k2 fun _ _ e => e
    refine ⟨by rw [b1.cell]; rfl, by rw [b3.cell]; rfl, k2.cell (p := ⟨b, 6, none⟩) c6 id, hb2.lt, b3.lt, b1.lt, hr2, ⟨_, hb2, by rw [← hvo]; rfl⟩, b1, ?_, ?_⟩
    · intro e
      have := (row_ty hr2 e).uniq ⟨_, hb2⟩
      revert this; decide
    · intro e
      have := (row_ty hr2 e).uniq ⟨_, b1⟩
      revert this; decide
  have MK : Hid (∀ (w2 W w5 : World) (v5 : Value), w2 = (((w.alloc (.cells #[ptr b 0] 43)).alloc (.cells #[I ((ods.length : Int) + 1), I a, I (R.now + d + t)] 109)).alloc (.cells #[pt (w.heap.size + 1)] 110)) → Keep w2 W →
      w5.ownsRow 0 110 1 v5 (ods.length + 1) ((ods.flatMap fun o => [pt o.blk]) ++ [pt (w.heap.size + 1)]) → W.grownBy w5 (Value.slice av ods.length cp).ownBlock → (v5.ownBlock = (Value.slice av ods.length cp).ownBlock ∨ (v5.ownBlock = some W.heap.size ∧ W.grownBy w5 none)) →
      ∃ vo', TakeA w (w5.setCell ⟨b, 6, none⟩ v5) b D vc vw ods a (R.now + d + t) vo') := by
    intro w2 W w5 v5 hw2 kW hown hg hnew
    rw [← hvo] at hg hnew
    exact ⟨v5, takeA_of h hw2 kW hown hg hnew⟩
  obtain ⟨iO, hiO, hzO0, hzO1, hzO2⟩ := info_parts infoPO
  have H := hide (And.intro h (And.intro rel (And.intro ok (And.intro hc (And.intro hv hvo)))))
  clear h rel ok hc hv hvo ag full
  go_enter Tryz.func63, Tryz.ntmps63
  go_wp2_with fail
  generalize hw2 : (((w.alloc (.cells #[ptr b 0] 43)).alloc (.cells #[I ((ods.length : Int) + 1), I a, I (R.now + d + t)] 109)).alloc (.cells #[pt (w.heap.size + 1)] 110)) = w2
  obtain ⟨x1, x2, x3, x4, x5, x6, X⟩ := two.out w2 hw2.symm
  have HW2 := hide hw2
  clear hw2 two
  go_cut [] from 32 to 42 (fun wx => Hid (∃ vo', TakeA w wx b D vc vw ods a (R.now + d + t) vo'))
  case first =>
    go_region_law (refine step_append_row rfl (.tmp 36) (.tmp 38) 92 rfl 110 iO (.pointer none) 1 8 Tryz.underlying92 hiO hzO0 hzO1 hzO2 rfl (by decide) (.slice av ods.length cp) ods.length (ods.flatMap fun o => [pt o.blk]) (by first | simp [Act.eval] | simp [Act.eval, Act.put]) (by exact row_frm (X.out).1 (show Keep _ _ from ((Frm.refl _ _).alloc _).drew) (fun _ _ e => e)) ⟨w2.heap.size, 0, none⟩ 1 1 [pt (w.heap.size + 1)] (by first | simp [Act.eval] | simp [Act.eval, Act.put]) rfl (by exact cell_news _ [pt (w.heap.size + 1)] _ _ rfl) (by intro u hu; simp at hu; subst hu; rfl) (by unfold maxLen; omega) (by omega) ?_; intro v5 w5 hown5 hgr5 hnew5; obtain ⟨a5, cp5, hv5⟩ := row_slice hown5; subst hv5; obtain ⟨hcc, hcb, hc6⟩ := (X.out).2.1; have bb5 := ((show Keep _ _ from ((Frm.refl _ _).alloc _).drew).blk hcb).frm (grown_frm hgr5) (fun e => (X.out).2.2.2.1 e); have c56 : w5.cell? ⟨b, 6, none⟩ = some (.slice av ods.length cp) := (by { rw [bb5.cell]; exact hc6 }); have f56 := bb5.frozen 6; have bp5 := ((show Keep _ _ from ((Frm.refl _ _).alloc _).drew).blk (X.out).2.2.1).frm (grown_frm hgr5) (fun e => (X.out).2.2.2.2 e); have p5 : w5.cell? ⟨w.heap.size, 0, none⟩ = some (ptr b 0) := (by { rw [bp5.cell]; rfl }); have FIVE := hide (And.intro hown5 (And.intro hgr5 hnew5)); clear hown5 hgr5 hnew5 bb5 bp5 hcc hcb hc6)
    all_goals (go_wp2_with fail; go_meet)
    all_goals exact MK.out w2 _ _ _ (HW2.out).symm (show Keep _ _ from ((Frm.refl _ _).alloc _).drew) (FIVE.out).1 (FIVE.out).2.1 (FIVE.out).2.2
  case rest =>
    obtain ⟨vo', A⟩ := hcut.out
    obtain ⟨sl1, ag1⟩ := A.g.ag
    have y0 : wc.cell? ⟨b, 0, none⟩ = some (I R.now) := by rw [ag1.head.cell, ← (H.out).2.1.now]; rfl
    have y1 : wc.cell? ⟨w.heap.size, 0, none⟩ = some (ptr b 0) := by rw [A.bpc.cell]; rfl
    have y2 : wc.cell? ⟨b, 2, none⟩ = some (.slice (some ⟨g, 0, none⟩) D.chs.length cap) := by rw [ag1.head.cell, ← (H.out).2.2.2.2.1]; rfl
    have y7 : wc.cell? ⟨b, 7, none⟩ = some (I D.nv) := by rw [ag1.head.cell]; rfl
    have z7 : wc.frozen? ⟨b, 7, none⟩ = false := ag1.head.frozen 7
    have lb1 := ag1.head.lt
    have lp1 := A.bpc.lt
    have lo1 := A.boc.lt
    have hbp : w.heap.size ≠ b := fun e => by
      have := HasT.uniq ⟨_, A.bpc⟩ (e ▸ ⟨_, ag1.head⟩ : HasT wc w.heap.size 94)
      revert this; decide
    have nvb : 0 ≤ D.nv ∧ D.nv ≤ 3208 := by
      have q1 := (H.out).1.o.cnt
      have q2 := fins_len ods
      omega
    obtain ⟨nv0, nv1⟩ := nvb
    obtain ⟨s1, sf⟩ := A.g.setHead (D' := { D with vo := vo', nv := D.nv + 1 }) 7 (by decide) (I (D.nv + 1)) (fun sl => by simp [gCells]) rfl rfl rfl rfl rfl
    have ka : Keep (wc.setCell ⟨b, 7, none⟩ (I (D.nv + 1))) ((wc.setCell ⟨b, 7, none⟩ (I (D.nv + 1))).alloc (.cells #[ptr g (k * 5)] 113)) := (Frm.refl _ _).alloc _
    have g5 := s1.keep ka
    have f5 : Frm (GW b { D with vo := vo' } vc vw) wc ((wc.setCell ⟨b, 7, none⟩ (I (D.nv + 1))).alloc (.cells #[ptr g (k * 5)] 113)) := (sf.mono fun x _ e => Or.inl (Or.inl e)).trans2 ka fun _ _ e => e.elim
    have AD1 : Hid (Calls Tryz.prog 60 #[ptr b 4, I (R.now + d), .func (.func 83) #[] #[ptr wc.heap.size 0, ptr (w.heap.size + 1 + 1) 0]] ((wc.setCell ⟨b, 7, none⟩ (I (D.nv + 1))).alloc (.cells #[ptr g (k * 5)] 113)) fun e w6 => ∃ v, e = .returned v ∧
        w6.cell? ⟨w.heap.size, 0, none⟩ = some (ptr b 0) ∧ w6.cell? ⟨w.heap.size + 1 + 1, 0, none⟩ = some (pt (w.heap.size + 1)) ∧ w6.cell? ⟨w.heap.size + 1, 2, none⟩ = some (I (R.now + d + t)) ∧
        Hid (∀ m, Calls Tryz.prog 60 #[ptr b 4, I (R.now + d + t), .func (.func 85) #[] #[ptr wc.heap.size 0, ptr (w.heap.size + 1 + 1) 0, ptr w.heap.size 0]] (w6.drewN m) fun e w7 => ∃ v, e = .returned v ∧
          w7.cell? ⟨w.heap.size, 0, none⟩ = some (ptr b 0) ∧ w7.cell? ⟨b, 0, none⟩ = some (I R.now) ∧
          Hid (∀ m, Calls Tryz.prog 74 #[ptr b 4, I R.now] (w7.drewN m) fun e w8 => e = .returned (.tuple #[]) ∧ Taken w b D vc vw ods { R with os := R.os ++ [⟨k, R.now + d, R.now + d + t, a⟩] } w8))) := by
      refine (add_put b { D with vo := vo', nv := D.nv + 1 } vc vw (R.now + d) 83 #[ptr wc.heap.size 0, ptr (w.heap.size + 1 + 1) 0] _ g5 (by show D.es.length ≤ 10000; omega)).mono ?_
      rintro e w6 ⟨e1, es1, eb1, n1', rfl, q1, q2, G1⟩
      have f6 : Frm (GW b { D with vo := vo', nv := D.nv + 1 } vc vw) _ w6 := G1.frm.mono fun x _ e => Or.inl e
      have all6 : ∀ {x : Nat} {c : Array Value} {T : TypeId}, Blk wc x c T → OTy T → Blk w6 x c T := fun hb ho => g5.oblk f6 (A.g.oblk f5 hb ho) ho
      have b61 := all6 A.bpc (Or.inr (Or.inr (Or.inr rfl)))
      have b62 := all6 A.boc (Or.inr (Or.inl rfl))
      have b63 := all6 A.bob (Or.inl rfl)
      refine ⟨_, rfl, by rw [b61.cell]; rfl, by rw [b62.cell]; rfl, by rw [b63.cell]; rfl, fun m => ?_⟩
      have k6 : Keep w6 (w6.drewN m) := (Frm.refl _ _).drewN _
      have g6 := G1.lie.keep k6
      have hl6 : es1.length ≤ 10000 := by
        have : es1.length = D.es.length + 1 := G1.len
        omega
      refine (add_put b _ vc vw (R.now + d + t) 85 #[ptr wc.heap.size 0, ptr (w.heap.size + 1 + 1) 0, ptr w.heap.size 0] _ g6 hl6).mono ?_
      rintro e w7 ⟨e2, es2, eb2, n2', rfl, r1, r2, G2⟩
      obtain ⟨p1, p2, p3⟩ := take_in (H.out).1 A (H.out).2.2.2.2.1 hk (show R.now + d < R.now + d + t by omega) rfl G1 k6 G2 q1 q2 r1 r2
      obtain ⟨sl7, ag7⟩ := p1.g.ag
      have b71 := g6.oblk (G2.frm.mono fun x _ e => Or.inl e) (k6.blk b61) (Or.inr (Or.inr (Or.inr rfl)))
      refine ⟨_, rfl, by rw [b71.cell]; rfl, by rw [ag7.head.cell, ← (H.out).2.1.now]; rfl, fun m => ?_⟩
      exact take_reach (H.out).2.1 (H.out).2.2.1 hol (by omega) p1 rfl rfl rfl rfl p2 p3 m
    have hkk : (k : Int) < D.chs.length := by omega
    clear hcut A ag1 s1 sf ka g5 f5 MK X HW2 x1 x2 x3 x4 x5 x6
    go_wp2_with fail
    refine (AD1.out).mono ?_
    rintro e w6 ⟨v6, rfl, j1, j2, j3, AD2⟩
    clear AD1 y0 y1 y2 y7 z7
    go_wp2_with fail
    go_cut [] from 61 to 70 (fun w7 => w7.cell? ⟨w.heap.size, 0, none⟩ = some (ptr b 0) ∧ w7.cell? ⟨b, 0, none⟩ = some (I R.now) ∧
          Hid (∀ m, Calls Tryz.prog 74 #[ptr b 4, I R.now] (w7.drewN m) fun e w8 => e = .returned (.tuple #[]) ∧ Taken w b D vc vw ods { R with os := R.os ++ [⟨k, R.now + d, R.now + d + t, a⟩] } w8))
    case first =>
      go_region_with (go_at_call 60; refine (AD2.out _).mono ?_; rintro e w7 ⟨v7, rfl, l1, l2, RE⟩)
      all_goals (go_wp2_with fail; go_meet)
      all_goals exact ⟨l1, l2, RE⟩
    case rest =>
      obtain ⟨l1, l2, RE⟩ := hcut
      clear AD2 j1 j2 j3
      go_wp2_with fail
      go_region_with (go_at_call 74; refine (RE.out _).mono ?_; rintro e w8 ⟨rfl, T⟩)
      all_goals (obtain ⟨T1, T2, T3⟩ := T)
      all_goals (have HT := hide T1)
      all_goals (clear T1)
      all_goals (have T2' : w8.cell? ⟨w.heap.size + 1 + 1, 0, none⟩ = some (pt (w.heap.size + 1)) := T2)
      all_goals go_wp2_with fail
      all_goals go_ret
      all_goals exact ⟨rfl, HT.out⟩

end Go.Proofs.YtahiolfelcmikaaGreat
