/- An order more: what take leaves. -/
import Derived.Test.YtpilmkipbbengaaGreatDoorOtake
namespace Go.Proofs.YtpilmkipbbengaaGreatDoor
open Go.RowKit

theorem GAt.oblk {w w' : World} {b : Nat} {D : GSt} {vc vw : Value} (h : GAt w b D vc vw) (f : Frm (GW b D vc vw) w w') {x : Nat} {c : Array Value} {T : TypeId} (hb : Blk w x c T) (ho : OTy T) : Blk w' x c T :=
  hb.frm f fun e => by
    obtain ⟨T', q1, q2⟩ := h.ty e
    have := q1.uniq ⟨_, hb⟩
    subst this
    exact q2.noO ho
theorem GAt.orow {w w' : World} {b : Nat} {D : GSt} {vc vw : Value} (h : GAt w b D vc vw) (f : Frm (GW b D vc vw) w w') {v : Value} {n : Nat} {xs : List Value} (hr : w.ownsRow 0 149 1 v n xs) : w'.ownsRow 0 149 1 v n xs :=
  row_frm hr f fun x hx e => by
    obtain ⟨T', q1, q2⟩ := h.ty e
    have := q1.uniq (row_ty hr hx)
    subst this
    exact q2.noO (Or.inr (Or.inl rfl))

/-- the order is made, and in the list -/
structure TakeA (w wx : World) (b : Nat) (D : GSt) (vc vw : Value) (ods : List OrdD) (rest stop : Int) (vo' : Value) : Prop where
  g : GAt wx b { D with vo := vo' } vc vw
  frm : Frm (fun x => D.vo.ownBlock = some x ∨ AgF b D.eb D.es x) w wx
  bpc : Blk wx w.heap.size #[ptr b 0] 34
  bob : Blk wx (w.heap.size + 1) #[I ((ods.length : Int) + 1), I rest, I stop] 148
  boc : Blk wx (w.heap.size + 2) #[pt (w.heap.size + 1)] 149
  row : wx.ownsRow 0 149 1 vo' (ods.length + 1) ((ods.flatMap fun o => [pt o.blk]) ++ [pt (w.heap.size + 1)])
  hn : vo'.ownBlock = D.vo.ownBlock ∨ ∃ q, vo'.ownBlock = some q ∧ w.heap.size ≤ q
  hno : vo'.ownBlock ≠ some (w.heap.size + 2)

theorem takeA_of {w W w2 w5 : World} {b : Nat} {D : GSt} {vc vw : Value} {ods : List OrdD} {rest stop : Int} {v5 : Value} (h : PAt w b D vc vw ods)
    (hw2 : w2 = (((w.alloc (.cells #[ptr b 0] 34)).alloc (.cells #[I ((ods.length : Int) + 1), I rest, I stop] 148)).alloc (.cells #[pt (w.heap.size + 1)] 149))) (kW : Keep w2 W)
    (hown : w5.ownsRow 0 149 1 v5 (ods.length + 1) ((ods.flatMap fun o => [pt o.blk]) ++ [pt (w.heap.size + 1)])) (hg : W.grownBy w5 D.vo.ownBlock) (hnew : v5.ownBlock = D.vo.ownBlock ∨ (v5.ownBlock = some W.heap.size ∧ W.grownBy w5 none)) :
    TakeA w (w5.setCell ⟨b, 6, none⟩ v5) b D vc vw ods rest stop v5 := by
  have s2 : w2.heap.size = w.heap.size + 3 := by rw [hw2]; simp
  have k2 : Keep w w2 := by rw [hw2]; exact (((Frm.refl _ _).alloc _).alloc _).alloc _
  have kk : Keep w W := k2.trans kW
  have sW := kW.size
  have hvl : ∀ x, D.vo.ownBlock = some x → x < w.heap.size := fun x hx => (h.o.vor.lt x hx).2
  have f5 := grown_frm hg
  have hP := h.keep kk
  have g5 : GAt w5 b D vc vw := hP.g.frmO f5 fun x e => Or.inl (row_ty hP.o.vor e)
  obtain ⟨s1, sf⟩ := g5.setHead (D' := { D with vo := v5 }) 6 (by decide) v5 (fun sl => by simp [gCells]) rfl rfl rfl rfl rfl
  have sf' : Frm (GW b D vc vw) w5 (w5.setCell ⟨b, 6, none⟩ v5) := sf.mono fun x _ e => Or.inl (Or.inl e)
  have b1 : Blk w2 w.heap.size #[ptr b 0] 34 := by rw [hw2]; exact ((Blk.new w _ _).alloc _).alloc _
  have b2 : Blk w2 (w.heap.size + 1) #[I ((ods.length : Int) + 1), I rest, I stop] 148 := by
    rw [hw2]
    have := (Blk.new (w.alloc (.cells #[ptr b 0] 34)) #[I ((ods.length : Int) + 1), I rest, I stop] 148).alloc (.cells #[pt (w.heap.size + 1)] 149)
    simpa using this
  have b3 : Blk w2 (w.heap.size + 2) #[pt (w.heap.size + 1)] 149 := by
    rw [hw2]
    have := Blk.new ((w.alloc (.cells #[ptr b 0] 34)).alloc (.cells #[I ((ods.length : Int) + 1), I rest, I stop] 148)) #[pt (w.heap.size + 1)] 149
    simpa using this
  have keep5 : ∀ {x : Nat} {c : Array Value} {T : TypeId}, Blk w2 x c T → OTy T → w.heap.size ≤ x → Blk (w5.setCell ⟨b, 6, none⟩ v5) x c T := by
    intro x c T hb ho hx
    exact g5.oblk sf' ((kW.blk hb).frm f5 fun e => by have := hvl x e; omega) ho
  refine ⟨s1, ?_, keep5 b1 (Or.inr (Or.inr (Or.inr rfl))) (Nat.le_refl _), keep5 b2 (Or.inl rfl) (by omega), keep5 b3 (Or.inr (Or.inl rfl)) (by omega), g5.orow sf' hown, ?_, ?_⟩
  · exact ((kk.mono fun _ _ e => e.elim).trans2 f5 fun x _ e => Or.inl e).trans (sf.mono fun x _ e => Or.inr (Or.inl e))
  · rcases hnew with e | ⟨e, -⟩
    · exact Or.inl e
    · exact Or.inr ⟨_, e, by omega⟩
  · intro e
    rcases hnew with q | ⟨q, -⟩
    · rw [q] at e; have := hvl _ e; omega
    · rw [q] at e; injection e with e; omega

/-- both entries are in the agenda -/
theorem take_in {w wx w5 w6 W6 w7 : World} {b : Nat} {D : GSt} {vc vw vo' : Value} {ods : List OrdD} {rest start stop : Int} {k g cap : Nat} {e1 e2 : Ent} {es1 es2 : List Ent} {eb1 eb2 : Option Nat} {n1 n2 : Int} (h : PAt w b D vc vw ods) (A : TakeA w wx b D vc vw ods rest stop vo')
    (hv : vc = .slice (some ⟨g, 0, none⟩) D.chs.length cap) (hk : k < D.chs.length) (hlt : start < stop) (h5 : w5 = (wx.setCell ⟨b, 7, none⟩ (I (D.nv + 1))).alloc (.cells #[ptr g (k * 5)] 130))
    (G1 : AddG w5 b { D with vo := vo', nv := D.nv + 1 } vc vw e1 es1 eb1 n1 w6) (k6 : Keep w6 W6) (G2 : AddG W6 b { D with vo := vo', nv := D.nv + 1, es := es1, xt := e1 :: D.xt, eb := eb1, num := n1 } vc vw e2 es2 eb2 n2 w7)
    (t1 : e1.tick = start) (a1 : e1.act = .func (.func 101) #[] #[ptr wx.heap.size 0, ptr (w.heap.size + 2) 0]) (t2 : e2.tick = stop) (a2 : e2.act = .func (.func 103) #[] #[ptr wx.heap.size 0, ptr (w.heap.size + 2) 0, ptr w.heap.size 0]) :
    PAt w7 b { D with vo := vo', nv := D.nv + 1, es := es2, xt := e2 :: e1 :: D.xt, eb := eb2, num := n2 } vc vw (ods ++ [newO (w.heap.size + 1) wx.heap.size (w.heap.size + 2) w.heap.size rest start stop k e1 e2]) ∧
      Frm (PF b D vc vw ods) w w7 ∧ ∀ x, PF b { D with vo := vo', nv := D.nv + 1, es := es2, xt := e2 :: e1 :: D.xt, eb := eb2, num := n2 } vc vw (ods ++ [newO (w.heap.size + 1) wx.heap.size (w.heap.size + 2) w.heap.size rest start stop k e1 e2]) x → PF b D vc vw ods x ∨ w.heap.size ≤ x := by
  obtain ⟨s1, sf⟩ := A.g.setHead (D' := { D with vo := vo', nv := D.nv + 1 }) 7 (by decide) (I (D.nv + 1)) (fun sl => by simp [gCells]) rfl rfl rfl rfl rfl
  have ka : Keep (wx.setCell ⟨b, 7, none⟩ (I (D.nv + 1))) w5 := by rw [h5]; exact (Frm.refl _ _).alloc _
  have g5 : GAt w5 b { D with vo := vo', nv := D.nv + 1 } vc vw := s1.keep ka
  have f5 : Frm (GW b { D with vo := vo' } vc vw) wx w5 := (sf.mono fun x _ e => Or.inl (Or.inl e)).trans2 ka fun _ _ e => e.elim
  have f6 : Frm (GW b { D with vo := vo', nv := D.nv + 1 } vc vw) w5 W6 := (G1.frm.mono fun x _ e => Or.inl e).trans2 k6 fun _ _ e => e.elim
  have g6 := G1.lie.keep k6
  have f7 : Frm (GW b { D with vo := vo', nv := D.nv + 1, es := es1, xt := e1 :: D.xt, eb := eb1, num := n1 } vc vw) W6 w7 := G2.frm.mono fun x _ e => Or.inl e
  have all : ∀ {x : Nat} {c : Array Value} {T : TypeId}, Blk wx x c T → OTy T → Blk w7 x c T := fun hb ho => g6.oblk f7 (g5.oblk f6 (A.g.oblk f5 hb ho) ho) ho
  have sz : w.heap.size ≤ wx.heap.size := A.frm.size
  have sz5 : wx.heap.size ≤ w5.heap.size := f5.size
  have sz6 : w5.heap.size ≤ W6.heap.size := f6.size
  have bcc : Blk w7 wx.heap.size #[ptr g (k * 5)] 130 := by
    have hb : Blk w5 wx.heap.size #[ptr g (k * 5)] 130 := by
      rw [h5]
      have := Blk.new (wx.setCell ⟨b, 7, none⟩ (I (D.nv + 1))) #[ptr g (k * 5)] 130
      have e : (wx.setCell ⟨b, 7, none⟩ (I (D.nv + 1))).heap.size = wx.heap.size := World.size_setCell ..
      rw [e] at this
      exact this
    have ho : OTy 130 := Or.inr (Or.inr (Or.inl rfl))
    exact g6.oblk f7 (g5.oblk f6 hb ho) ho
  have ff : Frm (fun x => D.vo.ownBlock = some x ∨ AgF b D.eb D.es x) w w7 := by
    refine ((A.frm.trans2 (sf.trans2 ka fun _ _ e => e.elim) fun x _ e => Or.inr (Or.inl e)).trans2 (G1.frm.trans2 k6 fun _ _ e => e.elim) fun x _ e => Or.inr e).trans2 G2.frm fun x hx e => ?_
    rcases G1.foot x e with q | q
    · exact Or.inr q
    · omega
  have hsk : k < (sosOf D.chs).length := by simpa [sosOf] using hk
  have hO := h.o.snoc (xt' := e2 :: e1 :: D.xt) ff (fun x T hT ho e => by
      rcases e with e | e
      · exact e
      · exfalso
        obtain ⟨T', q1, q2⟩ := h.g.ty (Or.inl e)
        have := q1.uniq hT
        subst this
        exact q2.noO ho) (by omega) (by omega) (all A.bob (Or.inl rfl)) bcc (all A.boc (Or.inr (Or.inl rfl))) (all A.bpc (Or.inr (Or.inr (Or.inr rfl)))) hv (g6.orow f7 (g5.orow f6 (A.g.orow f5 A.row))) A.hn A.hno t1 a1 t2 a2 hsk hlt (List.Perm.swap _ _ _)
  refine ⟨⟨G2.lie, hO⟩, ff.mono fun x _ e => ?_, ?_⟩
  · rcases e with e | e
    · exact Or.inr (Or.inr (Or.inl e))
    · exact Or.inl (Or.inl e)
  · rintro x ((e | e | e | e) | e)
    · rcases G2.foot x e with q | q
      · rcases G1.foot x q with q | q
        · exact Or.inl (Or.inl (Or.inl q))
        · exact Or.inr (by omega)
      · exact Or.inr (by omega)
    · exact Or.inl (Or.inl (Or.inr (Or.inl e)))
    · exact Or.inl (Or.inl (Or.inr (Or.inr (Or.inl e))))
    · exact Or.inl (Or.inl (Or.inr (Or.inr (Or.inr e))))
    · rcases e with ⟨j, o, hj, hh⟩ | e | ⟨l, s, hs, e⟩
      · rcases snoc_get hj with q | ⟨rfl, rfl⟩
        · exact Or.inl (Or.inr (Or.inl ⟨j, o, q, hh⟩))
        · right
          rcases hh with rfl | ⟨e, c1, c2, he, hh⟩ | ⟨e, c1, c2, c3, he, hh⟩
          · show w.heap.size ≤ w.heap.size + 1
            omega
          · simp only [newO, Option.some.injEq, Prod.mk.injEq] at he
            obtain ⟨rfl, rfl, rfl⟩ := he
            omega
          · simp only [newO, Option.some.injEq, Prod.mk.injEq] at he
            obtain ⟨rfl, rfl, rfl, rfl⟩ := he
            omega
      · rcases A.hn with q | ⟨q, q1, q2⟩
        · exact Or.inl (Or.inr (Or.inr (Or.inl (by rw [← q]; exact e))))
        · have e : vo'.ownBlock = some x := e
          rw [q1] at e; injection e with e; exact Or.inr (by omega)
      · exact Or.inl (Or.inr (Or.inr (Or.inr ⟨l, s, hs, e⟩)))

/-- orders, as time has it -/
theorem OSame.late {t : Int} {ods ods' : List OrdD} (h : OSame t ods ods') (ht : ∀ o ∈ ods, (o.beg = none → o.start ≤ t) ∧ (o.fin = none → o.stop ≤ t)) (hb : ∀ o ∈ ods', ∀ y, o.beg = some y → t < o.start) (hf : ∀ o ∈ ods', ∀ y, o.fin = some y → t < o.stop) : ∀ o ∈ ods', Turned t o := by
  intro o ho
  obtain ⟨j, hj⟩ := List.getElem?_of_mem ho
  obtain ⟨o0, a1, a2, a3, a4, a5, a6, a7, a8⟩ := h.2 j o hj
  obtain ⟨t1, t2⟩ := ht o0 (List.mem_of_getElem? a1)
  refine ⟨⟨fun e => ?_, fun e => ?_⟩, fun e => ?_, fun e => ?_⟩
  · rcases a7 with q | q
    · rw [a4]; exact t1 (by rw [← q]; exact e)
    · exact q.2
  · cases hh : o.beg with
    | none => rfl
    | some y => have := hb o ho y hh; omega
  · rcases a8 with q | q
    · rw [a5]; exact t2 (by rw [← q]; exact e)
    · exact q.2
  · cases hh : o.fin with
    | none => rfl
    | some y => have := hf o ho y hh; omega

/-- what is due at once has been done -/
def Taken (w : World) (b : Nat) (D : GSt) (vc vw : Value) (ods : List OrdD) (R : RSt) (w' : World) : Prop :=
  Goes w b D vc vw ods R w' ∧ w'.cell? ⟨w.heap.size + 2, 0, none⟩ = some (pt (w.heap.size + 1)) ∧ w'.cell? ⟨w.heap.size + 1, 0, none⟩ = some (I ((ods.length : Int) + 1))

theorem take_reach {w w7 : World} {b : Nat} {D D7 : GSt} {vc vw : Value} {ods : List OrdD} {R : RSt} {rest start stop : Int} {k cc : Nat} {e1 e2 : Ent} (rel : ORel D ods R) (ok : R.Ok) (hol : ods.length ≤ 3208) (hlt : R.now < stop) (h7 : PAt w7 b D7 vc vw (ods ++ [newO (w.heap.size + 1) cc (w.heap.size + 2) w.heap.size rest start stop k e1 e2]))
    (d1 : D7.now = D.now) (d2 : D7.lock = D.lock) (d3 : D7.ws = D.ws) (d4 : D7.chs = D.chs) (f7 : Frm (PF b D vc vw ods) w w7) (foot : ∀ x, PF b D7 vc vw (ods ++ [newO (w.heap.size + 1) cc (w.heap.size + 2) w.heap.size rest start stop k e1 e2]) x → PF b D vc vw ods x ∨ w.heap.size ≤ x) (m : Nat) :
    Calls Tryz.prog 105 #[ptr b 4, I R.now] (w7.drewN m) fun e w8 => e = .returned (.tuple #[]) ∧ Taken w b D vc vw ods { R with os := R.os ++ [⟨k, start, stop, rest⟩] } w8 := by
  have nc : D7.chs.length ≤ 4 := by rw [d4, rel.nch]; exact ok.nc1
  have kp : Keep w7 (w7.drewN m) := (Frm.refl _ _).drewN _
  generalize hods : ods ++ [newO (w.heap.size + 1) cc (w.heap.size + 2) w.heap.size rest start stop k e1 e2] = ods7 at *
  have hl7 : ods7.length = ods.length + 1 := by rw [← hods]; simp
  have hi : PInv w7 b D7 ods7 vc vw R.now (w7.drewN m) D7.es.length :=
    ⟨_, ods7, ⟨h7.keep kp, rfl, rfl, rfl, rfl, rfl, rfl, CSame.refl _ _, OSame.refl _ _, fun _ hx => Or.inl hx, (Frm.refl _ _).drewN _⟩, rfl⟩
  refine (reach_any _ b 4 R.now (pinv_due w7 b D7 ods7 vc vw R.now nc (by omega)) D7.es.length (w7.drewN m) hi).mono ?_
  intro e w8 he
  obtain ⟨rfl, D8, ods8, r, late⟩ := preached w7 w8 b D7 ods7 vc vw R.now e he
  have hget : ods7[ods.length]? = some (newO (w.heap.size + 1) cc (w.heap.size + 2) w.heap.size rest start stop k e1 e2) := by rw [← hods]; simp
  have hl8 : ods.length < ods8.length := by rw [r.osm.1]; omega
  obtain ⟨o8, ho8⟩ : ∃ o, ods8[ods.length]? = some o := ⟨_, List.getElem?_eq_getElem hl8⟩
  obtain ⟨o7, a1, a2, a3, a4, a5, a6, a7, a8⟩ := r.osm.2 _ _ ho8
  rw [hget] at a1
  simp only [Option.some.injEq] at a1
  subst a1
  have hfin : o8.fin = some (e2, cc, w.heap.size + 2, w.heap.size) := by
    rcases a8 with q | ⟨-, q⟩
    · exact q
    · rw [a5] at q
      have q : stop ≤ R.now := q
      omega
  have bf := (r.lie.o.fins _ o8 _ _ _ _ ho8 hfin).2.2.2.1
  have bo := r.lie.o.ords _ o8 ho8
  have hbk : o8.blk = w.heap.size + 1 := a2
  rw [hbk] at bf bo
  have sz := f7.size
  refine ⟨rfl, ⟨D8, ods8, r.lie, ?_, fun x hx => ?_, ?_, r.lock.trans d2⟩, by rw [bf.cell]; rfl, by rw [bo.cell]; rfl⟩
  · refine ⟨by rw [r.now, d1]; exact rel.now, by rw [r.lock, d2]; exact rel.lock, rel.l0, rel.l1, ?_, ?_, by rw [r.ws, d3]; exact rel.fits, rel.past, by rw [r.chs.1, d4]; exact rel.nch, ?_⟩
    · show R.os ++ [_] = _
      rw [r.osm.toR, ← hods, rel.os]
      simp [toR, newO]
    · refine r.osm.late ?_ ?_ ?_
      · intro o ho
        rw [← hods] at ho
        rcases List.mem_append.1 ho with q | q
        · have := rel.trn o q
          exact ⟨this.1.1, this.2.1⟩
        · simp at q; subst q
          exact ⟨fun e => by simp [newO] at e, fun e => by simp [newO] at e⟩
      · intro o ho y hy
        obtain ⟨q1, q2⟩ := beg_in r.lie ho hy
        have := late _ q1; rw [← q2]; exact this
      · intro o ho y hy
        obtain ⟨q1, q2⟩ := fin_in r.lie ho hy
        have := late _ q1; rw [← q2]; exact this
    · intro l d c hd hc
      obtain ⟨d0, hd0, c1, c2, hcase⟩ := r.chs.2 l d hd
      rw [d4] at hd0
      have rc := rel.ch l d0 c hd0 hc
      rcases hcase with ⟨q1, q2⟩ | ⟨-, -, e, cb, he, ht⟩
      · unfold OChRel at rc ⊢
        rw [c1, c2, q1, q2]; exact rc
      · have := rc.2.2.2.1 e cb he
        omega
  · rcases r.foot x hx with q | q
    · exact foot x q
    · exact Or.inr (by omega)
  · exact f7.trans2 r.frm fun x hx e => by
      rcases foot x e with q | q
      · exact q
      · omega

end Go.Proofs.YtpilmkipbbengaaGreatDoor
