/- A pump that is there: what is asked of it, but New. -/
import Derived.Test.YtpilmkipbbengaaGreatDoorMach2
import Derived.Test.YtpilmkipbbengaaGreatDoorK1
namespace Go.Proofs.YtpilmkipbbengaaGreatDoor
open Go.RowKit

structure Pumpw (fBasal fRun fRoom fWait : FuncId) (pa : Rep) : Prop where
  frm : ∀ {S : Nat → Prop} {w w' : World} {F : Nat → Prop} {b : Nat} {R : RSt}, pa w F b R → Frm S w w' → (∀ x, F x → ¬ S x) → pa w' F b R
  lt : ∀ {w : World} {F : Nat → Prop} {b : Nat} {R : RSt}, pa w F b R → ∀ x, F x → x < w.heap.size
  basal : ∀ (k rate ticks : Int) (w : World) (F : Nat → Prop) (b : Nat) (R : RSt), pa w F b R → R.Ok → R.Full →
    Calls Tryz.prog fBasal #[.pointer (some ⟨b, 0, none⟩), I k, I rate, I ticks] w fun e w' => e = .returned (I (basalErr R k rate ticks)) ∧ Moved pa w F b (basalR R k rate ticks) w'
  run : ∀ (t : Int) (w : World) (F : Nat → Prop) (b : Nat) (R : RSt), pa w F b R → R.Ok → R.Full →
    Calls Tryz.prog fRun #[.pointer (some ⟨b, 0, none⟩), I t] w fun e w' => RunOut pa w F b R t e w'
  room : ∀ (k : Int) (w : World) (F : Nat → Prop) (b : Nat) (R : RSt), pa w F b R → R.Ok → R.Full →
    Calls Tryz.prog fRoom #[.pointer (some ⟨b, 0, none⟩), I k] w fun e w' => e = .returned (roomV R k) ∧ Moved pa w F b R w'
  wait : ∀ (k a : Int) (w : World) (F : Nat → Prop) (b : Nat) (R : RSt), pa w F b R → R.Ok → R.Full →
    Calls Tryz.prog fWait #[.pointer (some ⟨b, 0, none⟩), I k, I a] w fun e w' => WaitOut R k a e ∧ Moved pa w F b R w'

theorem Pumpy.w {fNew fBasal fRun fRoom fWait : FuncId} {pa : Rep} (P : Pumpy fNew fBasal fRun fRoom fWait pa) : Pumpw fBasal fRun fRoom fWait pa :=
  ⟨P.frm, P.lt, P.basal, P.run, P.room, P.wait⟩

/-- this very pump, and the doses that it had at least -/
def paX (pa : Rep) (qb : Nat) (ds : List Ds) : Rep := fun w F b R => pa w F b R ∧ b = qb ∧ ds <+: R.doses

theorem Moved.x {pa : Rep} {qb : Nat} {ds : List Ds} {w w' : World} {F : Nat → Prop} {b : Nat} {R R' : RSt} (h : Moved pa w F b R' w') (e : b = qb) (hp : ds <+: R.doses) (hd : R'.doses = R.doses) : Moved (paX pa qb ds) w F b R' w' := by
  obtain ⟨h1, F', h2, h3⟩ := h
  exact ⟨h1, F', ⟨h2, e, by rw [hd]; exact hp⟩, h3⟩

theorem kx_rbasal (R : RSt) (k r t : Int) : (basalR R k r t).doses = R.doses := by
  unfold basalR
  split
  · rfl
  · unfold rbasal; split <;> rfl
theorem kx_order (R : RSt) (k a d t : Int) : (orderR R k a d t).doses = R.doses := by
  unfold orderR; split <;> rfl
theorem kx_asked (R : RSt) (k : Nat) : (askedR R k).doses = R.doses := by
  unfold askedR; split <;> rfl
theorem kx_demand (R : RSt) (k a : Int) : (demandR R k a).doses = R.doses := by
  unfold demandR
  split
  · rw [kx_asked, kx_order]
  · rfl
theorem kx_rests (R : RSt) (k : Int) (yes : Bool) : (restsR R k yes).doses = R.doses := by
  unfold restsR; split
  · split <;> rfl
  · rfl
theorem kx_run (R : RSt) (t : Int) : R.doses <+: (runR R t).doses := by
  unfold runR; split
  · exact rticks_pre _ _
  · exact List.prefix_refl _

theorem Pumpw.x {fBasal fRun fRoom fWait : FuncId} {pa : Rep} (P : Pumpw fBasal fRun fRoom fWait pa) (qb : Nat) (ds : List Ds) : Pumpw fBasal fRun fRoom fWait (paX pa qb ds) where
  frm := fun h f hs => ⟨P.frm h.1 f hs, h.2⟩
  lt := fun h => P.lt h.1
  basal := fun k rate ticks w F b R h ok full => (P.basal k rate ticks w F b R h.1 ok full).mono fun _ _ q => ⟨q.1, q.2.x h.2.1 h.2.2 (kx_rbasal R k rate ticks)⟩
  run := fun t w F b R h ok full => (P.run t w F b R h.1 ok full).mono fun _ _ ⟨vout, h1, h2, h3, F', h4, h5⟩ => ⟨vout, h1, h2, h3, F', ⟨h4, h.2.1, h.2.2.trans (kx_run R t)⟩, h5⟩
  room := fun k w F b R h ok full => (P.room k w F b R h.1 ok full).mono fun _ _ q => ⟨q.1, q.2.x h.2.1 h.2.2 rfl⟩
  wait := fun k a w F b R h ok full => (P.wait k a w F b R h.1 ok full).mono fun _ _ q => ⟨q.1, q.2.x h.2.1 h.2.2 rfl⟩

theorem Orderly.x {fOrder fDemand fRest fPause fResume : FuncId} {pa : Rep} (O : Orderly fOrder fDemand fRest fPause fResume pa) (qb : Nat) (ds : List Ds) : Orderly fOrder fDemand fRest fPause fResume (paX pa qb ds) where
  order := fun k a d t w F b R h ok full => (O.order k a d t w F b R h.1 ok full).mono fun _ _ q => ⟨q.1, q.2.x h.2.1 h.2.2 (kx_order R k a d t)⟩
  demand := fun k a w F b R h ok full => (O.demand k a w F b R h.1 ok full).mono fun _ _ q => ⟨q.1, q.2.x h.2.1 h.2.2 (kx_demand R k a)⟩
  rest := fun j w F b R h ok full => (O.rest j w F b R h.1 ok full).mono fun _ _ q => ⟨q.1, q.2.x h.2.1 h.2.2 rfl⟩
  pause := fun k w F b R h ok full => (O.pause k w F b R h.1 ok full).mono fun _ _ q => ⟨q.1, q.2.x h.2.1 h.2.2 (kx_rests R k true)⟩
  resume := fun k w F b R h ok full => (O.resume k w F b R h.1 ok full).mono fun _ _ q => ⟨q.1, q.2.x h.2.1 h.2.2 (kx_rests R k false)⟩

end Go.Proofs.YtpilmkipbbengaaGreatDoor

/- dripkeep's Run in memory, with its pump; ticks. -/
namespace Go.Proofs.YtpilmkipbbengaaGreatDoor
open Go.RowKit

def rst (R : RSt) (k : Nat) : Bool := match R.chs[k]? with
  | some c => c.rests
  | none => false
def kv (pb : Nat) (vl vd : Value) (R : RSt) : KV := ⟨.pointer (some ⟨pb, 0, none⟩), vl, vd, R.lims, R.lock, R.doses, R.now, rst R 0, rst R 1, rst R 2⟩

structure KAt (pa : Rep) (B : Nat → Prop) (w : World) (rb pb : Nat) (F : Nat → Prop) (R : RSt) (vl vd : Value) : Prop where
  rd : KRd w rb (kv pb vl vd R)
  pump : pa w F pb R
  fr : ¬ F rb
  fd : ∀ x, F x → vd.ownBlock ≠ some x
  fl : ∀ x, F x → vl.ownBlock ≠ some x
  lb : B rb
  lf : ∀ x, F x → B x
  ld : ∀ x, vd.ownBlock = some x → B x

structure KOk (R : RSt) : Prop where
  ok : R.Ok
  full : R.Full
  told : Told R
  nch : R.chs.length = 3

theorem KOk.kvok {R : RSt} (h : KOk R) (pb : Nat) (vl vd : Value) : (kv pb vl vd R).Ok := ⟨h.ok.lims, h.ok.nl, h.ok.doses, h.ok.nd, h.ok.now0, h.ok.now1⟩

def KGo (pa : Rep) (B : Nat → Prop) (w w' : World) (rb : Nat) (R' : RSt) : Prop := Frm B w w' ∧ ∃ pb F vl vd, KAt pa B w' rb pb F R' vl vd

theorem KRd.sd {w : World} {rb : Nat} {K : KV} (h : KRd w rb K) : K.vd.ownBlock ≠ some rb := fun e => by
  have hr := h.row
  rcases hr.2 with ⟨e1, -⟩ | ⟨g, cap, cur, e1, -, h2, -⟩
  · rw [e1] at e; cases e
  · rw [e1] at e; injection e with e
    have hh := h.head
    unfold Blk at hh
    have h2' : w.heap[g]? = some (.cells cur 100 (0, 0)) := h2
    have e : g = rb := e
    rw [e, hh] at h2'
    injection h2' with h2'
    injection h2' with q1 q2
    revert q2; decide
theorem KRd.sl {w : World} {rb : Nat} {K : KV} (h : KRd w rb K) : K.vl.ownBlock ≠ some rb := fun e => by
  have hr := h.lims
  rcases hr.2 with ⟨e1, -⟩ | ⟨g, cap, cur, e1, -, h2, -⟩
  · rw [e1] at e; cases e
  · rw [e1] at e; injection e with e
    have hh := h.head
    unfold Blk at hh
    have h2' : w.heap[g]? = some (.cells cur 60 (0, 0)) := h2
    have e : g = rb := e
    rw [e, hh] at h2'
    injection h2' with h2'
    injection h2' with q1 q2
    revert q2; decide
theorem KRd.dl {w : World} {rb : Nat} {K : KV} (h : KRd w rb K) : ∀ x, K.vd.ownBlock = some x → K.vl.ownBlock ≠ some x := fun x hx e => by
  rcases h.row.2 with ⟨e1, -⟩ | ⟨g, cap, cur, e1, -, h2, -⟩
  · rw [e1] at hx; cases hx
  · rcases h.lims.2 with ⟨e3, -⟩ | ⟨g', cap', cur', e3, -, h4, -⟩
    · rw [e3] at e; cases e
    · rw [e1] at hx; injection hx with hx
      rw [e3] at e; injection e with e
      have h2' : w.heap[g]? = some (.cells cur 100 (0, 0)) := h2
      have h4' : w.heap[g']? = some (.cells cur' 60 (0, 0)) := h4
      have hx : g = x := hx
      have e : g' = x := e
      rw [hx] at h2'; rw [e, h2'] at h4'
      injection h4' with h4'
      injection h4' with q1 q2
      revert q2; decide

theorem KRd.frm {S : Nat → Prop} {w w' : World} {rb : Nat} {K : KV} (h : KRd w rb K) (f : Frm S w w') (h1 : ¬ S rb) (h2 : ∀ x, K.vd.ownBlock = some x → ¬ S x) (h3 : ∀ x, K.vl.ownBlock = some x → ¬ S x) : KRd w' rb K :=
  ⟨h.head.frm f h1, row_frm h.lims f h3, row_frm h.row f h2⟩

/-- a call of the pump has gone by -/
theorem KAt.moved {pa : Rep} {B : Nat → Prop} {w w1 : World} {rb pb : Nat} {F : Nat → Prop} {R : RSt} {vl vd : Value} (h : KAt pa B w rb pb F R vl vd) (f : Frm F w w1) : KRd w1 rb (kv pb vl vd R) :=
  h.rd.frm f h.fr (fun x hx e => h.fd x e hx) (fun x hx e => h.fl x e hx)

def lastD (now : Int) (xs : List Ds) : Nat → Ds
  | 0 => ⟨now, -1, 0⟩
  | j + 1 => (xs[j]?).getD ⟨now, -1, 0⟩

theorem ds_join {R R' : RSt} (h : R.doses <+: R'.doses) : R.doses ++ R'.doses.drop R.doses.length = R'.doses := by
  obtain ⟨t, ht⟩ := h
  rw [← ht]; simp

theorem rst_of {R : RSt} {k : Nat} {c : RCh} (h : R.chs[k]? = some c) : rst R k = c.rests := by simp [rst, h]
theorem rst_same {R R' : RSt} (h : R'.chs = R.chs) (k : Nat) : rst R' k = rst R k := by simp [rst, h]

theorem runs_ok {R : RSt} (h : KOk R) (n : Nat) (hn : R.now + n ≤ 400) : KOk (rticks n R) := by
  obtain ⟨o1, o2⟩ := rticks_ok h.ok h.full n hn
  exact ⟨o1, o2, (rticks_told h.ok h.full h.told n hn).1, by rw [(rticks_same n R).1]; exact h.nch⟩

/-- what stands ahead of the j-th dose of a run -/
theorem last_before {R : RSt} (h : KOk R) (n : Nat) (hn : R.now + n ≤ 400) {j : Nat} {d : Ds} (hd : ((rticks n R).doses.drop R.doses.length)[j]? = some d) :
    (lastD R.now ((rticks n R).doses.drop R.doses.length) j).tick ≤ d.tick ∧ ((lastD R.now ((rticks n R).doses.drop R.doses.length) j).tick = d.tick → (lastD R.now ((rticks n R).doses.drop R.doses.length) j).ch < d.ch) := by
  obtain ⟨t1, t2⟩ := rticks_told h.ok h.full h.told n hn
  obtain ⟨q1, q2, q3, k, c, q4, q5, q6⟩ := t2 d (List.mem_of_getElem? hd)
  cases j with
  | zero =>
    simp only [lastD]
    exact ⟨q1, fun _ => by omega⟩
  | succ j =>
    obtain ⟨l1, -⟩ := List.getElem?_eq_some_iff.1 hd
    obtain ⟨e, he⟩ : ∃ e, ((rticks n R).doses.drop R.doses.length)[j]? = some e := ⟨_, List.getElem?_eq_getElem (by omega)⟩
    simp only [lastD, he, Option.getD_some]
    rcases (t1.rise.drop R.doses.length).next he hd with q | ⟨r1, r2⟩
    · exact ⟨by omega, fun e => by omega⟩
    · exact ⟨by omega, fun _ => r2⟩

/-- what ticks leaves -/
theorem KAt.ticked {pa : Rep} {B : Nat → Prop} {w w1 wr w3 : World} {rb pb : Nat} {F F' : Nat → Prop} {R R' : RSt} {vl vd v' : Value} (h : KAt pa B w rb pb F R vl vd) (frmP : ∀ {S : Nat → Prop} {w w' : World} {F : Nat → Prop} {b : Nat} {R : RSt}, pa w F b R → Frm S w w' → (∀ x, F x → ¬ S x) → pa w' F b R) (ltP : ∀ {w : World} {F : Nat → Prop} {b : Nat} {R : RSt}, pa w F b R → ∀ x, F x → x < w.heap.size)
    (hB : ∀ x, w.heap.size ≤ x → B x) (f1 : Frm F w w1) (p1 : pa w1 F' pb R') (F1 : ∀ x, F' x → F x ∨ w.heap.size ≤ x) (kr : Keep w1 wr)
    (hd : R'.doses = R.doses ++ R'.doses.drop R.doses.length) (e1 : R'.lims = R.lims) (e2 : R'.lock = R.lock) (e3 : R'.chs = R.chs)
    (hown : w3.ownsRow 0 100 3 v' (R.doses.length + (R'.doses.drop R.doses.length).length) (R.doses.flatMap dsC ++ (R'.doses.drop R.doses.length).flatMap dsC)) (hg : wr.grownBy w3 vd.ownBlock) (hnew : v'.ownBlock = vd.ownBlock ∨ (v'.ownBlock = some wr.heap.size ∧ wr.grownBy w3 none)) :
    KGo pa B w ((w3.setCell ⟨rb, 4, none⟩ v').setCell ⟨rb, 5, none⟩ (I R'.now)) rb R' := by
  have hrd := (h.moved f1).keep kr
  have f3 := grown_frm hg
  have s1 := f1.size
  have s2 := kr.size
  have hlt : rb < w.heap.size := h.rd.head.lt
  have h3 : Blk w3 rb (kv pb vl vd R).cells 38 := hrd.head.frm f3 fun e => hrd.sd e
  have f4 : Frm (fun x => x = rb) w3 ((w3.setCell ⟨rb, 4, none⟩ v').setCell ⟨rb, 5, none⟩ (I R'.now)) := ((Frm.refl (fun x => x = rb) w3).setCell (p := ⟨rb, 4, none⟩) rfl v').setCell (p := ⟨rb, 5, none⟩) rfl _
  have vn : ∀ x, v'.ownBlock = some x → vd.ownBlock = some x ∨ x = wr.heap.size := by
    intro x hx
    rcases hnew with e | ⟨e, -⟩
    · exact Or.inl (by rw [← e]; exact hx)
    · rw [e] at hx; injection hx with hx; exact Or.inr hx.symm
  have pl := ltP p1
  have fdn : ∀ x, F' x → v'.ownBlock ≠ some x := by
    intro x hx e
    rcases vn x e with q | q
    · rcases F1 x hx with r | r
      · exact h.fd x r q
      · have := (h.rd.row.lt x q).2; omega
    · have := pl x hx; omega
  have vr : v'.ownBlock ≠ some rb := by
    intro e
    rcases vn rb e with q | q
    · exact h.rd.sd q
    · omega
  refine ⟨?_, pb, F', vl, v', ⟨?_, ?_, ?_⟩, ?_, ?_, fdn, ?_, h.lb, ?_, ?_⟩
  · refine (((f1.mono fun x _ e => h.lf x e).trans2 kr fun _ _ e => e.elim).trans2 f3 fun x hx e => h.ld x e).trans2 f4 fun x _ e => by subst e; exact h.lb
  · have := (h3.set 4 v').set 5 (I R'.now)
    simpa [kv, KV.cells, e1, e2, rst_same e3] using this
  · show World.ownsRow _ 0 60 3 vl R'.lims.length (R'.lims.flatMap limC)
    rw [e1]
    refine row_frm (row_frm hrd.lims f3 fun x hx e => hrd.dl x e hx) f4 fun x hx e => ?_
    subst e; exact h.rd.sl hx
  · show World.ownsRow _ 0 100 3 v' R'.doses.length (R'.doses.flatMap dsC)
    have q1 : R'.doses.length = R.doses.length + (R'.doses.drop R.doses.length).length := by rw [hd]; simp
    have q2 : R'.doses.flatMap dsC = R.doses.flatMap dsC ++ (R'.doses.drop R.doses.length).flatMap dsC := by rw [← List.flatMap_append, ← hd]
    rw [q1, q2]
    exact row_frm hown f4 fun x hx e => vr (by rw [← e]; exact hx)
  · refine frmP (frmP (frmP p1 kr fun _ _ e => e) f3 fun x hx e => ?_) f4 fun x hx e => ?_
    · rcases F1 x hx with r | r
      · exact h.fd x r e
      · have := (h.rd.row.lt x e).2; omega
    · subst e
      rcases F1 x hx with r | r
      · exact h.fr r
      · omega
  · intro hx
    rcases F1 rb hx with r | r
    · exact h.fr r
    · omega
  · intro x hx e
    rcases F1 x hx with r | r
    · exact h.fl x r e
    · have := (h.rd.lims.lt x e).2; omega
  · intro x hx
    rcases F1 x hx with r | r
    · exact h.lf x r
    · exact hB x r
  · intro x hx
    rcases vn x hx with q | q
    · exact h.ld x q
    · exact hB x (by omega)

end Go.Proofs.YtpilmkipbbengaaGreatDoor

/- ticks. -/
namespace Go.Proofs.YtpilmkipbbengaaGreatDoor
open Go.RowKit

set_option maxRecDepth 100000 in
set_option maxHeartbeats 3200000 in
theorem kticks_many {fBasal fRoom fWait : FuncId} {pa : Rep} (P : Pumpw fBasal 46 fRoom fWait pa) (B : Nat → Prop) (rb pb : Nat) (F : Nat → Prop) (R : RSt) (vl vd : Value) (n : Nat) (w : World) (h : KAt pa B w rb pb F R vl vd) (ok : KOk R) (hB : ∀ x, w.heap.size ≤ x → B x) (n1 : 1 ≤ n) (n2 : n ≤ 100) (hm : 400 < R.now + n) :
    Calls Tryz.prog 33 #[.pointer (some ⟨rb, 0, none⟩), I n] w fun e w' => e = .returned (.bool true) ∧ KGo pa B w w' rb R := by
  have e1 : runErr R n = 2 := by rw [runErr, if_neg (by omega), if_pos hm]
  have hd := h.rd.head
  have c0 : w.cell? ⟨rb, 0, none⟩ = some (.pointer (some ⟨pb, 0, none⟩)) := by rw [hd.cell]; rfl
  have RUN : Hid (Calls Tryz.prog 46 #[.pointer (some ⟨pb, 0, none⟩), I n] w fun e w1 => ∃ a c, e = .returned (.tuple #[.slice a 0 c, I 2]) ∧ w1.cell? ⟨rb, 5, none⟩ = some (I R.now) ∧ Hid (KGo pa B w w1 rb R)) := by
    refine (P.run n w F pb R h.pump ok.ok ok.full).mono ?_
    rintro e w1 ⟨vout, rfl, hrow, f1, F', p1, F1, -⟩
    have e2 : runDs R n = [] := by simp [runDs, e1]
    have e3 : runR R n = R := by simp [runR, e1]
    rw [e2] at hrow
    rw [e3] at p1
    obtain ⟨a, c, rfl⟩ := row_slice hrow
    have hk := h.moved f1
    have hb : rb < w.heap.size := h.rd.head.lt
    refine ⟨a, c, by rw [e1]; rfl, by rw [hk.head.cell]; rfl, f1.mono fun x _ e => h.lf x e, pb, F', vl, vd, hk, p1, ?_, ?_, ?_, h.lb, ?_, h.ld⟩
    · intro e
      rcases F1 rb e with q | q
      · exact h.fr q
      · omega
    · intro x hx e
      rcases F1 x hx with q | q
      · exact h.fd x q e
      · have := (h.rd.row.lt x e).2; omega
    · intro x hx e
      rcases F1 x hx with q | q
      · exact h.fl x q e
      · have := (h.rd.lims.lt x e).2; omega
    · intro x hx
      rcases F1 x hx with q | q
      · exact h.lf x q
      · exact hB x q
  have n0 := ok.ok.now0
  have n3 := ok.ok.now1
  clear h ok hd
  go_enter Tryz.func33, Tryz.ntmps33
  go_wp2_with fail
  refine (RUN.out).mono ?_
  rintro e w1 ⟨a, c, rfl, c5, G⟩
  go_wp2_with fail
  go_ret
  exact ⟨rfl, G.out⟩

set_option maxRecDepth 100000 in
set_option maxHeartbeats 3200000 in
theorem kticks_yes {fBasal fRoom fWait : FuncId} {pa : Rep} (P : Pumpw fBasal 46 fRoom fWait pa) (B : Nat → Prop) (rb pb : Nat) (F : Nat → Prop) (R : RSt) (vl vd : Value) (n : Nat) (w : World) (h : KAt pa B w rb pb F R vl vd) (ok : KOk R) (hB : ∀ x, w.heap.size ≤ x → B x) (n1 : 1 ≤ n) (n2 : n ≤ 100) (hm : R.now + n ≤ 400) :
    Calls Tryz.prog 33 #[.pointer (some ⟨rb, 0, none⟩), I n] w fun e w' => e = .returned (.bool true) ∧ KGo pa B w w' rb (rticks n R) := by
  obtain ⟨i, hi, hz0, hz1, hz2⟩ := info_parts infoD
  have e1 : runErr R n = 0 := by rw [runErr, if_neg (by omega), if_neg (by omega)]
  have hd := h.rd.head
  have c0 : w.cell? ⟨rb, 0, none⟩ = some (.pointer (some ⟨pb, 0, none⟩)) := by rw [hd.cell]; rfl
  have okn := runs_ok ok n hm
  have hlen : (rticks n R).doses.length ≤ 2000 := okn.ok.nd
  have hpre := rticks_pre n R
  obtain ⟨s1, s2, s3, s4, -⟩ := rticks_same n R
  have RUN : Hid (Calls Tryz.prog 46 #[.pointer (some ⟨pb, 0, none⟩), I n] w fun e w1 => ∃ a c, e = .returned (.tuple #[.slice a ((rticks n R).doses.drop R.doses.length).length c, I 0]) ∧ w1.cell? ⟨rb, 5, none⟩ = some (I R.now) ∧ rb < w1.heap.size ∧ Hid (KRd w1 rb (kv pb vl vd R) ∧ w1.ownsRow 0 100 3 (.slice a ((rticks n R).doses.drop R.doses.length).length c) ((rticks n R).doses.drop R.doses.length).length (((rticks n R).doses.drop R.doses.length).flatMap dsC) ∧
      ∀ (wr w3 : World) (v' : Value), Keep w1 wr → w3.ownsRow 0 100 3 v' (R.doses.length + ((rticks n R).doses.drop R.doses.length).length) (R.doses.flatMap dsC ++ ((rticks n R).doses.drop R.doses.length).flatMap dsC) → wr.grownBy w3 vd.ownBlock → (v'.ownBlock = vd.ownBlock ∨ (v'.ownBlock = some wr.heap.size ∧ wr.grownBy w3 none)) → KGo pa B w ((w3.setCell ⟨rb, 4, none⟩ v').setCell ⟨rb, 5, none⟩ (I (rticks n R).now)) rb (rticks n R))) := by
    refine (P.run n w F pb R h.pump ok.ok ok.full).mono ?_
    rintro e w1 ⟨vout, rfl, hrow, f1, F', p1, F1, -⟩
    have e2 : runDs R n = (rticks n R).doses.drop R.doses.length := by simp [runDs, e1]
    have e3 : runR R n = rticks n R := by simp [runR, e1]
    rw [e2] at hrow
    rw [e3] at p1
    obtain ⟨a, c, rfl⟩ := row_slice hrow
    have hk := h.moved f1
    refine ⟨a, c, by rw [e1], by rw [hk.head.cell]; rfl, hk.head.lt, hk, hrow, ?_⟩
    intro wr w3 v' kr hown hg hnew
    exact h.ticked P.frm P.lt hB f1 p1 F1 kr (ds_join hpre).symm s2 s4 s1 hown hg hnew
  have H := hide (And.intro ok (And.intro hm hpre))
  have n0 := ok.ok.now0
  have n3 := ok.ok.now1
  have w5 : IntKind.i64.wrap (R.now + n) = R.now + n := wrap_id _ (by omega) (by omega)
  have hxl : ((rticks n R).doses.drop R.doses.length).length ≤ 2000 := by simp; omega
  have hdl : R.doses.length ≤ 2000 := ok.ok.nd
  clear h ok hd okn hlen hpre s1 s2 s4
  go_enter Tryz.func33, Tryz.ntmps33
  go_wp2_with fail
  refine (RUN.out).mono ?_
  rintro e w1 ⟨a, c, rfl, c5, lr, G⟩
  generalize hxs : (rticks n R).doses.drop R.doses.length = xs at *
  have HX := hide hxs
  clear hxs RUN c0
  go_wp2_with fail
  go_loopg [8, 9] xs.length (fun q i _ wr => ∃ j : Nat, q + j = xs.length ∧ i = I j ∧ Hid (Keep w1 wr ∧ Blk wr w1.heap.size #[I (lastD R.now xs j).tick, I (lastD R.now xs j).ch, I (lastD R.now xs j).amt] 100))
  case atStart => exact ⟨0, by omega, rfl, (Frm.refl _ _).alloc _, Blk.new _ _ _⟩
  case round =>
    obtain ⟨j, hq, rfl, hk⟩ := hrel
    obtain ⟨kw, bl⟩ := hk.out
    have hK := (G.out).1.keep kw
    have x5 : wr.cell? ⟨rb, 5, none⟩ = some (I R.now) := by rw [hK.head.cell]; rfl
    by_cases hj : j < xs.length
    · obtain ⟨d, hd⟩ : ∃ d, xs[j]? = some d := ⟨_, List.getElem?_eq_getElem hj⟩
      have hrow := row_frm (G.out).2.1 kw (fun _ _ e => e)
      obtain ⟨g, cap, hv, -, hcell, -⟩ := row_at hrow (fun _ => rfl) hd (by decide)
      injection hv with hv1 hv2 hv3
      subst hv1
      have d0 := hcell 0 (by decide)
      have d1 := hcell 1 (by decide)
      have d2 := hcell 2 (by decide)
      simp [dsC] at d0 d1 d2
      have hdd : ((rticks n R).doses.drop R.doses.length)[j]? = some d := by rw [HX.out]; exact hd
      have lastb := last_before (H.out).1 n (H.out).2.1 hdd
      rw [HX.out] at lastb
      obtain ⟨q1, q2, q3, k, ch, q4, q5, q6⟩ := (rticks_told (H.out).1.ok (H.out).1.full (H.out).1.told n (H.out).2.1).2 d (List.mem_of_getElem? hdd)
      have hk3 : k < 3 := by
        have := (List.getElem?_eq_some_iff.1 q5).1
        have := (H.out).1.nch
        omega
      have hr : wr.cell? ⟨rb, 6 + k, none⟩ = some (.bool false) := by
        have hc : rst R k = false := by rw [rst_of q5]; exact q6
        rw [hK.head.cell]
        have : k = 0 ∨ k = 1 ∨ k = 2 := by omega
        rcases this with rfl | rfl | rfl
        · show some (Value.bool (rst R 0)) = _; rw [hc]
        · show some (Value.bool (rst R 1)) = _; rw [hc]
        · show some (Value.bool (rst R 2)) = _; rw [hc]
      have m0 : wr.cell? ⟨w1.heap.size, 0, none⟩ = some (I (lastD R.now xs j).tick) := by rw [bl.cell]; rfl
      have m1 : wr.cell? ⟨w1.heap.size, 1, none⟩ = some (I (lastD R.now xs j).ch) := by rw [bl.cell]; rfl
      have ml := bl.lt
      have lr2 := hK.head.lt
      have lg := (hrow.lt g rfl).2
      have m2 : wr.cell? ⟨w1.heap.size, 2, none⟩ = some (I (lastD R.now xs j).amt) := by rw [bl.cell]; rfl
      have fz0 : wr.frozen? ⟨w1.heap.size, 0, none⟩ = false := bl.frozen 0
      have fz1 : wr.frozen? ⟨w1.heap.size, 1, none⟩ = false := bl.frozen 1
      have fz2 : wr.frozen? ⟨w1.heap.size, 2, none⟩ = false := bl.frozen 2
      rw [q4] at d1 lastb
      have hlt : (lastD R.now xs (j + 1)) = d := by simp [lastD, hd]
      have NX := hide (And.intro hq (And.intro kw (And.intro bl hlt)))
      obtain ⟨lb1, lb2⟩ := lastb
      have f1 : decide (d.tick < (lastD R.now xs j).tick) = false := decide_eq_false (by omega)
      have f3 : decide (R.now + (n : Int) ≤ d.tick) = false := decide_eq_false (by omega)
      have f4 : decide ((k : Int) < 0) = false := decide_eq_false (by omega)
      have f5 : decide (3 ≤ (k : Int)) = false := decide_eq_false (by omega)
      have f6 : decide (d.amt < 1) = false := decide_eq_false (by omega)
      have f2 : (lastD R.now xs j).tick = d.tick → decide ((k : Int) ≤ (lastD R.now xs j).ch) = false := fun e => decide_eq_false (by have := lb2 e; omega)
      have d1' : wr.cell? ⟨g, j * 3 + 1, none⟩ = some (I (k : Int)) := d1
      have KT : Hid (∀ (wz : World) (m : Nat), wz = (((((wr.alloc (.cells #[I d.tick, I k, I d.amt] 100)).drewN m).setCell ⟨w1.heap.size, 0, none⟩ (I d.tick)).setCell ⟨w1.heap.size, 1, none⟩ (I k)).setCell ⟨w1.heap.size, 2, none⟩ (I d.amt)) → ∃ j' : Nat, gk - 1 + j' = xs.length ∧ I ((j : Int) + 1) = I j' ∧ Hid (Keep w1 wz ∧ Blk wz w1.heap.size #[I (lastD R.now xs j').tick, I (lastD R.now xs j').ch, I (lastD R.now xs j').amt] 100)) := by
        intro wz m hw
        refine ⟨j + 1, by omega, by simp, ?_, ?_⟩
        · rw [hw]
          exact ((((kw.alloc _).drewN m).setNew (p := ⟨w1.heap.size, 0, none⟩) (Nat.le_refl _) _).setNew (p := ⟨w1.heap.size, 1, none⟩) (Nat.le_refl _) _).setNew (p := ⟨w1.heap.size, 2, none⟩) (Nat.le_refl _) _
        · rw [hlt, hw, q4]
          have := ((((bl.alloc (.cells #[I d.tick, I k, I d.amt] 100)).drewN m).set 0 (I d.tick)).set 1 (I k)).set 2 (I d.amt)
          simpa using this
      clear hk kw bl hK hrow hcell hv2 hv3 hdd hd hlt q1 q2 q3 q5 q6 lb1 lb2 G HX H hq
      generalize lastD R.now xs j = L at *
      by_cases he : L.tick = d.tick
      · have f2' := f2 he
        rw [he] at m0 f1
        clear f2
        go_wp2_with fail
        go_quiet (fail)
        go_wp2_with fail
        go_roundg (gk - 1)
        case measure => have := (NX.out).1; omega
        case rel => exact KT.out _ _ rfl
      · have f7 : (d.tick == L.tick) = false := by simpa using fun e => he e.symm
        clear f2
        go_wp2_with fail
        go_quiet (fail)
        go_wp2_with fail
        go_roundg (gk - 1)
        case measure => have := (NX.out).1; omega
        case rel => exact KT.out _ _ rfl
    · have hje : j = xs.length := by omega
      obtain ⟨ad, cpd, hvd⟩ := row_slice hK.row
      have hvd' : vd = .slice ad R.doses.length cpd := hvd
      have x4 : wr.cell? ⟨rb, 4, none⟩ = some (.slice ad R.doses.length cpd) := by rw [hK.head.cell, ← hvd']; rfl
      have lr2 := hK.head.lt
      have hbd : Blk wr rb (kv pb vl vd R).cells 38 := hK.head
      have hne : (Value.slice ad R.doses.length cpd).ownBlock ≠ some rb := by rw [← hvd']; exact hK.sd
      have hr1 : wr.ownsRow 0 100 3 (.slice ad R.doses.length cpd) R.doses.length (R.doses.flatMap dsC) := by rw [← hvd']; exact hK.row
      have hr2 := row_frm (G.out).2.1 kw (fun _ _ e => e)
      have FIN : Hid (∀ (w3 : World) (v' : Value), w3.ownsRow 0 100 3 v' (R.doses.length + xs.length) (R.doses.flatMap dsC ++ xs.flatMap dsC) → wr.grownBy w3 (Value.slice ad R.doses.length cpd).ownBlock → (v'.ownBlock = (Value.slice ad R.doses.length cpd).ownBlock ∨ (v'.ownBlock = some wr.heap.size ∧ wr.grownBy w3 none)) → w3.cell? ⟨rb, 4, none⟩ = some (.slice ad R.doses.length cpd) ∧ w3.cell? ⟨rb, 5, none⟩ = some (I R.now) ∧ w3.frozen? ⟨rb, 4, none⟩ = false ∧ w3.frozen? ⟨rb, 5, none⟩ = false ∧ rb < w3.heap.size ∧ Hid (KGo pa B w ((w3.setCell ⟨rb, 4, none⟩ v').setCell ⟨rb, 5, none⟩ (I (R.now + n))) rb (rticks n R))) := by
        intro w3 v' hown hg hnew
        have b3 := hbd.frm (grown_frm hg) (fun e => hne e)
        rw [← hvd'] at hg hnew
        refine ⟨by rw [b3.cell, ← hvd']; rfl, by rw [b3.cell]; rfl, b3.frozen 4, b3.frozen 5, b3.lt, ?_⟩
        rw [← s3]
        exact (G.out).2.2 wr w3 v' kw hown hg hnew
      have ROWS := hide (And.intro hr1 hr2)
      clear hk kw bl hK hvd hvd' hbd hne hr1 hr2 hq hje G HX H
      go_wp2_with (at_builtin; refine wpList_append_rows _ rfl (.tmp 107) (.tmp 108) 35 rfl 100 i (.agg #[I 0, I 0, I 0]) 3 24 Tryz.underlying35 hi hz0 hz1 hz2 rfl (by decide) _ _ _ rfl (ROWS.out).1 _ _ _ rfl (ROWS.out).2 (dsC_one _) (by unfold maxLen; omega) (by omega) ?_; intro v' w3 hown hg hnew; obtain ⟨a5, cp5, hv5⟩ := row_slice hown; subst hv5; obtain ⟨y4, y5, z4, z5, l3, GO⟩ := FIN.out w3 _ hown hg hnew; clear hown hg hnew)
      go_ret
      exact ⟨rfl, GO.out⟩

end Go.Proofs.YtpilmkipbbengaaGreatDoor

/- dripkeep: what a call of the pump leaves. -/
namespace Go.Proofs.YtpilmkipbbengaaGreatDoor
open Go.RowKit

theorem kbasal_ok {R : RSt} (ok : R.Ok) (hf : R.Full) (k rate ticks : Int) : (basalR R k rate ticks).Ok ∧ (basalR R k rate ticks).Full := by
  unfold basalR
  split
  · exact ⟨ok, hf⟩
  · rename_i hb
    have hb' : basalBad R k rate ticks = false := by simpa using hb
    simp only [basalBad, Bool.or_eq_false_iff] at hb'
    obtain ⟨⟨⟨⟨-, h2⟩, h3⟩, h4⟩, h5⟩ := hb'
    simp at h2 h3 h4 h5
    unfold rbasal
    split
    · exact ⟨ok, hf⟩
    · rename_i c hc
      have n0 := ok.now0
      have n1 := ok.now1
      refine ⟨⟨ok.lims, ok.nl, ok.doses, ok.nd, ok.now0, ok.now1, by simpa using ok.nc0, by simpa using ok.nc1, ?_, ok.no, ok.os⟩, hf⟩
      intro x hx
      rcases List.mem_or_eq_of_mem_set hx with hx | rfl
      · exact ok.chs x hx
      · have hcc := ok.chs c (List.mem_of_getElem? hc)
        refine ⟨h2, h3, ?_, ?_, hcc.2.2.2.2⟩
        · simp only; split <;> omega
        · simp only; split <;> omega

theorem knew_ok {c : Int} {lims : List Lim} {lock : Int} (h : fineB c lims lock = true) : (rnew c.toNat lims lock).Ok ∧ (rnew c.toNat lims lock).Full := by
  simp only [fineB, Bool.and_eq_true, Bool.not_eq_true', List.all_eq_true] at h
  obtain ⟨h1, h2⟩ := h
  simp [badHead] at h1
  refine ⟨⟨?_, by simp [rnew]; omega, by simp [rnew], by simp [rnew], by simp [rnew], by simp [rnew], by simp [rnew]; omega, by simp [rnew]; omega, ?_, by simp [rnew], by simp [rnew]⟩, by simp [RSt.Full, rnew, nov]⟩
  · intro l hl
    have := h2 l hl
    simp [badLim] at this
    have hc : c = 1 ∨ c = 2 ∨ c = 3 ∨ c = 4 := by omega
    have h16 : (2 : Int) ^ c.toNat ≤ 16 := by rcases hc with rfl | rfl | rfl | rfl <;> decide
    exact ⟨by omega, by omega, by omega, by omega, by omega, by omega⟩
  · intro x hx
    simp [rnew] at hx
    rw [hx.2]; simp [ch0]

/-- what a call other than Run leaves as it was, as far as dripkeep looks -/
structure Still (R R' : RSt) : Prop where
  lims : R'.lims = R.lims
  lock : R'.lock = R.lock
  doses : R'.doses = R.doses
  now : R'.now = R.now
  nch : R'.chs.length = R.chs.length

theorem Still.refl (R : RSt) : Still R R := ⟨rfl, rfl, rfl, rfl, rfl⟩
theorem Still.kok {R R' : RSt} (s : Still R R') (h : KOk R) (ok : R'.Ok ∧ R'.Full) : KOk R' :=
  ⟨ok.1, ok.2, h.told.same s.doses s.lims s.now, s.nch.trans h.nch⟩
theorem Still.kv {R R' : RSt} (s : Still R R') (hr : ∀ k, rst R' k = rst R k) (pb : Nat) (vl vd : Value) : Go.Proofs.YtpilmkipbbengaaGreatDoor.kv pb vl vd R' = Go.Proofs.YtpilmkipbbengaaGreatDoor.kv pb vl vd R := by
  unfold Go.Proofs.YtpilmkipbbengaaGreatDoor.kv
  rw [s.lims, s.lock, s.doses, s.now, hr, hr, hr]

theorem rbasal_still (R : RSt) (k : Nat) (r t : Int) : Still R (rbasal R k r t) := by
  unfold rbasal
  split
  · exact Still.refl R
  · exact ⟨rfl, rfl, rfl, rfl, by simp⟩
theorem rbasal_rst (R : RSt) (k : Nat) (r t : Int) (j : Nat) : rst (rbasal R k r t) j = rst R j := by
  unfold rbasal
  split
  · rfl
  · rename_i c hc
    have hk := (List.getElem?_eq_some_iff.1 hc).1
    unfold rst
    by_cases q : k = j
    · subst q
      rw [List.getElem?_set_self hk, hc]
    · rw [List.getElem?_set_ne q]
theorem basalR_still (R : RSt) (k r t : Int) : Still R (basalR R k r t) := by
  unfold basalR; split
  · exact Still.refl R
  · exact rbasal_still ..
theorem basalR_rst (R : RSt) (k r t : Int) (j : Nat) : rst (basalR R k r t) j = rst R j := by
  unfold basalR; split
  · rfl
  · exact rbasal_rst ..
theorem orderR_still (R : RSt) (k a d t : Int) : Still R (orderR R k a d t) ∧ ∀ j, rst (orderR R k a d t) j = rst R j := by
  unfold orderR; split
  · exact ⟨⟨rfl, rfl, rfl, rfl, rfl⟩, fun _ => rfl⟩
  · exact ⟨Still.refl R, fun _ => rfl⟩
theorem askedR_still (R : RSt) (k : Nat) : Still R (askedR R k) ∧ ∀ j, rst (askedR R k) j = rst R j := by
  unfold askedR
  split
  · exact ⟨Still.refl R, fun _ => rfl⟩
  · rename_i c hc
    have hk := (List.getElem?_eq_some_iff.1 hc).1
    refine ⟨⟨rfl, rfl, rfl, rfl, by simp⟩, fun j => ?_⟩
    unfold rst
    by_cases q : k = j
    · subst q
      rw [List.getElem?_set_self hk, hc]
    · rw [List.getElem?_set_ne q]
theorem demandR_still (R : RSt) (k a : Int) : Still R (demandR R k a) ∧ ∀ j, rst (demandR R k a) j = rst R j := by
  unfold demandR; split
  · obtain ⟨a1, a2⟩ := orderR_still R k a 0 1
    obtain ⟨b1, b2⟩ := askedR_still (orderR R k a 0 1) k.toNat
    exact ⟨⟨b1.lims.trans a1.lims, b1.lock.trans a1.lock, b1.doses.trans a1.doses, b1.now.trans a1.now, b1.nch.trans a1.nch⟩, fun j => (b2 j).trans (a2 j)⟩
  · exact ⟨Still.refl R, fun _ => rfl⟩
/-- Pause, Resume of a channel that does not, does rest -/
theorem restsR_flip {R : RSt} {k : Nat} (hk : k < R.chs.length) {yes : Bool} (hr : rst R k = !yes) : restsErr R k yes = 0 ∧ Still R (restsR R k yes) ∧ ∀ j, rst (restsR R k yes) j = if j = k then yes else rst R j := by
  obtain ⟨c, hc⟩ : ∃ c, R.chs[k]? = some c := ⟨_, List.getElem?_eq_getElem hk⟩
  have hcr : c.rests = !yes := by rw [← rst_of hc]; exact hr
  have h1 : isCh R k = true := by simp [isCh]; omega
  have e1 : restsErr R k yes = 0 := by
    unfold restsErr
    rw [if_pos h1, Int.toNat_natCast, hc]
    cases yes <;> simp_all
  have e2 : restsR R k yes = { R with chs := R.chs.set k { c with rests := yes } } := by
    unfold restsR
    rw [if_pos e1, Int.toNat_natCast, hc]
  refine ⟨e1, ?_, ?_⟩
  · rw [e2]; exact ⟨rfl, rfl, rfl, rfl, by simp⟩
  · intro j
    rw [e2]
    unfold rst
    by_cases q : j = k
    · subst q
      simp [List.getElem?_set_self hk]
    · rw [if_neg q]
      show (match (R.chs.set k { c with rests := yes })[j]? with | some c => c.rests | none => false) = _
      rw [List.getElem?_set_ne (Ne.symm q)]
      all_goals (cases R.chs[j]? <;> rfl)

/-- a call of the pump, other than Run -/
theorem KAt.called {pa : Rep} {B : Nat → Prop} {w W w' : World} {rb pb : Nat} {F : Nat → Prop} {R R' : RSt} {vl vd : Value} (h : KAt pa B w rb pb F R vl vd) (hB : ∀ x, w.heap.size ≤ x → B x) (kW : Keep w W) (mv : Moved pa W F pb R' w') :
    ∃ F', KRd w' rb (kv pb vl vd R) ∧ pa w' F' pb R' ∧ Frm B w w' ∧ ¬ F' rb ∧ (∀ x, F' x → vd.ownBlock ≠ some x) ∧ (∀ x, F' x → vl.ownBlock ≠ some x) ∧ (∀ x, F' x → B x) := by
  obtain ⟨f, F', p1, F1⟩ := mv
  have hk : KRd W rb (kv pb vl vd R) := h.rd.keep kW
  have sz := kW.size
  have lt : rb < w.heap.size := h.rd.head.lt
  refine ⟨F', hk.frm f h.fr (fun x hx e => h.fd x e hx) (fun x hx e => h.fl x e hx), p1, (kW.mono fun _ _ e => e.elim).trans2 f fun x _ e => h.lf x e, ?_, ?_, ?_, ?_⟩
  · intro e
    rcases F1 rb e with q | q
    · exact h.fr q
    · omega
  · intro x hx e
    rcases F1 x hx with q | q
    · exact h.fd x q e
    · have := (h.rd.row.lt x e).2; omega
  · intro x hx e
    rcases F1 x hx with q | q
    · exact h.fl x q e
    · have := (h.rd.lims.lt x e).2; omega
  · intro x hx
    rcases F1 x hx with q | q
    · exact h.lf x q
    · exact hB x (by omega)

theorem KAt.still {pa : Rep} {B : Nat → Prop} {w W w' : World} {rb pb : Nat} {F : Nat → Prop} {R R' : RSt} {vl vd : Value} (h : KAt pa B w rb pb F R vl vd) (hB : ∀ x, w.heap.size ≤ x → B x) (kW : Keep w W) (mv : Moved pa W F pb R' w') (s : Still R R') (hr : ∀ k, rst R' k = rst R k) : KGo pa B w w' rb R' := by
  obtain ⟨F', h1, h2, h3, h4, h5, h6, h7⟩ := h.called hB kW mv
  exact ⟨h3, pb, F', vl, vd, by rw [s.kv hr]; exact h1, h2, h4, h5, h6, h.lb, h7, h.ld⟩

theorem KAt.keep {pa : Rep} {B : Nat → Prop} {w w' : World} {rb pb : Nat} {F : Nat → Prop} {R : RSt} {vl vd : Value} (h : KAt pa B w rb pb F R vl vd) (frmP : ∀ {S : Nat → Prop} {w w' : World} {F : Nat → Prop} {b : Nat} {R : RSt}, pa w F b R → Frm S w w' → (∀ x, F x → ¬ S x) → pa w' F b R) (k : Keep w w') : KAt pa B w' rb pb F R vl vd :=
  ⟨h.rd.keep k, frmP h.pump k fun _ _ e => e, h.fr, h.fd, h.fl, h.lb, h.lf, h.ld⟩

theorem KGo.trans {pa : Rep} {B : Nat → Prop} {w w1 w2 : World} {rb : Nat} {R' : RSt} (f : Frm B w w1) (g : KGo pa B w1 w2 rb R') : KGo pa B w w2 rb R' := ⟨f.trans g.1, g.2⟩

end Go.Proofs.YtpilmkipbbengaaGreatDoor
