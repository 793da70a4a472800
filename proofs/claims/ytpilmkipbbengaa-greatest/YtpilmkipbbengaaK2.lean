/- dripkeep's Run in memory, with its pump; ticks. -/
import Derived.Test.YtpilmkipbbengaaK1
namespace Go.Proofs.Ytpilmkipbbengaa
open Go.RowKit

def rst (R : RSt) (k : Nat) : Bool := match R.chs[k]? with
  | some c => c.rests
  | none => false
def kv (pb : Nat) (vl vd : Value) (R : RSt) : KV := ⟨.pointer (some ⟨pb, 0, none⟩), vl, vd, R.lims, R.lock, R.doses, R.now, rst R 0, rst R 1, rst R 2⟩

structure KAt (pa : Rep) (B : Nat → Prop) (w : World) (rb pb : Nat) (F : Nat → Prop) (R : RSt) (vl vd : Value) : Prop where
  rd : KRd w rb (kv pb vl vd R)
  pump : pa w F pb R
  fr : ¬ F rb
  fd : ∀ x, F x → vd.ownBlock ≠ some x
  fl : ∀ x, F x → vl.ownBlock ≠ some x
  lb : B rb
  lf : ∀ x, F x → B x
  ld : ∀ x, vd.ownBlock = some x → B x

structure KOk (R : RSt) : Prop where
  ok : R.Ok
  full : R.Full
  told : Told R
  nch : R.chs.length = 3

theorem KOk.kvok {R : RSt} (h : KOk R) (pb : Nat) (vl vd : Value) : (kv pb vl vd R).Ok := ⟨h.ok.lims, h.ok.nl, h.ok.doses, h.ok.nd, h.ok.now0, h.ok.now1⟩

def KGo (pa : Rep) (B : Nat → Prop) (w w' : World) (rb : Nat) (R' : RSt) : Prop := Frm B w w' ∧ ∃ pb F vl vd, KAt pa B w' rb pb F R' vl vd

theorem KRd.sd {w : World} {rb : Nat} {K : KV} (h : KRd w rb K) : K.vd.ownBlock ≠ some rb := fun e => by
  have hr := h.row
  rcases hr.2 with ⟨e1, -⟩ | ⟨g, cap, cur, e1, -, h2, -⟩
  · rw [e1] at e; cases e
  · rw [e1] at e; injection e with e
    have hh := h.head
    unfold Blk at hh
    have h2' : w.heap[g]? = some (.cells cur 52 (0, 0)) := h2
    have e : g = rb := e
    rw [e, hh] at h2'
    injection h2' with h2'
    injection h2' with q1 q2
    revert q2; decide
theorem KRd.sl {w : World} {rb : Nat} {K : KV} (h : KRd w rb K) : K.vl.ownBlock ≠ some rb := fun e => by
  have hr := h.lims
  rcases hr.2 with ⟨e1, -⟩ | ⟨g, cap, cur, e1, -, h2, -⟩
  · rw [e1] at e; cases e
  · rw [e1] at e; injection e with e
    have hh := h.head
    unfold Blk at hh
    have h2' : w.heap[g]? = some (.cells cur 63 (0, 0)) := h2
    have e : g = rb := e
    rw [e, hh] at h2'
    injection h2' with h2'
    injection h2' with q1 q2
    revert q2; decide
theorem KRd.dl {w : World} {rb : Nat} {K : KV} (h : KRd w rb K) : ∀ x, K.vd.ownBlock = some x → K.vl.ownBlock ≠ some x := fun x hx e => by
  rcases h.row.2 with ⟨e1, -⟩ | ⟨g, cap, cur, e1, -, h2, -⟩
  · rw [e1] at hx; cases hx
  · rcases h.lims.2 with ⟨e3, -⟩ | ⟨g', cap', cur', e3, -, h4, -⟩
    · rw [e3] at e; cases e
    · rw [e1] at hx; injection hx with hx
      rw [e3] at e; injection e with e
      have h2' : w.heap[g]? = some (.cells cur 52 (0, 0)) := h2
      have h4' : w.heap[g']? = some (.cells cur' 63 (0, 0)) := h4
      have hx : g = x := hx
      have e : g' = x := e
      rw [hx] at h2'; rw [e, h2'] at h4'
      injection h4' with h4'
      injection h4' with q1 q2
      revert q2; decide

theorem KRd.frm {S : Nat → Prop} {w w' : World} {rb : Nat} {K : KV} (h : KRd w rb K) (f : Frm S w w') (h1 : ¬ S rb) (h2 : ∀ x, K.vd.ownBlock = some x → ¬ S x) (h3 : ∀ x, K.vl.ownBlock = some x → ¬ S x) : KRd w' rb K :=
  ⟨h.head.frm f h1, row_frm h.lims f h3, row_frm h.row f h2⟩

/-- a call of the pump has gone by -/
theorem KAt.moved {pa : Rep} {B : Nat → Prop} {w w1 : World} {rb pb : Nat} {F : Nat → Prop} {R : RSt} {vl vd : Value} (h : KAt pa B w rb pb F R vl vd) (f : Frm F w w1) : KRd w1 rb (kv pb vl vd R) :=
  h.rd.frm f h.fr (fun x hx e => h.fd x e hx) (fun x hx e => h.fl x e hx)

def lastD (now : Int) (xs : List Ds) : Nat → Ds
  | 0 => ⟨now, -1, 0⟩
  | j + 1 => (xs[j]?).getD ⟨now, -1, 0⟩

theorem ds_join {R R' : RSt} (h : R.doses <+: R'.doses) : R.doses ++ R'.doses.drop R.doses.length = R'.doses := by
  obtain ⟨t, ht⟩ := h
  rw [← ht]; simp

theorem rst_of {R : RSt} {k : Nat} {c : RCh} (h : R.chs[k]? = some c) : rst R k = c.rests := by simp [rst, h]
theorem rst_same {R R' : RSt} (h : R'.chs = R.chs) (k : Nat) : rst R' k = rst R k := by simp [rst, h]

theorem runs_ok {R : RSt} (h : KOk R) (n : Nat) (hn : R.now + n ≤ 400) : KOk (rticks n R) := by
  obtain ⟨o1, o2⟩ := rticks_ok h.ok h.full n hn
  exact ⟨o1, o2, (rticks_told h.ok h.full h.told n hn).1, by rw [(rticks_same n R).1]; exact h.nch⟩

/-- what stands ahead of the j-th dose of a run -/
theorem last_before {R : RSt} (h : KOk R) (n : Nat) (hn : R.now + n ≤ 400) {j : Nat} {d : Ds} (hd : ((rticks n R).doses.drop R.doses.length)[j]? = some d) :
    (lastD R.now ((rticks n R).doses.drop R.doses.length) j).tick ≤ d.tick ∧ ((lastD R.now ((rticks n R).doses.drop R.doses.length) j).tick = d.tick → (lastD R.now ((rticks n R).doses.drop R.doses.length) j).ch < d.ch) := by
  obtain ⟨t1, t2⟩ := rticks_told h.ok h.full h.told n hn
  obtain ⟨q1, q2, q3, k, c, q4, q5, q6⟩ := t2 d (List.mem_of_getElem? hd)
  cases j with
  | zero =>
    simp only [lastD]
    exact ⟨q1, fun _ => by omega⟩
  | succ j =>
    obtain ⟨l1, -⟩ := List.getElem?_eq_some_iff.1 hd
    obtain ⟨e, he⟩ : ∃ e, ((rticks n R).doses.drop R.doses.length)[j]? = some e := ⟨_, List.getElem?_eq_getElem (by omega)⟩
    simp only [lastD, he, Option.getD_some]
    rcases (t1.rise.drop R.doses.length).next he hd with q | ⟨r1, r2⟩
    · exact ⟨by omega, fun e => by omega⟩
    · exact ⟨by omega, fun _ => r2⟩

/-- what ticks leaves -/
theorem KAt.ticked {pa : Rep} {B : Nat → Prop} {w w1 wr w3 : World} {rb pb : Nat} {F F' : Nat → Prop} {R R' : RSt} {vl vd v' : Value} (h : KAt pa B w rb pb F R vl vd) (frmP : ∀ {S : Nat → Prop} {w w' : World} {F : Nat → Prop} {b : Nat} {R : RSt}, pa w F b R → Frm S w w' → (∀ x, F x → ¬ S x) → pa w' F b R) (ltP : ∀ {w : World} {F : Nat → Prop} {b : Nat} {R : RSt}, pa w F b R → ∀ x, F x → x < w.heap.size)
    (hB : ∀ x, w.heap.size ≤ x → B x) (f1 : Frm F w w1) (p1 : pa w1 F' pb R') (F1 : ∀ x, F' x → F x ∨ w.heap.size ≤ x) (kr : Keep w1 wr)
    (hd : R'.doses = R.doses ++ R'.doses.drop R.doses.length) (e1 : R'.lims = R.lims) (e2 : R'.lock = R.lock) (e3 : R'.chs = R.chs)
    (hown : w3.ownsRow 0 52 3 v' (R.doses.length + (R'.doses.drop R.doses.length).length) (R.doses.flatMap dsC ++ (R'.doses.drop R.doses.length).flatMap dsC)) (hg : wr.grownBy w3 vd.ownBlock) (hnew : v'.ownBlock = vd.ownBlock ∨ (v'.ownBlock = some wr.heap.size ∧ wr.grownBy w3 none)) :
    KGo pa B w ((w3.setCell ⟨rb, 4, none⟩ v').setCell ⟨rb, 5, none⟩ (I R'.now)) rb R' := by
  have hrd := (h.moved f1).keep kr
  have f3 := grown_frm hg
  have s1 := f1.size
  have s2 := kr.size
  have hlt : rb < w.heap.size := h.rd.head.lt
  have h3 : Blk w3 rb (kv pb vl vd R).cells 39 := hrd.head.frm f3 fun e => hrd.sd e
  have f4 : Frm (fun x => x = rb) w3 ((w3.setCell ⟨rb, 4, none⟩ v').setCell ⟨rb, 5, none⟩ (I R'.now)) := ((Frm.refl (fun x => x = rb) w3).setCell (p := ⟨rb, 4, none⟩) rfl v').setCell (p := ⟨rb, 5, none⟩) rfl _
  have vn : ∀ x, v'.ownBlock = some x → vd.ownBlock = some x ∨ x = wr.heap.size := by
    intro x hx
    rcases hnew with e | ⟨e, -⟩
    · exact Or.inl (by rw [← e]; exact hx)
    · rw [e] at hx; injection hx with hx; exact Or.inr hx.symm
  have pl := ltP p1
  have fdn : ∀ x, F' x → v'.ownBlock ≠ some x := by
    intro x hx e
    rcases vn x e with q | q
    · rcases F1 x hx with r | r
      · exact h.fd x r q
      · have := (h.rd.row.lt x q).2; omega
    · have := pl x hx; omega
  have vr : v'.ownBlock ≠ some rb := by
    intro e
    rcases vn rb e with q | q
    · exact h.rd.sd q
    · omega
  refine ⟨?_, pb, F', vl, v', ⟨?_, ?_, ?_⟩, ?_, ?_, fdn, ?_, h.lb, ?_, ?_⟩
  · refine (((f1.mono fun x _ e => h.lf x e).trans2 kr fun _ _ e => e.elim).trans2 f3 fun x hx e => h.ld x e).trans2 f4 fun x _ e => by subst e; exact h.lb
  · have := (h3.set 4 v').set 5 (I R'.now)
    simpa [kv, KV.cells, e1, e2, rst_same e3] using this
  · show World.ownsRow _ 0 63 3 vl R'.lims.length (R'.lims.flatMap limC)
    rw [e1]
    refine row_frm (row_frm hrd.lims f3 fun x hx e => hrd.dl x e hx) f4 fun x hx e => ?_
    subst e; exact h.rd.sl hx
  · show World.ownsRow _ 0 52 3 v' R'.doses.length (R'.doses.flatMap dsC)
    have q1 : R'.doses.length = R.doses.length + (R'.doses.drop R.doses.length).length := by rw [hd]; simp
    have q2 : R'.doses.flatMap dsC = R.doses.flatMap dsC ++ (R'.doses.drop R.doses.length).flatMap dsC := by rw [← List.flatMap_append, ← hd]
    rw [q1, q2]
    exact row_frm hown f4 fun x hx e => vr (by rw [← e]; exact hx)
  · refine frmP (frmP (frmP p1 kr fun _ _ e => e) f3 fun x hx e => ?_) f4 fun x hx e => ?_
    · rcases F1 x hx with r | r
      · exact h.fd x r e
      · have := (h.rd.row.lt x e).2; omega
    · subst e
      rcases F1 x hx with r | r
      · exact h.fr r
      · omega
  · intro hx
    rcases F1 rb hx with r | r
    · exact h.fr r
    · omega
  · intro x hx e
    rcases F1 x hx with r | r
    · exact h.fl x r e
    · have := (h.rd.lims.lt x e).2; omega
  · intro x hx
    rcases F1 x hx with r | r
    · exact h.lf x r
    · exact hB x r
  · intro x hx
    rcases vn x hx with q | q
    · exact h.ld x q
    · exact hB x (by omega)

end Go.Proofs.Ytpilmkipbbengaa
