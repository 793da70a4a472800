/- Greatest: what lies in memory. -/
import Derived.Test.YtpilmkipbbengaaKGpure
import Derived.Test.YtpilmkipbbengaaK10
import Derived.Test.YtpilmkipbbengaaK1r
import Derived.Test.YtpilmkipbbengaaK8
namespace Go.Proofs.Ytpilmkipbbengaa
open Go.RowKit

theorem KAt.into {pa : Rep} {B B' : Nat → Prop} {w : World} {rb pb : Nat} {F : Nat → Prop} {R : RSt} {vl vd : Value} (h : KAt pa B w rb pb F R vl vd) (lt : ∀ x, F x → x < w.heap.size) (hs : ∀ x, B x → x < w.heap.size → B' x) : KAt pa B' w rb pb F R vl vd :=
  ⟨h.rd, h.pump, h.fr, h.fd, h.fl, hs rb h.lb h.rd.head.lt, fun x hx => hs x (h.lf x hx) (lt x hx), fun x hx => hs x (h.ld x hx) (h.rd.row.lt x hx).2⟩

/-- the run, and the rates beside it -/
structure KGSt (pa : Rep) (w wr : World) (rb ab : Nat) (R : RSt) (A : Nat → Int) : Prop where
  frm : Keep w wr
  at_ : ∃ pb F vl vd, KAt pa (fun x => w.heap.size ≤ x ∧ x ≠ ab) wr rb pb F R vl vd
  ok : KOk R
  arr : Blk wr ab #[I (A 0), I (A 1), I (A 2)] 47

theorem garr_cell {w : World} {ab : Nat} {A : Nat → Int} (h : Blk w ab #[I (A 0), I (A 1), I (A 2)] 47) {k : Nat} (hk : k < 3) : w.cell? ⟨ab, k, none⟩ = some (I (A k)) := by
  rw [h.cell]
  have : k = 0 ∨ k = 1 ∨ k = 2 := by omega
  rcases this with rfl | rfl | rfl <;> rfl

theorem KGSt.hB {pa : Rep} {w wr : World} {rb ab : Nat} {R : RSt} {A : Nat → Int} (h : KGSt pa w wr rb ab R A) : ∀ x, wr.heap.size ≤ x → w.heap.size ≤ x ∧ x ≠ ab := by
  intro x hx
  have := h.frm.size
  have := h.arr.lt
  exact ⟨by omega, by omega⟩

/-- a rate is written down -/
theorem KGSt.rated {pa : Rep} {w wr : World} {rb ab : Nat} {R : RSt} {A : Nat → Int} {k : Nat} {n : Int} (h : KGSt pa w wr rb ab R A) (frmP : ∀ {S : Nat → Prop} {w w' : World} {F : Nat → Prop} {b : Nat} {R : RSt}, pa w F b R → Frm S w w' → (∀ x, F x → ¬ S x) → pa w' F b R)
    (hk : k < 3) (hab : w.heap.size ≤ ab) : KGSt pa w (wr.setCell ⟨ab, k, none⟩ (I n)) rb ab R (fun j => if j = k then n else A j) := by
  obtain ⟨pb, F, vl, vd, hh⟩ := h.at_
  have f : Frm (fun x => x = ab) wr (wr.setCell ⟨ab, k, none⟩ (I n)) := (Frm.refl (fun x => x = ab) wr).setCell (p := ⟨ab, k, none⟩) rfl _
  refine ⟨h.frm.setNew (p := ⟨ab, k, none⟩) hab _, ⟨pb, F, vl, vd, hh.rd.frm f (fun e => hh.lb.2 e) (fun x hx e => (hh.ld x hx).2 e) (fun x hx e => ?_), frmP hh.pump f (fun x hx e => (hh.lf x hx).2 e), hh.fr, hh.fd, hh.fl, hh.lb, hh.lf, hh.ld⟩, h.ok, ?_⟩
  · subst e
    exact row_ne hh.rd.lims h.arr (by decide) hx
  · have hs := h.arr.set k (I n)
    have e : (#[I (A 0), I (A 1), I (A 2)] : Array Value).setIfInBounds k (I n) = #[I (if 0 = k then n else A 0), I (if 1 = k then n else A 1), I (if 2 = k then n else A 2)] := by
      have : k = 0 ∨ k = 1 ∨ k = 2 := by omega
      rcases this with rfl | rfl | rfl <;> simp
    rw [e] at hs
    exact hs

theorem KGSt.keep {pa : Rep} {w wr w2 : World} {rb ab : Nat} {R : RSt} {A : Nat → Int} (h : KGSt pa w wr rb ab R A) (frmP : ∀ {S : Nat → Prop} {w w' : World} {F : Nat → Prop} {b : Nat} {R : RSt}, pa w F b R → Frm S w w' → (∀ x, F x → ¬ S x) → pa w' F b R) (k : Keep wr w2) : KGSt pa w w2 rb ab R A := by
  obtain ⟨pb, F, vl, vd, ha⟩ := h.at_
  exact ⟨h.frm.trans k, ⟨pb, F, vl, vd, ha.keep frmP k⟩, h.ok, k.blk h.arr⟩

theorem KGSt.sameA {pa : Rep} {w wr : World} {rb ab : Nat} {R : RSt} {A A' : Nat → Int} (h : KGSt pa w wr rb ab R A) (e : ∀ j, j < 3 → A' j = A j) : KGSt pa w wr rb ab R A' :=
  ⟨h.frm, h.at_, h.ok, by rw [e 0 (by omega), e 1 (by omega), e 2 (by omega)]; exact h.arr⟩

/-- Basal -/
theorem KGSt.basal {fNew fRun fRoom fWait : FuncId} {pa : Rep} (P : Pumpy fNew 18 fRun fRoom fWait pa) {w wr : World} {rb ab : Nat} {R : RSt} {A : Nat → Int} (h : KGSt pa w wr rb ab R A) {k : Nat} (hk : k < 3) {r : Int} (r0 : 0 ≤ r) (r1 : r ≤ 1000) :
    ∃ pb : Nat, wr.cell? ⟨rb, 0, none⟩ = some (.pointer (some ⟨pb, 0, none⟩)) ∧ ∀ W : World, Keep wr W → Calls Try.prog 18 #[.pointer (some ⟨pb, 0, none⟩), I k, I r, I 0] W fun e w2 => e = .returned (I 0) ∧ w2.cell? ⟨rb, 0, none⟩ = some (.pointer (some ⟨pb, 0, none⟩)) ∧ w2.cell? ⟨ab, k, none⟩ = some (I (A k)) ∧ Hid (KGSt pa w w2 rb ab (basalR R k r 0) A) := by
  obtain ⟨pb, F, vl, vd, hh⟩ := h.at_
  refine ⟨pb, by rw [hh.rd.head.cell]; rfl, fun W kW => ?_⟩
  have hb : basalBad R k r 0 = false := by
    have h1 : isCh R k = true := by
      have := h.ok.nch
      simp [isCh]; omega
    simp [basalBad, h1]; omega
  refine (P.basal k r 0 W F pb R (P.frm hh.pump kW fun _ _ e => e) h.ok.ok h.ok.full).mono ?_
  rintro e w2 ⟨rfl, mv⟩
  have g := hh.still h.hB kW mv (basalR_still R k r 0) (basalR_rst R k r 0)
  have bk : KRd w2 rb (kv pb vl vd R) := (hh.rd.keep kW).frm mv.1 hh.fr (fun x hx e => hh.fd x e hx) (fun x hx e => hh.fl x e hx)
  have ar := h.arr.frm g.1 fun e => e.2 rfl
  refine ⟨by simp [basalErr, hb], by rw [bk.head.cell]; rfl, garr_cell ar hk, ?_⟩
  exact ⟨h.frm.trans2 g.1 fun x hx e => by omega, g.2, (basalR_still R k r 0).kok h.ok (kbasal_ok h.ok.ok h.ok.full k r 0), ar⟩

/-- the pump is a tick ahead -/
structure KGLag (pa : Rep) (w wr : World) (rb ab : Nat) (R : RSt) (ds : List Ds) (t : Int) (A : Nat → Int) (vo : Value) (xs : List Ds) : Prop where
  frm : Keep w wr
  at_ : ∃ pb F vl vd, KRd wr rb { kv pb vl vd R with ds := ds, now := t } ∧ pa wr F pb R ∧ ¬ F rb ∧ (∀ x, F x → vd.ownBlock ≠ some x) ∧ (∀ x, F x → vl.ownBlock ≠ some x) ∧ w.heap.size ≤ rb ∧ (∀ x, F x → w.heap.size ≤ x ∧ x ≠ ab) ∧ (∀ x, vd.ownBlock = some x → w.heap.size ≤ x) ∧ ∀ x, vo.ownBlock = some x → vd.ownBlock ≠ some x
  arr : Blk wr ab #[I (A 0), I (A 1), I (A 2)] 47
  row : wr.ownsRow 0 52 3 vo xs.length (xs.flatMap dsC)

theorem KGLag.keep {pa : Rep} {w wr w2 : World} {rb ab : Nat} {R : RSt} {ds xs : List Ds} {t : Int} {A : Nat → Int} {vo : Value} (h : KGLag pa w wr rb ab R ds t A vo xs) (frmP : ∀ {S : Nat → Prop} {w w' : World} {F : Nat → Prop} {b : Nat} {R : RSt}, pa w F b R → Frm S w w' → (∀ x, F x → ¬ S x) → pa w' F b R) (k : Keep wr w2) : KGLag pa w w2 rb ab R ds t A vo xs := by
  obtain ⟨pb, F, vl, vd, h1, h2, h3⟩ := h.at_
  exact ⟨h.frm.trans k, ⟨pb, F, vl, vd, h1.keep k, frmP h2 k fun _ _ e => e, h3⟩, k.blk h.arr, row_frm h.row k fun _ _ e => e⟩

/-- Run(1) -/
theorem KGSt.run {fNew fBasal fRoom fWait : FuncId} {pa : Rep} (P : Pumpy fNew fBasal 19 fRoom fWait pa) {w wr : World} {rb ab : Nat} {R : RSt} {A : Nat → Int} (h : KGSt pa w wr rb ab R A) (hn : R.now + 1 ≤ 400) :
    ∃ pb : Nat, wr.cell? ⟨rb, 0, none⟩ = some (.pointer (some ⟨pb, 0, none⟩)) ∧ ∀ W : World, Keep wr W → Calls Try.prog 19 #[.pointer (some ⟨pb, 0, none⟩), I 1] W fun e w2 => ∃ a c, e = .returned (.tuple #[.slice a ((rtick R).doses.drop R.doses.length).length c, I 0]) ∧ Hid (KGLag pa w w2 rb ab (rtick R) R.doses R.now A (.slice a ((rtick R).doses.drop R.doses.length).length c) ((rtick R).doses.drop R.doses.length)) := by
  obtain ⟨pb, F, vl, vd, hh⟩ := h.at_
  refine ⟨pb, by rw [hh.rd.head.cell]; rfl, fun W kW => ?_⟩
  have e1 : runErr R 1 = 0 := by rw [runErr, if_neg (by omega), if_neg (by omega)]
  have e2 : runDs R 1 = (rtick R).doses.drop R.doses.length := by
    have : (1 : Int).toNat = 1 := rfl
    simp [runDs, e1, this, rticks]
  have e3 : runR R 1 = rtick R := by
    have : (1 : Int).toNat = 1 := rfl
    simp [runR, e1, this, rticks]
  refine (P.run 1 W F pb R (P.frm hh.pump kW fun _ _ e => e) h.ok.ok h.ok.full).mono ?_
  rintro e w1 ⟨vout, rfl, hrow, f1, F', p1, F1, hv⟩
  rw [e2] at hrow
  rw [e3] at p1
  obtain ⟨a, c, rfl⟩ := row_slice hrow
  obtain ⟨s1, s2, s3, s4, -⟩ := rtick_same R
  have hk : KRd w1 rb (kv pb vl vd R) := (hh.rd.keep kW).frm f1 hh.fr (fun x hx e => hh.fd x e hx) (fun x hx e => hh.fl x e hx)
  have ar : Blk w1 ab #[I (A 0), I (A 1), I (A 2)] 47 := (kW.blk h.arr).frm f1 fun e => (hh.lf ab e).2 rfl
  have sz := kW.size
  have sz0 := h.frm.size
  have lr := hh.rd.head.lt
  have la := h.arr.lt
  have ek : ({ kv pb vl vd (rtick R) with ds := R.doses, now := R.now } : KV) = kv pb vl vd R := by
    unfold kv
    rw [s2, s4, rst_same s1, rst_same s1, rst_same s1]
  refine ⟨a, c, by rw [e1], ⟨(h.frm.trans kW).trans2 f1 fun x hx e => by have := (hh.lf x e).1; omega, ⟨pb, F', vl, vd, by rw [ek]; exact hk, p1, ?_, ?_, ?_, hh.lb.1, ?_, fun x hx => (hh.ld x hx).1, ?_⟩, ar, hrow⟩⟩
  · intro e
    rcases F1 rb e with q | q
    · exact hh.fr q
    · omega
  · intro x hx e
    rcases F1 x hx with q | q
    · exact hh.fd x q e
    · have := (hh.rd.row.lt x e).2; omega
  · intro x hx e
    rcases F1 x hx with q | q
    · exact hh.fl x q e
    · have := (hh.rd.lims.lt x e).2; omega
  · intro x hx
    rcases F1 x hx with q | q
    · exact hh.lf x q
    · exact ⟨by omega, by omega⟩
  · intro x hx e
    have := (hv x hx).1
    have := (hh.rd.row.lt x e).2
    omega

/-- the room, as the run tells it -/
theorem KGLag.room {pa : Rep} {w wr : World} {rb ab : Nat} {R : RSt} {ds xs : List Ds} {t : Int} {A : Nat → Int} {vo : Value} (h : KGLag pa w wr rb ab R ds t A vo xs) (ok : KOk R) (hp : ds <+: R.doses) (t0 : 0 ≤ t) (t1 : t ≤ 400) (k : Nat) (hk : k ≤ 3) (W : World) (kW : Keep wr W) :
    Calls Try.prog 14 #[.pointer (some ⟨rb, 0, none⟩), I k, I 0] W fun e w2 => e = .returned (I (rroom ds R.lims k t)) ∧ Keep wr w2 := by
  obtain ⟨pb, F, vl, vd, h1, -⟩ := h.at_
  have o : KV.Ok { kv pb vl vd R with ds := ds, now := t } := ⟨ok.ok.lims, ok.ok.nl, fun d hd => ok.ok.doses d (hp.subset hd), Nat.le_trans hp.length_le ok.ok.nd, t0, t1⟩
  refine (kroom_any rb _ k 0 W (h1.keep kW) o hk (by omega) (by omega)).mono ?_
  rintro e w2 ⟨rfl, k2⟩
  refine ⟨?_, kW.trans k2⟩
  show Ending.returned (I (rroom ds R.lims k (t + 0))) = _
  rw [Int.add_zero]

/-- a dose is written down -/
theorem KGLag.more {pa : Rep} {w wr wz w5 : World} {rb ab pb : Nat} {F : Nat → Prop} {R : RSt} {ds xs : List Ds} {t : Int} {A : Nat → Int} {vo vl vd v5 : Value} {d : Ds} (frmP : ∀ {S : Nat → Prop} {w w' : World} {F : Nat → Prop} {b : Nat} {R : RSt}, pa w F b R → Frm S w w' → (∀ x, F x → ¬ S x) → pa w' F b R) (ltP : ∀ {w : World} {F : Nat → Prop} {b : Nat} {R : RSt}, pa w F b R → ∀ x, F x → x < w.heap.size)
    (frm : Keep w wr) (at_ : KRd wr rb { kv pb vl vd R with ds := ds, now := t } ∧ pa wr F pb R ∧ ¬ F rb ∧ (∀ x, F x → vd.ownBlock ≠ some x) ∧ (∀ x, F x → vl.ownBlock ≠ some x) ∧ w.heap.size ≤ rb ∧ (∀ x, F x → w.heap.size ≤ x ∧ x ≠ ab) ∧ (∀ x, vd.ownBlock = some x → w.heap.size ≤ x) ∧ ∀ x, vo.ownBlock = some x → vd.ownBlock ≠ some x)
    (arr : Blk wr ab #[I (A 0), I (A 1), I (A 2)] 47) (row : wr.ownsRow 0 52 3 vo xs.length (xs.flatMap dsC)) (kz : Keep wr wz)
    (hown : w5.ownsRow 0 52 3 v5 (ds.length + 1) (ds.flatMap dsC ++ dsC d)) (hg : wz.grownBy w5 vd.ownBlock) (hnew : v5.ownBlock = vd.ownBlock ∨ (v5.ownBlock = some wz.heap.size ∧ wz.grownBy w5 none)) :
    KGLag pa w (w5.setCell ⟨rb, 4, none⟩ v5) rb ab R (ds ++ [d]) t A vo xs := by
  obtain ⟨h1, h2, h3, h4, h5, h6, h7, h8, h9⟩ := at_
  have f5 := grown_frm hg
  have hz := h1.keep kz
  have sz := kz.size
  have s0 := frm.size
  have la := arr.lt
  have lr := h1.head.lt
  have b5 : Blk w5 rb ({ kv pb vl vd R with ds := ds, now := t } : KV).cells 39 := hz.head.frm f5 fun e => hz.sd e
  have f6 : Frm (fun x => x = rb) w5 (w5.setCell ⟨rb, 4, none⟩ v5) := (Frm.refl (fun x => x = rb) w5).setCell (p := ⟨rb, 4, none⟩) rfl v5
  have vn : ∀ x, v5.ownBlock = some x → vd.ownBlock = some x ∨ x = wz.heap.size := by
    intro x hx
    rcases hnew with e | ⟨e, -⟩
    · exact Or.inl (by rw [← e]; exact hx)
    · rw [e] at hx; injection hx with hx; exact Or.inr hx.symm
  have vr : v5.ownBlock ≠ some rb := by
    intro e
    rcases vn rb e with q | q
    · exact h1.sd q
    · omega
  have rab : rb ≠ ab := by
    intro e
    subst e
    have q1 := h1.head
    unfold Blk at q1 arr
    rw [q1] at arr
    injection arr with arr
    injection arr with q2 q3
    revert q3; decide
  have pl := ltP h2
  refine ⟨?_, ⟨pb, F, vl, v5, ⟨?_, ?_, ?_⟩, ?_, h3, ?_, h5, h6, h7, ?_, ?_⟩, ?_, ?_⟩
  · exact ((frm.trans kz).trans2 f5 fun x hx e => by have := h8 x e; omega).trans2 f6 fun x hx e => by omega
  · have := b5.set 4 v5
    simpa [kv, KV.cells] using this
  · show World.ownsRow _ 0 63 3 vl R.lims.length (R.lims.flatMap limC)
    refine row_frm (row_frm hz.lims f5 fun x hx e => hz.dl x e hx) f6 fun x hx e => ?_
    subst e; exact h1.sl hx
  · show World.ownsRow _ 0 52 3 v5 (ds ++ [d]).length ((ds ++ [d]).flatMap dsC)
    have q1 : (ds ++ [d]).length = ds.length + 1 := by simp
    have q2 : (ds ++ [d]).flatMap dsC = ds.flatMap dsC ++ dsC d := by simp
    rw [q1, q2]
    exact row_frm hown f6 fun x hx e => vr (by rw [← e]; exact hx)
  · exact frmP (frmP (frmP h2 kz fun _ _ e => e) f5 fun x hx e => h4 x hx e) f6 fun x hx e => h3 (by rw [← e]; exact hx)
  · intro x hx e
    rcases vn x e with q | q
    · exact h4 x hx q
    · have := pl x hx; omega
  · intro x hx
    rcases vn x hx with q | q
    · exact h8 x q
    · omega
  · intro x hx e
    rcases vn x e with q | q
    · exact h9 x hx q
    · have := (row.lt x hx).2; omega
  · exact ((kz.blk arr).frm f5 fun e => row_ne h1.row arr (by decide) e).frm f6 fun e => rab e.symm
  · refine row_frm (row_frm (row_frm row kz fun _ _ e => e) f5 fun x hx e => h9 x hx e) f6 fun x hx e => ?_
    subst e
    exact row_ne row h1.head (by decide) hx

/-- the run has caught up -/
theorem KGLag.tick {pa : Rep} {w wr : World} {rb ab : Nat} {R : RSt} {ds xs : List Ds} {t : Int} {A : Nat → Int} {vo : Value} (h : KGLag pa w wr rb ab R ds t A vo xs) (frmP : ∀ {S : Nat → Prop} {w w' : World} {F : Nat → Prop} {b : Nat} {R : RSt}, pa w F b R → Frm S w w' → (∀ x, F x → ¬ S x) → pa w' F b R) (ok : KOk R) (hd : ds = R.doses) (ht : t + 1 = R.now) : KGSt pa w (wr.setCell ⟨rb, 5, none⟩ (I (t + 1))) rb ab R A := by
  obtain ⟨pb, F, vl, vd, h1, h2, h3, h4, h5, h6, h7, h8, h9⟩ := h.at_
  have arr := h.arr
  have rab : rb ≠ ab := by
    intro e
    subst e
    have q1 := h1.head
    unfold Blk at q1 arr
    rw [q1] at arr
    injection arr with arr
    injection arr with q2 q3
    revert q3; decide
  have f6 : Frm (fun x => x = rb) wr (wr.setCell ⟨rb, 5, none⟩ (I (t + 1))) := (Frm.refl (fun x => x = rb) wr).setCell (p := ⟨rb, 5, none⟩) rfl _
  refine ⟨h.frm.trans2 f6 fun x hx e => by omega, ⟨pb, F, vl, vd, ⟨?_, ?_, ?_⟩, frmP h2 f6 fun x hx e => h3 (by rw [← e]; exact hx), h3, h4, h5, ⟨h6, rab⟩, h7, fun x hx => ⟨h8 x hx, fun e => row_ne h1.row arr (by decide) (by rw [← e]; exact hx)⟩⟩, ok, h.arr.frm f6 fun e => rab e.symm⟩
  · have := h1.head.set 5 (I (t + 1))
    simpa [kv, KV.cells, ht] using this
  · exact row_frm h1.lims f6 fun x hx e => by subst e; exact h1.sl hx
  · have := row_frm h1.row f6 fun x hx e => by subst e; exact h1.sd hx
    subst hd
    exact this

end Go.Proofs.Ytpilmkipbbengaa
