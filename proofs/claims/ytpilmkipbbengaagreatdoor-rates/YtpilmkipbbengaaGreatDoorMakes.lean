/- driplaw: makes. -/
import Derived.Test.YtpilmkipbbengaaGreatDoorRuns
namespace Go.Proofs.YtpilmkipbbengaaGreatDoor
open Go.RowKit

theorem rnew_ok {c : Int} {lims : List Lim} {lock : Int} (h : fineB c lims lock = true) : (rnew c.toNat lims lock).Ok ∧ (rnew c.toNat lims lock).Full := by
  simp only [fineB, Bool.and_eq_true, Bool.not_eq_true', List.all_eq_true] at h
  obtain ⟨h1, h2⟩ := h
  simp [badHead] at h1
  refine ⟨⟨?_, by simp [rnew]; omega, by simp [rnew], by simp [rnew], by simp [rnew], by simp [rnew], by simp [rnew]; omega, by simp [rnew]; omega, ?_, by simp [rnew], by simp [rnew]⟩, by simp [RSt.Full, rnew, nov]⟩
  · intro l hl
    have := h2 l hl
    simp [badLim] at this
    have hc : c = 1 ∨ c = 2 ∨ c = 3 ∨ c = 4 := by omega
    have h16 : (2 : Int) ^ c.toNat ≤ 16 := by rcases hc with rfl | rfl | rfl | rfl <;> decide
    exact ⟨by omega, by omega, by omega, by omega, by omega, by omega⟩
  · intro x hx
    simp [rnew] at hx
    rw [hx.2]; simp [ch0]

theorem WSt.wholed {pa : Rep} {fN fB fR fO fW : FuncId} {B : Nat} {w w' : World} {wb : Nat} {vp vd vl vm : Value} {ds : List Value} {ms : List Int} {ls : List Value} {ps : List PR} (P : Pumpy fN fB fR fO fW pa) (h : WSt pa B w wb vp vd vl vm ds ms ls ps) {g k cap : Nat}
    (o : WholeEnd w wb vp vd vl vm ds ms ls g k cap w') (h1 : B ≤ g) (h2 : ∀ (i : Nat) (p : PR), ps[i]? = some p → ¬ p.F g) (h3 : vp.ownBlock ≠ some g) :
    ∃ vl' ls', WSt pa B w' wb vp vd vl' vm ds ms ls' ps ∧ ls'.length = ls.length + 1 ∧ Frm (fun x => x = wb ∨ vl.ownBlock = some x ∨ x = g) w w' ∧ (∀ x, LF wb vp vd vl' vm ds ls' x → LF wb vp vd vl vm ds ls x ∨ x = g ∨ w.heap.size ≤ x) := by
  obtain ⟨vl', hL, hS, hf, hF⟩ := o
  have hn : ∀ (i : Nat) (p : PR), ps[i]? = some p → ∀ x, p.F x → ¬ (x = wb ∨ vl.ownBlock = some x ∨ x = g) := by
    rintro i p hp x hx (e | e | e)
    · exact h.off i p hp x hx (Or.inl e)
    · exact h.off i p hp x hx (Or.inr (Or.inr (Or.inr (Or.inl e))))
    · exact h2 i p hp (e ▸ hx)
  refine ⟨vl', _, ⟨hL, hS, ?_, fun i p hp => P.frm (h.rx i p hp) hf (fun x hx => hn i p hp x (Or.inl hx)), fun i p hp => ref_pumpy.frm (h.ry i p hp) hf (fun x hx => hn i p hp x (Or.inr hx)), h.ok, ?_, h.xy, h.sep, ?_, h.bp, Nat.le_trans h.bB hf.size⟩, by simp, hf, hF⟩
  · refine row_frm h.pr hf ?_
    rintro x hg (e | e | e)
    · exact h.S.bp (by rw [hg, e])
    · exact h.S.pl x hg e
    · exact h3 (by rw [hg, e])
  · intro i p hp x hx hL'
    rcases hF x hL' with e | e | e
    · exact h.off i p hp x hx e
    · exact h2 i p hp (e ▸ hx)
    · have := WSt.ltF P h hp x hx; omega
  · intro x hx
    rcases hF x hx with e | e | e
    · exact h.bl x e
    · omega
    · exact Nat.le_trans h.bB e

/-- the World has a pair more -/
theorem WSt.added {pa : Rep} {fN fB fR fO fW : FuncId} {B : Nat} {w W w' : World} {wb : Nat} {vp vd vl vm vp' : Value} {ds : List Value} {ms : List Int} {ls : List Value} {ps : List PR} (P : Pumpy fN fB fR fO fW pa) (h : WSt pa B w wb vp vd vl vm ds ms ls ps) (k : Keep w W) (hg : W.grownBy w' vp.ownBlock)
    (hn : vp'.ownBlock = vp.ownBlock ∨ (vp'.ownBlock = some W.heap.size ∧ W.grownBy w' none)) (q : PR) (hr : w'.ownsRow 0 92 2 vp' (ps.length + 1) (ps.flatMap pairC ++ pairC q)) (qx : pa w q.fx q.x q.rx) (qy : ra w q.fy q.y q.ry) (qo : q.rx.Ok ∧ q.rx.Full ∧ q.ry.Ok ∧ q.ry.Full)
    (q1 : ∀ x, q.F x → ¬ LF wb vp vd vl vm ds ls x) (q2 : ∀ x, q.fx x → ¬ q.fy x) (q3 : ∀ (i : Nat) (p : PR), ps[i]? = some p → ∀ x, p.F x → ¬ q.F x) (q4 : ∀ x, q.F x → B ≤ x) :
    WSt pa B (w'.setCell ⟨wb, 0, none⟩ vp') wb vp' vd vl vm ds ms ls (ps ++ [q]) ∧ Frm (fun x => B ≤ x) w (w'.setCell ⟨wb, 0, none⟩ vp') := by
  have lwb := h.L.head.lt
  have hltL := h.ltL
  have hks := k.size
  have bp' : vp'.ownBlock ≠ some wb := fresh_ne k hn lwb h.S.bp
  have offv : ∀ v, (∀ x, v.ownBlock = some x → x < w.heap.size) → Off wb vp vd vl vm v → Off wb vp' vd vl vm v := fun v hv o => ⟨o.b, (fresh_dis k hn hv o.p.symm).symm, o.d, o.l, o.m⟩
  have ro : ∀ {T s v n xs}, w.ownsRow 0 T s v n xs → Dis v vp → v.ownBlock ≠ some wb → (w'.setCell ⟨wb, 0, none⟩ vp').ownsRow 0 T s v n xs := fun hr hd hb => grow_off k hg hr hd hb vp'
  have mlt : ∀ {T v m}, Marked w T v m → ∀ x, v.ownBlock = some x → x < w.heap.size := fun ⟨_, _, hr⟩ x hx => (hr.lt x hx).2
  have mk : ∀ {T v m}, Marked w T v m → Off wb vp vd vl vm v → Marked (w'.setCell ⟨wb, 0, none⟩ vp') T v m := fun ⟨n, hn, hr⟩ o => ⟨n, hn, ro hr o.p o.b⟩
  have f : Frm (fun x => x = wb ∨ vp.ownBlock = some x) w (w'.setCell ⟨wb, 0, none⟩ vp') := ((k.mono (T := fun x => x = wb ∨ vp.ownBlock = some x) (fun _ _ e => e.elim)).trans2 (grown_frm hg) (fun x _ e => Or.inr e)).setCell (p := ⟨wb, 0, none⟩) (Or.inl rfl) _
  have hnF : ∀ (i : Nat) (p : PR), ps[i]? = some p → ∀ x, p.F x → ¬ (x = wb ∨ vp.ownBlock = some x) := by
    rintro i p hp x hx (e | e)
    · exact h.off i p hp x hx (Or.inl e)
    · exact h.off i p hp x hx (Or.inr (Or.inl e))
  have hnq : ∀ x, q.F x → ¬ (x = wb ∨ vp.ownBlock = some x) := by
    rintro x hx (e | e)
    · exact q1 x hx (Or.inl e)
    · exact q1 x hx (Or.inr (Or.inl e))
  have dlt : ∀ v ∈ ds, ∀ x, v.ownBlock = some x → x < w.heap.size := fun v hv x hx => hltL x (Or.inr (Or.inr (Or.inr (Or.inr (Or.inr (Or.inl ⟨v, hv, hx⟩))))))
  have get : ∀ (j : Nat) (p : PR), (ps ++ [q])[j]? = some p → ps[j]? = some p ∨ (p = q ∧ j = ps.length) := by
    intro j p hp
    by_cases hj : j < ps.length
    · rw [List.getElem?_append_left hj] at hp; exact Or.inl hp
    · rw [List.getElem?_append_right (by omega)] at hp
      have : j - ps.length = 0 := by
        by_cases hz : j - ps.length = 0
        · exact hz
        · rw [List.getElem?_eq_none (by simp; omega)] at hp; cases hp
      rw [this] at hp; simp at hp
      exact Or.inr ⟨hp.symm, by omega⟩
  have hLF : ∀ x, LF wb vp' vd vl vm ds ls x → LF wb vp vd vl vm ds ls x ∨ w.heap.size ≤ x := by
    rintro x (e | e | e)
    · exact Or.inl (Or.inl e)
    · rcases hn with e' | ⟨e', -⟩
      · exact Or.inl (Or.inr (Or.inl (by rw [← e', e])))
      · rw [e'] at e; injection e with e; exact Or.inr (by omega)
    · exact Or.inl (Or.inr (Or.inr e))
  have qlt : ∀ x, q.F x → x < w.heap.size := by
    rintro x (e | e)
    · exact P.lt qx x e
    · exact ref_pumpy.lt qy x e
  refine ⟨⟨⟨?_, ro h.L.doses h.S.pd.symm h.S.bd, ro h.L.marks h.S.pm.symm h.S.bm, ro h.L.lent h.S.pl.symm h.S.bl, h.L.len, fun i v m h1 h2 => mk (h.L.dm i v m h1 h2) (h.S.ds v (List.mem_of_getElem? h1)), fun v hv => mk (h.L.lm v hv) (h.S.ls v hv)⟩,
    ⟨bp', h.S.bd, h.S.bl, h.S.bm, fresh_dis k hn (fun x hx => (h.L.doses.lt x hx).2) h.S.pd, fresh_dis k hn (fun x hx => (h.L.lent.lt x hx).2) h.S.pl, fresh_dis k hn (fun x hx => (h.L.marks.lt x hx).2) h.S.pm, h.S.dl, h.S.dm, h.S.lm, fun v hv => offv v (dlt v hv) (h.S.ds v hv), fun v hv => offv v (mlt (h.L.lm v hv)) (h.S.ls v hv)⟩, ?_, ?_, ?_, ?_, ?_, ?_, ?_, ?_, ?_, Nat.le_trans h.bB f.size⟩, f.mono ?_⟩
  · have b4 := ((k.blk h.L.head).frm (grown_frm hg) h.S.bp).set 0 vp'
    simpa using b4
  · have := row_of_block hr (w' := w'.setCell ⟨wb, 0, none⟩ vp') fun g hg => Below.heap_setCell _ _ _ _ fun e => bp' (by rw [hg, e])
    simpa [List.flatMap_append] using this
  · intro j p hp
    rcases get j p hp with hp | ⟨rfl, -⟩
    · exact P.frm (h.rx j p hp) f (fun x hx => hnF j p hp x (Or.inl hx))
    · exact P.frm qx f (fun x hx => hnq x (Or.inl hx))
  · intro j p hp
    rcases get j p hp with hp | ⟨rfl, -⟩
    · exact ref_pumpy.frm (h.ry j p hp) f (fun x hx => hnF j p hp x (Or.inr hx))
    · exact ref_pumpy.frm qy f (fun x hx => hnq x (Or.inr hx))
  · intro j p hp
    rcases get j p hp with hp | ⟨rfl, -⟩
    · exact h.ok j p hp
    · exact qo
  · intro j p hp x hx hL
    rcases get j p hp with hp | ⟨rfl, -⟩
    · rcases hLF x hL with e | e
      · exact h.off j p hp x hx e
      · have := WSt.ltF P h hp x hx; omega
    · rcases hLF x hL with e | e
      · exact q1 x hx e
      · have := qlt x hx; omega
  · intro j p hp
    rcases get j p hp with hp | ⟨rfl, -⟩
    · exact h.xy j p hp
    · exact q2
  · intro i j p r hp hr' hij x hx hy
    rcases get i p hp with hp1 | ⟨e1, hi⟩
    · rcases get j r hr' with hr1 | ⟨e2, hj⟩
      · exact h.sep i j p r hp1 hr1 hij x hx hy
      · rw [e2] at hy; exact q3 i p hp1 x hx hy
    · rcases get j r hr' with hr1 | ⟨e2, hj⟩
      · rw [e1] at hx; exact q3 j r hr1 x hy hx
      · omega
  · intro x hx
    rcases hLF x hx with e | e
    · exact h.bl x e
    · exact Nat.le_trans h.bB e
  · intro j p hp x hx
    rcases get j p hp with hp | ⟨rfl, -⟩
    · exact h.bp j p hp x hx
    · exact q4 x hx
  · rintro x - (e | e)
    · exact h.bl x (Or.inl e)
    · exact h.bl x (Or.inr (Or.inl e))

theorem infoPair : (Tryz.prog.info? 92).map (fun i => (i.zero, i.size, i.bytes)) = some (some (.agg #[.pointer none, .pointer none]), 2, 16) := by kernel_rfl

/-- what lies in g can be read as it was handed in -/
theorem see_lent {w : World} {g cap n : Nat} {lims : List Lim} (h : w.ownsRow 0 60 3 (.slice (some ⟨g, 0, none⟩) n cap) n ((lent lims 8).flatMap limC)) : SeeL w (some ⟨g, 0, none⟩) lims := by
  by_cases e : lims = []
  · exact Or.inl e
  · refine Or.inr ⟨g, 0, rfl, (h.lt g rfl).2, fun i l hl => ?_⟩
    have hl' : (lent lims 8)[i]? = some l := by rw [lent, List.getElem?_append_left (List.getElem?_eq_some_iff.1 hl).1]; exact hl
    obtain ⟨g', cap', hv, -, hc, -⟩ := row_at h (fun _ => rfl) hl' (by decide)
    simp at hv
    obtain ⟨rfl, rfl⟩ := hv
    have d0 := hc 0 (by decide)
    have d1 := hc 1 (by decide)
    have d2 := hc 2 (by decide)
    simp [limC] at d0 d1 d2
    simp [d0, d1, d2]

set_option maxRecDepth 100000 in
set_option maxHeartbeats 1600000 in
theorem makes_any (pa : Rep) (P : Pumpy 25 32 46 14 78 pa) (B : Nat) (wb : Nat) (vp vd vl vm : Value) (ds : List Value) (ms : List Int) (ls : List Value) (ps : List PR) (c : Int) (a : Option Addr) (lims : List Lim) (cap : Nat) (lock : Int) (w : World)
    (h : WSt pa B w wb vp vd vl vm ds ms ls ps) (heq : ∀ (j : Nat) (q : PR), ps[j]? = some q → q.rx = q.ry) (hs : SeeL w a lims) (hnone : a = none → lims.length = 0 ∧ cap = 0) (hcap : lims.length ≤ cap) (hn : lims.length ≤ 5864062014634) (_hd : ds.length ≤ 5800000000000) (hl : ls.length ≤ 5800000000000) (hpl : ps.length ≤ 5800000000000) :
    Calls Tryz.prog 37 #[.pointer (some ⟨wb, 0, none⟩), cfgV c a lims.length cap lock] w fun r w' => r = .returned (.bool true) ∧ StepEnd pa B w wb ds.length ls.length ps.length ps w' := by
  obtain ⟨iP, hiP, hzP0, hzP1, hzP2⟩ := info_parts infoPair
  have clend := fun (W : World) (k : Keep w W) => lend_any c a lims cap lock W (hs.frm k (fun _ _ _ e => e)) hnone hn hcap
  have CL := hide clend
  have H := hide (And.intro h (And.intro heq (And.intro hs hnone)))
  clear clend h heq hs hnone
  go_enter Tryz.func37, Tryz.ntmps37
  go_wp2_with fail
  refine (CL.out _ (by exact (Frm.refl _ _).alloc _)).mono ?_
  rintro e w1 ⟨g, cg, rfl, hrow, hg, k1⟩
  have k01 : Keep w w1 := ((Frm.refl _ _).alloc _).trans k1
  have bx : Blk w1 w.heap.size #[I c, .slice a lims.length cap, I lock] 30 := k1.blk (Blk.new _ _ _)
  have b0 : w1.cell? ⟨w.heap.size, 0, none⟩ = some (I c) := by rw [bx.cell]; rfl
  have b1 : w1.cell? ⟨w.heap.size, 1, none⟩ = some (.slice a lims.length cap) := by rw [bx.cell]; rfl
  have b2 : w1.cell? ⟨w.heap.size, 2, none⟩ = some (I lock) := by rw [bx.cell]; rfl
  have lbx := bx.lt
  simp at hg
  have cnew := fun (W : World) (k : Keep w1 W) => P.new c (some ⟨g, 0, none⟩) lims cg lock W (see_lent (row_frm hrow k (fun _ _ e => e))) (by simp) hn
  have CN := hide cnew
  have ONE := hide (And.intro k01 (And.intro bx hrow))
  clear cnew k01 bx hrow k1
  go_wp2_with fail
  refine (CN.out _ (by exact (Frm.refl _ _).alloc _)).mono ?_
  rintro e w2 ⟨k2, hx⟩
  have k12 : Keep w1 w2 := ((Frm.refl _ _).alloc _).trans k2
  have bx2 := k12.blk (ONE.out).2.1
  have d0 : w2.cell? ⟨w.heap.size, 0, none⟩ = some (I c) := by rw [bx2.cell]; rfl
  have d1 : w2.cell? ⟨w.heap.size, 1, none⟩ = some (.slice a lims.length cap) := by rw [bx2.cell]; rfl
  have d2 : w2.cell? ⟨w.heap.size, 2, none⟩ = some (I lock) := by rw [bx2.cell]; rfl
  have k02 : Keep w w2 := (ONE.out).1.trans k12
  have cref := ref_pumpy.new c a lims cap lock w2 ((H.out).2.2.1.frm k02 (fun _ _ _ e => e)) (H.out).2.2.2 hn
  have CRF := hide cref
  have TWO := hide (And.intro k02 (And.intro k12 bx2))
  clear cref k02 k12 bx2 k2
  have cwh : ∀ (W : World) (k : Keep w W) (k1W : Keep w1 W), Calls Tryz.prog 71 #[.pointer (some ⟨wb, 0, none⟩), .slice (some ⟨g, 0, none⟩) (lims.length + 8) cg, .slice a lims.length cap] W fun r w' => r = .returned (.bool true) ∧ WholeEnd W wb vp vd vl vm ds ms ls g (lims.length + 8) cg w' := by
    intro W k k1W
    have hW := WSt.keep P (H.out).1 k
    refine whole_any wb vp vd vl vm ds ms ls g cg a cap lims W hW.L hW.S (row_frm (ONE.out).2.2 k1W (fun _ _ e => e)) (fun e => by have := (H.out).1.ltL g e; omega) ((H.out).2.2.1.frm k (fun _ _ _ e => e)) ?_ hn hl (fun x hx => (hW.pr.lt x hx).2)
    intro hne g' o e
    rcases (H.out).2.2.1 with e' | ⟨g2, o2, e2, hlt, -⟩
    · exact absurd e' hne
    · rw [e2] at e; injection e with e; injection e with e _ _; omega
  have CWH := hide cwh
  clear cwh
  rcases hx with ⟨hf, rfl⟩ | ⟨hf, bx, Fx, rfl, hpx, hFx⟩
  · go_wp2_with fail
    refine (CRF.out).mono ?_
    rintro e w3 ⟨k3, hy⟩
    rcases hy with ⟨-, rfl⟩ | ⟨hf2, -⟩
    · have f1 : w3.cell? ⟨w.heap.size, 1, none⟩ = some (.slice a lims.length cap) := k3.cell d1 (fun e => e)
      go_wp2_with fail
      refine (CWH.out w3 ((TWO.out).1.trans k3) ((TWO.out).2.1.trans k3)).mono ?_
      rintro e w4 ⟨rfl, hwh⟩
      go_wp2_with (go_at_call 72; refine (num_any _ _).mono ?_; rintro e w7 ⟨rfl, hw7⟩; subst hw7)
      go_ret
      have h3 := WSt.keep P (H.out).1 ((TWO.out).1.trans k3)
      obtain ⟨vl', ls', hw, hll, hfr, hLFn⟩ := WSt.wholed P h3 hwh (by have := (H.out).1.bB; omega) (fun i p hp e => by have := WSt.ltF P (H.out).1 hp g e; omega) (fun e => by have := ((H.out).1.pr.lt g e).2; omega)
      refine ⟨rfl, vp, vd, vl', vm, ds, ms, ls', ps, hw, by omega, by omega, by omega, (H.out).2.1, ?_⟩
      refine (((TWO.out).1.trans k3).mono (T := fun x => B ≤ x) (fun _ _ e => e.elim)).trans (hfr.mono ?_)
      rintro x - (e | e | e)
      · exact (H.out).1.bl x (Or.inl e)
      · exact (H.out).1.bl x (Or.inr (Or.inr (Or.inr (Or.inl e))))
      · have := (H.out).1.bB; omega
    · rw [hf] at hf2; cases hf2
  · go_wp2_with fail
    refine (CRF.out).mono ?_
    rintro e w3 ⟨k3, hy⟩
    rcases hy with ⟨hf2, -⟩ | ⟨-, bY, Fy, rfl, hpy, hFy⟩
    · rw [hf] at hf2; cases hf2
    · have f1 : w3.cell? ⟨w.heap.size, 1, none⟩ = some (.slice a lims.length cap) := k3.cell d1 (fun e => e)
      go_upto_region 5 with (go_at_call 71; refine (CWH.out w3 ((TWO.out).1.trans k3) ((TWO.out).2.1.trans k3)).mono ?_; rintro e w4 ⟨rfl, hwh⟩)
      have h3 := WSt.keep P (H.out).1 ((TWO.out).1.trans k3)
      obtain ⟨vl', ls', hw, hll, hfr, hLFn⟩ := WSt.wholed P h3 hwh (by have := (H.out).1.bB; omega) (fun i p hp e => by have := WSt.ltF P (H.out).1 hp g e; omega) (fun e => by have := ((H.out).1.pr.lt g e).2; omega)
      have hrowlt := ((ONE.out).2.2.lt g rfl).2
      have s12 := (TWO.out).2.1.size
      simp at hFx
      have nF : ∀ x, w1.heap.size ≤ x → ¬ (x = wb ∨ vl.ownBlock = some x ∨ x = g) := by
        rintro x hx (e | e | e)
        · have := (H.out).1.ltL x (Or.inl e); omega
        · have := (H.out).1.ltL x (Or.inr (Or.inr (Or.inr (Or.inl e)))); omega
        · omega
      have qx : pa w4 Fx bx (rnew c.toNat lims lock) := P.frm (P.frm hpx k3 (fun _ _ e => e)) hfr (fun x hx => nF x (by have := hFx x hx; omega))
      have qy : ra w4 Fy bY (rnew c.toNat lims lock) := ref_pumpy.frm hpy hfr (fun x hx => nF x (by have := hFy x hx; have := hrowlt; omega))
      have hoffq : ∀ x, (Fx x ∨ Fy x) → ¬ LF wb vp vd vl' vm ds ls' x := by
        intro x hx hL
        have s3 := k3.size
        have h1 : w1.heap.size ≤ x ∧ x < w3.heap.size := by
          rcases hx with e | e
          · have := hFx x e; have := P.lt hpx x e; omega
          · have := hFy x e; have := ref_pumpy.lt hpy x e; omega
        rcases hLFn x hL with e | e | e
        · have := (H.out).1.ltL x e; omega
        · omega
        · omega
      have qsep : ∀ x, Fx x → ¬ Fy x := fun x hx hy => by
        have h1 := P.lt hpx x hx; have h2 := hFy x hy; omega
      have h4 : (w4.cell? ⟨wb, 0, none⟩ = some vp) := by rw [hw.L.head.cell]; rfl
      obtain ⟨ap, cp, hvp⟩ := row_slice hw.pr
      rw [hvp] at h4
      have fz := hw.L.head.frozen 0
      have lw4 := hw.L.head.lt
      have hF4 : Frm (fun x => B ≤ x) w w4 := by
        refine (((TWO.out).1.trans k3).mono (T := fun x => B ≤ x) (fun _ _ e => e.elim)).trans (hfr.mono ?_)
        rintro x - (e | e | e)
        · exact (H.out).1.bl x (Or.inl e)
        · exact (H.out).1.bl x (Or.inr (Or.inr (Or.inr (Or.inl e))))
        · have := (H.out).1.bB; omega
      have hqn : ∀ x, (Fx x ∨ Fy x) → w1.heap.size ≤ x := fun x hx => by
        rcases hx with e | e
        · have := hFx x e; omega
        · have := hFy x e; omega
      have FIN := hide (And.intro hw (And.intro qx (And.intro qy (And.intro qsep (And.intro hF4 (And.intro hqn (And.intro hll hoffq)))))))
      have HVP := hide hvp
      have hg1 : w.heap.size < w1.heap.size := lbx
      clear qx qy qsep hF4 hqn hoffq hLFn hw hfr h3 hwh hpx hpy hFx hFy nF hvp hll hrowlt s12 k3 b0 b1 b2 d0 d1 d2
      go_wp2_with (first | (go_at_call 72; refine (num_any _ _).mono ?_; rintro e w7 ⟨rfl, hw7⟩; have hw8 := hw7.symm; subst hw8) | (at_builtin; refine wpList_append_row _ rfl (.tmp 54) (.tmp 58) 52 rfl 92 iP (.agg #[.pointer none, .pointer none]) 2 16 Tryz.underlying52 hiP hzP0 hzP1 hzP2 rfl (by decide) (.slice ap ps.length cp) ps.length (ps.flatMap pairC) rfl (by rw [← HVP.out]; exact row_frm (FIN.out).1.pr (show Keep _ _ from (Frm.refl _ _).alloc _) (fun _ _ e => e)) ⟨w4.heap.size, 0, none⟩ 1 1 [.pointer (some ⟨bx, 0, none⟩), .pointer (some ⟨bY, 0, none⟩)] rfl rfl (cell_news _ [.pointer (some ⟨bx, 0, none⟩), .pointer (some ⟨bY, 0, none⟩)] _ _ (by simp)) (by intro u hu; simp at hu; rcases hu with rfl | rfl <;> rfl) (by unfold maxLen; omega) (by omega) ?_; intro v5 w5 hr5 hg5 hn5; rw [← HVP.out] at hg5 hn5; obtain ⟨a5, p5, hv5⟩ := row_slice hr5; subst hv5; have bb5 := ((show Keep _ _ from (Frm.refl _ _).alloc _).blk (FIN.out).1.L.head).frm (grown_frm hg5) (FIN.out).1.S.bp; have c50 : w5.cell? ⟨wb, 0, none⟩ = some (.slice ap ps.length cp) := (by { rw [bb5.cell, ← HVP.out]; rfl }); have f50 := bb5.frozen 0; have FIVE := hide (And.intro hr5 (And.intro hg5 hn5)); clear hr5 hg5 hn5 bb5))
      go_ret
      obtain ⟨hw, qx, qy, qsep, hF4, hqn, hll, hoffq⟩ := FIN.out
      obtain ⟨hr5, hg5, hn5⟩ := FIVE.out
      have hbB := (H.out).1.bB
      have rok := rnew_ok hf
      obtain ⟨hw5, hF5⟩ := WSt.added P hw (show Keep _ _ from (Frm.refl _ _).alloc _) hg5 hn5 ⟨bx, bY, Fx, Fy, rnew c.toNat lims lock, rnew c.toNat lims lock⟩ hr5 qx qy ⟨rok.1, rok.2, rok.1, rok.2⟩
        hoffq qsep (fun i p hp x hx hq => by have := WSt.ltF P (H.out).1 hp x hx; have := hqn x hq; omega) (fun x hx => by have := hqn x hx; omega)
      refine ⟨rfl, _, _, _, _, _, _, _, _, hw5, by omega, by omega, by simp, ?_, hF4.trans hF5⟩
      intro j q hq
      by_cases hj : j < ps.length
      · rw [List.getElem?_append_left hj] at hq; exact (H.out).2.1 j q hq
      · rw [List.getElem?_append_right (by omega)] at hq
        have := List.mem_of_getElem? hq
        simp at this; subst this; rfl

end Go.Proofs.YtpilmkipbbengaaGreatDoor
