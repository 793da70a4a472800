/- Locked. -/
import Derived.Test.YtpilmkipbbengaaKLpure
import Derived.Test.YtpilmkipbbengaaK10
import Derived.Test.YtpilmkipbbengaaK12
import Derived.Test.YtpilmkipbbengaaK8
namespace Go.Proofs.Ytpilmkipbbengaa
open Go.RowKit

theorem KAt.sub {pa : Rep} {B B' : Nat → Prop} {w : World} {rb pb : Nat} {F : Nat → Prop} {R : RSt} {vl vd : Value} (h : KAt pa B w rb pb F R vl vd) (lt : ∀ x, F x → x < w.heap.size) (hs : ∀ x, B x → x < w.heap.size → B' x) : KAt pa B' w rb pb F R vl vd :=
  ⟨h.rd, h.pump, h.fr, h.fd, h.fl, hs rb h.lb h.rd.head.lt, fun x hx => hs x (h.lf x hx) (lt x hx), fun x hx => hs x (h.ld x hx) (h.rd.row.lt x hx).2⟩

def askA (c : RCh) : Int := if c.asked < 0 then -1000 else c.asked

structure LSt (pa : Rep) (w wr : World) (rb cb ab : Nat) (v : Value) (lk : Int) (R : RSt) (A : Nat → Int) : Prop where
  frm : Keep w wr
  at_ : ∃ pb F vl vd, KAt pa (fun x => w.heap.size ≤ x ∧ x ≠ cb ∧ x ≠ ab) wr rb pb F R vl vd
  ok : KOk R
  lock : R.lock = lk
  cfg : Blk wr cb #[I 3, v, I lk] 29
  arr : Blk wr ab #[I (A 0), I (A 1), I (A 2)] 47

/-- what was written down is what the pump knows -/
structure LRel (lk : Int) (R : RSt) (A : Nat → Int) : Prop where
  rel : ∀ k c, R.chs[k]? = some c → A k = askA c
  inv : 1 ≤ lk → LInv R

theorem LSt.hB {pa : Rep} {w wr : World} {rb cb ab : Nat} {v : Value} {lk : Int} {R : RSt} {A : Nat → Int} (h : LSt pa w wr rb cb ab v lk R A) : ∀ x, wr.heap.size ≤ x → w.heap.size ≤ x ∧ x ≠ cb ∧ x ≠ ab := by
  intro x hx
  have := h.frm.size
  have := h.cfg.lt
  have := h.arr.lt
  exact ⟨by omega, by omega, by omega⟩

theorem LSt.go {pa : Rep} {w wr w2 : World} {rb cb ab : Nat} {v : Value} {lk : Int} {R R' : RSt} {A : Nat → Int} (h : LSt pa w wr rb cb ab v lk R A) (g : KGo pa (fun x => w.heap.size ≤ x ∧ x ≠ cb ∧ x ≠ ab) wr w2 rb R') (ok : KOk R') (hl : R'.lock = R.lock) :
    LSt pa w w2 rb cb ab v lk R' A :=
  ⟨h.frm.trans2 g.1 fun x hx e => by omega, g.2, ok, hl.trans h.lock, h.cfg.frm g.1 fun e => e.2.1 rfl, h.arr.frm g.1 fun e => e.2.2 rfl⟩

theorem LSt.keep {pa : Rep} {w wr w2 : World} {rb cb ab : Nat} {v : Value} {lk : Int} {R : RSt} {A : Nat → Int} (h : LSt pa w wr rb cb ab v lk R A) (frmP : ∀ {S : Nat → Prop} {w w' : World} {F : Nat → Prop} {b : Nat} {R : RSt}, pa w F b R → Frm S w w' → (∀ x, F x → ¬ S x) → pa w' F b R) (k : Keep wr w2) : LSt pa w w2 rb cb ab v lk R A := by
  obtain ⟨pb, F, vl, vd, ha⟩ := h.at_
  exact ⟨h.frm.trans k, ⟨pb, F, vl, vd, ha.keep frmP k⟩, h.ok, h.lock, k.blk h.cfg, k.blk h.arr⟩

theorem arr_cell {w : World} {ab : Nat} {A : Nat → Int} (h : Blk w ab #[I (A 0), I (A 1), I (A 2)] 47) {k : Nat} (hk : k < 3) : w.cell? ⟨ab, k, none⟩ = some (I (A k)) := by
  rw [h.cell]
  have : k = 0 ∨ k = 1 ∨ k = 2 := by omega
  rcases this with rfl | rfl | rfl <;> rfl

/-- the tick of a demand is written down -/
theorem LSt.asked {pa : Rep} {w wr : World} {rb cb ab : Nat} {v : Value} {lk : Int} {R : RSt} {A : Nat → Int} {k : Nat} {n : Int} (h : LSt pa w wr rb cb ab v lk R A) (frmP : ∀ {S : Nat → Prop} {w w' : World} {F : Nat → Prop} {b : Nat} {R : RSt}, pa w F b R → Frm S w w' → (∀ x, F x → ¬ S x) → pa w' F b R)
    (hk : k < 3) (hab : w.heap.size ≤ ab) (hcb : cb ≠ ab) : LSt pa w (wr.setCell ⟨ab, k, none⟩ (I n)) rb cb ab v lk R (fun j => if j = k then n else A j) := by
  obtain ⟨pb, F, vl, vd, hh⟩ := h.at_
  have f : Frm (fun x => x = ab) wr (wr.setCell ⟨ab, k, none⟩ (I n)) := (Frm.refl (fun x => x = ab) wr).setCell (p := ⟨ab, k, none⟩) rfl _
  refine ⟨h.frm.setNew (p := ⟨ab, k, none⟩) hab _, ⟨pb, F, vl, vd, hh.rd.frm f (fun e => hh.lb.2.2 e) (fun x hx e => (hh.ld x hx).2.2 e) (fun x hx e => ?_), frmP hh.pump f (fun x hx e => (hh.lf x hx).2.2 e), hh.fr, hh.fd, hh.fl, hh.lb, hh.lf, hh.ld⟩, h.ok, h.lock, h.cfg.frm f hcb, ?_⟩
  · subst e
    exact row_ne hh.rd.lims h.arr (by decide) hx
  · have hs := h.arr.set k (I n)
    have e : (#[I (A 0), I (A 1), I (A 2)] : Array Value).setIfInBounds k (I n) = #[I (if 0 = k then n else A 0), I (if 1 = k then n else A 1), I (if 2 = k then n else A 2)] := by
      have : k = 0 ∨ k = 1 ∨ k = 2 := by omega
      rcases this with rfl | rfl | rfl <;> simp
    rw [e] at hs
    exact hs

/-- what a demand answers, against what was written down -/
theorem LSt.demand {pa : Rep} {fNew fBasal fRun fRoom fWait fRest : FuncId} (P : Pumpy fNew fBasal fRun fRoom fWait pa) (O : Orderly 20 22 fRest 25 43 pa) {w wr : World} {rb cb ab : Nat} {v : Value} {lk : Int} {R : RSt} {A : Nat → Int} (h : LSt pa w wr rb cb ab v lk R A) (hr : LRel lk R A) (l0 : 0 ≤ lk) (l1 : lk ≤ 400) {k : Nat} (hk : k < 3) {a : Int} (a0 : 1 ≤ a) (a1 : a ≤ 1000) :
    ∃ pb : Nat, wr.cell? ⟨rb, 0, none⟩ = some (.pointer (some ⟨pb, 0, none⟩)) ∧ ∀ W : World, Keep wr W → Calls Try.prog 22 #[.pointer (some ⟨pb, 0, none⟩), I k, I a] W fun e w2 => ∃ (N E : Int) (R' : RSt), e = .returned (.tuple #[I N, I E]) ∧ w2.cell? ⟨rb, 0, none⟩ = some (.pointer (some ⟨pb, 0, none⟩)) ∧ w2.cell? ⟨rb, 5, none⟩ = some (I R.now) ∧ w2.cell? ⟨cb, 2, none⟩ = some (I lk) ∧ w2.cell? ⟨ab, k, none⟩ = some (I (A k)) ∧ w2.frozen? ⟨ab, k, none⟩ = false ∧ (∀ x c T, wr.heap.size ≤ x → Blk W x c T → Blk w2 x c T) ∧ Hid (LSt pa w w2 rb cb ab v lk R' A) ∧
      ((decide (R.now - A k < lk) = true ∧ E = 4 ∧ N = 0 ∧ Hid (LRel lk R' A)) ∨ (decide (R.now - A k < lk) = false ∧ E = 2 ∧ N = 0 ∧ lk = 0 ∧ Hid (LRel lk R' A)) ∨
       (decide (R.now - A k < lk) = false ∧ E = 0 ∧ Hid (LRel lk R' fun j => if j = k then R.now else A j))) := by
  obtain ⟨pb, F, vl, vd, hh⟩ := h.at_
  refine ⟨pb, by rw [hh.rd.head.cell]; rfl, fun W kW => ?_⟩
  obtain ⟨c, hc⟩ : ∃ c, R.chs[k]? = some c := ⟨_, List.getElem?_eq_getElem (by rw [h.ok.nch]; exact hk)⟩
  have hlk := lockedB_iff hc h.ok.ok.now0 (by rw [h.lock]; exact l1)
  have hA := hr.rel k c hc
  unfold askA at hA
  rw [← hA, h.lock] at hlk
  have hb : demandBad R k a = false := by
    have hi : isCh R k = true := by
      have := h.ok.nch
      simp [isCh]; omega
    simp [demandBad, hi]; omega
  have pl := P.lt hh.pump
  refine (O.demand k a _ F pb R (P.frm hh.pump kW fun _ _ e => e) h.ok.ok h.ok.full).mono ?_
  rintro e w2 ⟨rfl, mv⟩
  obtain ⟨st, sr⟩ := demandR_still R k a
  have ok' := st.kok h.ok (demandR_ok h.ok.ok h.ok.full k a)
  have g := hh.still h.hB kW mv st sr
  have bk : KRd w2 rb (kv pb vl vd R) := (hh.rd.keep kW).frm mv.1 hh.fr (fun x hx e => hh.fd x e hx) (fun x hx e => hh.fl x e hx)
  have h2 := h.go g ok' st.lock
  refine ⟨_, _, _, rfl, by rw [bk.head.cell]; rfl, by rw [bk.head.cell]; rfl, by rw [h2.cfg.cell]; rfl, arr_cell h2.arr hk, h2.arr.frozen k, fun x c T hx hb => hb.frm mv.1 fun e => by have := pl x e; omega, h2, ?_⟩
  cases hl : lockedB R k with
  | true =>
    rw [hl] at hlk
    have e : demandErr R k a = 4 := by simp [demandErr, hb, hl]
    have e2 : demandR R k a = R := by simp [demandR, e]
    exact Or.inl ⟨hlk.symm, e, by simp [demandN, e], hide (by rw [e2]; exact hr)⟩
  | false =>
    rw [hl] at hlk
    by_cases q : 8 ≤ nov R.now R.os
    · have e : demandErr R k a = 2 := by simp [demandErr, hb, hl, q]
      have e2 : demandR R k a = R := by simp [demandR, e]
      refine Or.inr (Or.inl ⟨hlk.symm, e, by simp [demandN, e], ?_, hide (by rw [e2]; exact hr)⟩)
      rcases Int.lt_or_le 0 lk with z | z
      · have := (hr.inv (by omega)).lt h.ok.nch
        omega
      · omega
    · have e : demandErr R k a = 0 := by simp [demandErr, hb, hl, q]
      have ec : (demandR R k a).chs = R.chs.set k { c with asked := R.now } := by
        unfold demandR
        rw [if_pos e, Int.toNat_natCast]
        have : (orderR R k a 0 1).chs = R.chs := by unfold orderR; split <;> rfl
        have hn : (orderR R k a 0 1).now = R.now := by unfold orderR; split <;> rfl
        unfold askedR
        rw [this, hc, hn]
      refine Or.inr (Or.inr ⟨hlk.symm, e, hide ⟨?_, ?_⟩⟩)
      · intro j d hd
        rw [ec] at hd
        have hkl : k < R.chs.length := by rw [h.ok.nch]; exact hk
        by_cases q : j = k
        · subst q
          rw [List.getElem?_set_self hkl] at hd
          injection hd with hd
          subst hd
          have := h.ok.ok.now0
          simp only [if_true, askA]
          rw [if_neg (by omega)]
        · rw [List.getElem?_set_ne (Ne.symm q)] at hd
          rw [if_neg q]
          exact hr.rel j d hd
      · intro z
        exact ((hr.inv z).demand hc e (by rw [h.lock]; exact z) h.ok.ok.now0).1

theorem runR_chs (R : RSt) (n : Int) : (runR R n).chs = R.chs := by
  unfold runR
  split
  · exact (rticks_same n.toNat R).1
  · rfl

set_option maxRecDepth 100000 in
set_option maxHeartbeats 3200000 in
theorem locked_any {pa : Rep} (P : Pumpy 24 18 19 13 16 pa) (O : Orderly 20 22 21 25 43 pa) (lockout : Int) (sa : Option Addr) (ss : List StepR) (cps : Nat) (w : World) (hlo : In64 lockout) (hss : SeeS (fun x => w.heap.size ≤ x) w sa ss) (hso : ∀ s ∈ ss, s.Ok) :
    Calls Try.prog 7 #[I lockout, .slice sa ss.length cps] w fun e w' => e = .returned (.bool true) ∧ Keep w w' := by
  have OR : Hid (Calls Try.prog 8 #[] w fun e w' => e = .returned (.bool true) ∧ Hid (Keep w w')) := (kordered_any P O w).mono fun e w' q => q
  have lk0 := pk_lo lockout (n := 10) (by omega)
  have lk1 := pk_hi lockout (n := 10) (by omega)
  have CG : Hid (∀ w0, Keep w w0 → Calls Try.prog 10 #[.slice none 0 0, I lockout] w0 fun e w1 => ∃ a n c, e = .returned (.agg #[I 3, .slice a n c, I (pk lockout 10)]) ∧ Hid (Keep w w1 ∧ CfgAt w1 (.slice a n c) [] (pk lockout 10))) := by
    intro w0 k0
    refine (kconfig_any none [] 0 lockout w0 (Or.inl rfl) (by simp) hlo).mono ?_
    rintro e w1 ⟨v, rfl, k1, hr, -⟩
    obtain ⟨a, c, rfl⟩ := row_slice hr
    exact ⟨a, _, c, rfl, k0.trans k1, cfg_at hr⟩
  generalize pk lockout 10 = lk at *
  have FR : Hid (∀ w1 a n c, Hid (Keep w w1 ∧ CfgAt w1 (.slice a n c) [] lk) → Calls Try.prog 17 #[.agg #[I 3, .slice a n c, I lk]] (w1.alloc (.cells #[I 3, .slice a n c, I lk] 29)) fun e w3 => ∃ rb, e = .returned (.pointer (some ⟨rb, 0, none⟩)) ∧ w.heap.size ≤ w3.heap.size ∧ w1.heap.size ≠ w3.heap.size ∧ Hid (LSt pa w (w3.alloc (.cells #[I (-1000), I (-1000), I (-1000)] 47)) rb w1.heap.size w3.heap.size (.slice a n c) lk (rnew 3 [] lk) (fun _ => -1000) ∧ LRel lk (rnew 3 [] lk) (fun _ => -1000))) := by
    intro w1 a n c hh
    obtain ⟨k1, hc⟩ := hh.out
    have ka : Keep w1 (w1.alloc (.cells #[I 3, .slice a n c, I lk] 29)) := (Frm.refl _ _).alloc _
    have hz : (w1.alloc (.cells #[I 3, .slice a n c, I lk] 29)).heap.size = w1.heap.size + 1 := by simp
    refine (kfresh_any P (fun x => w1.heap.size + 1 ≤ x) (.slice a n c) [] lk _ (hc.keep ka) (fun x hx => by omega)).mono ?_
    rintro e w3 ⟨rb, pb, F, rfl, k3, hk⟩
    have kb : Keep w3 (w3.alloc (.cells #[I (-1000), I (-1000), I (-1000)] 47)) := (Frm.refl _ _).alloc _
    have s1 := k1.size
    have s3 := k3.size
    refine ⟨rb, rfl, by omega, by omega, ⟨((k1.trans ka).trans k3).trans kb, ⟨pb, F, _, _, (hk.sub (P.lt hk.pump) (fun x h1 h2 => ?_)).keep P.frm kb⟩, new_kok hc.fine, rfl, kb.blk (k3.blk (Blk.new _ _ _)), Blk.new _ _ _⟩, ?_, fun _ => LInv.new [] lk⟩
    · have h1 : w1.heap.size + 1 ≤ x := h1
      exact ⟨by omega, by omega, by omega⟩
    · intro k c hc'
      have := List.eq_of_mem_replicate (List.mem_of_getElem? hc')
      subst this
      simp [askA, ch0]
  have H := hide (And.intro hss hso)
  clear hss hso hlo
  go_enter Try.func7, Try.ntmps7
  go_wp2_with fail
  refine (OR.out).mono ?_
  rintro e w0 ⟨rfl, K0⟩
  go_wp2_with fail
  refine (CG.out w0 K0.out).mono ?_
  rintro e w1 ⟨a, n, c, rfl, H1⟩
  have F1 := hide (FR.out w1 a n c H1)
  clear OR CG FR
  go_wp2_with fail
  refine (F1.out).mono ?_
  rintro e w3 ⟨rb, rfl, hab, hcb, H3⟩
  clear F1 H1 K0
  go_wp2_with fail
  generalize w3.alloc (.cells #[I (-1000), I (-1000), I (-1000)] 47) = w4 at *
  generalize w3.heap.size = ab at *
  generalize w1.heap.size = cb at *
  generalize Value.slice a n c = v at *
  go_loopg [9, 10, 11, 12, 13, 14] (min ss.length 30) (fun q i _ _ _ _ _ wr => ∃ (j : Nat) (R : RSt) (A : Nat → Int), q + j = min ss.length 30 ∧ i = I j ∧ Hid (LSt pa w wr rb cb ab v lk R A ∧ LRel lk R A))
  case atStart => exact ⟨0, _, _, by omega, rfl, H3.out⟩
  case round =>
    obtain ⟨j, R, A, hq, rfl, hst⟩ := hrel
    obtain ⟨hl, hr⟩ := hst.out
    by_cases hj : j < min ss.length 30
    · obtain ⟨s, hsj⟩ : ∃ s, ss[j]? = some s := ⟨_, List.getElem?_eq_getElem (by omega)⟩
      have hsee := (H.out).1.frm (hl.frm.mono fun _ _ e => e.elim)
      rcases hsee with e | ⟨g, o, rfl, hgB, hcells⟩
      · rw [e] at hsj; simp at hsj
      obtain ⟨d0, d1, d2, d3, d4⟩ := hcells j s hsj
      have so := (H.out).2 s (List.mem_of_getElem? hsj)
      obtain ⟨kd, -, kd0, kd1, PD⟩ := kpick_some s.kind 2 (by omega) (by omega) so.k
      have hj1 : (j : Int) < ss.length := by omega
      have hj2 : (j : Int) < 30 := by omega
      have NX : Hid (∀ wz R' A', LSt pa w wz rb cb ab v lk R' A' ∧ LRel lk R' A' → ∃ (j' : Nat) (R : RSt) (A : Nat → Int), gk - 1 + j' = min ss.length 30 ∧ I ((j : Int) + 1) = I j' ∧ Hid (LSt pa w wz rb cb ab v lk R A ∧ LRel lk R A)) := fun wz R' A' hh => ⟨j + 1, R', A', by omega, by simp, hh⟩
      have MS : Hid (gk - 1 < gk) := by unfold Hid; omega
      by_cases hkd : kd = 0
      · subst hkd
        obtain ⟨ca, -, ca0, ca1, PA⟩ := kpick_some s.a 5 (by omega) (by omega) so.a
        have wa : IntKind.i64.wrap (1 + ca) = 1 + ca := wrap_id _ (by omega) (by omega)
        have TK : Hid (Calls Try.prog 11 #[.pointer (some ⟨rb, 0, none⟩), I (1 + ca)] (wr.alloc (.cells #[I s.kind, I s.a, I s.b, I s.c, I s.d] 57)) fun e w2 => e = .returned (.bool true) ∧ Hid (∃ R', LSt pa w w2 rb cb ab v lk R' A ∧ LRel lk R' A)) := by
          have hl2 := hl.keep P.frm (show Keep wr (wr.alloc (.cells #[I s.kind, I s.a, I s.b, I s.c, I s.d] 57)) from (Frm.refl _ _).alloc _)
          obtain ⟨pb, F, vl, vd, hh⟩ := hl2.at_
          refine (kticks_did P _ rb pb F R vl vd (1 + ca) _ hh hl2.ok hl2.hB (by omega) (by omega)).mono ?_
          rintro e w2 ⟨rfl, ok', g'⟩
          refine ⟨rfl, _, hl2.go g' ok' (runR_lims R _).2, ⟨?_, fun z => (hr.inv z).run _ (by omega)⟩⟩
          intro k c hc
          rw [runR_chs] at hc
          exact hr.rel k c hc
        clear hst hl hr hcells so hsj hq hj
        go_wp2_with fail
        refine (PD.out _).mono ?_
        rintro e w5 ⟨rfl, hw⟩
        have hw' := hw.symm
        subst hw'
        go_wp2_with fail
        refine (PA.out _).mono ?_
        rintro e w5 ⟨rfl, hw⟩
        have hw' := hw.symm
        subst hw'
        go_wp2_with fail
        refine (TK.out).mono ?_
        rintro e w5 ⟨rfl, H5⟩
        go_wp2_with fail
        go_roundg (gk - 1)
        case measure => exact MS.out
        case rel =>
          obtain ⟨R', h5⟩ := H5.out
          exact NX.out _ R' A h5
      · have hk1 : kd = 1 := by omega
        subst hk1
        obtain ⟨ca, -, ca0, ca1, PA⟩ := kpick_some s.a 3 (by omega) (by omega) so.a
        obtain ⟨cb', -, cb0, cb1, PB⟩ := kpick_some s.b 30 (by omega) (by omega) so.b
        obtain ⟨k, rfl⟩ := Int.eq_ofNat_of_zero_le ca0
        have wb : IntKind.i64.wrap (1 + cb') = 1 + cb' := wrap_id _ (by omega) (by omega)
        obtain ⟨pb, x0, DEM⟩ := hl.demand P O hr lk0 (by omega) (show k < 3 by omega) (show 1 ≤ 1 + cb' by omega) (show 1 + cb' ≤ 1000 by omega)
        have lrb : rb < wr.heap.size := by
          obtain ⟨pb, F, vl, vd, hh⟩ := hl.at_
          exact hh.rd.head.lt
        have lab := hl.arr.lt
        have lcb := hl.cfg.lt
        have hAk : -1000 ≤ A k ∧ A k ≤ 400 := by
          obtain ⟨c, hc⟩ : ∃ c, R.chs[k]? = some c := ⟨_, List.getElem?_eq_getElem (by rw [hl.ok.nch]; omega)⟩
          have h1 := hr.rel k c hc
          have h2 := hl.ok.ok.chs c (List.mem_of_getElem? hc)
          unfold askA at h1
          rw [h1]
          split <;> omega
        have n0 := hl.ok.ok.now0
        have n1 := hl.ok.ok.now1
        have wn : IntKind.i64.wrap (R.now - A k) = R.now - A k := wrap_id _ (by omega) (by omega)
        have DM : Hid (∀ m : Nat, Calls Try.prog 22 #[.pointer (some ⟨pb, 0, none⟩), I k, I (1 + cb')] ((wr.alloc (.cells #[I s.kind, I s.a, I s.b, I s.c, I s.d] 57)).drewN m) fun e w2 => ∃ (N E : Int) (R' : RSt), e = .returned (.tuple #[I N, I E]) ∧ w2.cell? ⟨rb, 0, none⟩ = some (.pointer (some ⟨pb, 0, none⟩)) ∧ w2.cell? ⟨wr.heap.size, 2, none⟩ = some (I s.b) ∧ w2.cell? ⟨rb, 5, none⟩ = some (I R.now) ∧ w2.cell? ⟨cb, 2, none⟩ = some (I lk) ∧ w2.cell? ⟨ab, k, none⟩ = some (I (A k)) ∧ w2.frozen? ⟨ab, k, none⟩ = false ∧ ab < w2.heap.size ∧
            ((decide (R.now - A k < lk) = true ∧ E = 4 ∧ N = 0 ∧ Hid (∀ m, ∃ R' A', LSt pa w (w2.drewN m) rb cb ab v lk R' A' ∧ LRel lk R' A')) ∨ (decide (R.now - A k < lk) = false ∧ E = 2 ∧ N = 0 ∧ lk = 0 ∧ Hid (∀ m, ∃ R' A', LSt pa w (w2.drewN m) rb cb ab v lk R' A' ∧ LRel lk R' A')) ∨
              (decide (R.now - A k < lk) = false ∧ E = 0 ∧ Hid (∀ m, ∃ R' A', LSt pa w ((w2.drewN m).setCell ⟨ab, k, none⟩ (I R.now)) rb cb ab v lk R' A' ∧ LRel lk R' A')))) := by
          intro m
          refine (DEM _ (((Frm.refl _ _).alloc _).drewN m)).mono ?_
          rintro e w2 ⟨N, E, R', rfl, y0, y1, y2, y3, y4, y5, hl2, hcase⟩
          have bx := y5 wr.heap.size #[I s.kind, I s.a, I s.b, I s.c, I s.d] 57 (Nat.le_refl _) ((Blk.new wr _ _).drewN m)
          have kp : ∀ m, LSt pa w (w2.drewN m) rb cb ab v lk R' A := fun m => (hl2.out).keep P.frm ((Frm.refl _ _).drewN m)
          refine ⟨N, E, R', rfl, y0, by rw [bx.cell]; rfl, y1, y2, y3, y4, (hl2.out).arr.lt, ?_⟩
          rcases hcase with ⟨q1, q2, q3, q4⟩ | ⟨q1, q2, q3, q4, q5⟩ | ⟨q1, q2, q3⟩
          · exact Or.inl ⟨q1, q2, q3, fun m => ⟨R', A, kp m, q4.out⟩⟩
          · exact Or.inr (Or.inl ⟨q1, q2, q3, q4, fun m => ⟨R', A, kp m, q5.out⟩⟩)
          · exact Or.inr (Or.inr ⟨q1, q2, fun m => ⟨R', _, (kp m).asked P.frm (by omega) hab hcb, q3.out⟩⟩)
        clear hst hl hr hcells so hsj hq hj DEM
        go_wp2_with fail
        refine (PD.out _).mono ?_
        rintro e w5 ⟨rfl, hw⟩
        have hw' := hw.symm
        subst hw'
        go_wp2_with fail
        refine (PA.out _).mono ?_
        rintro e w5 ⟨rfl, hw⟩
        have hw' := hw.symm
        subst hw'
        go_wp2_with fail
        go_region_held3 (fun w' => w'.cell? ⟨rb, 0, none⟩ = some (.pointer (some ⟨pb, 0, none⟩)) ∧ w'.cell? ⟨wr.heap.size, 2, none⟩ = some (I s.b)) (((try dsimp only); (repeat' apply And.intro) <;> (go_keep; done))) (first | (go_at_call 22; (try rw [wb]); refine (DM.out _).mono ?_; rintro e w2 ⟨N, E, R', rfl, y0, yb, y1, y2, y3, y4, y5, hcase⟩) | (go_at_call_of 15 (s.b); refine (PB.out _).mono ?_; rintro e w1 ⟨rfl, hw⟩; have hw8 := hw.symm; subst hw8))
        all_goals (rcases hcase with ⟨q1, rfl, rfl, Q⟩ | ⟨q1, rfl, rfl, rfl, Q⟩ | ⟨q1, rfl, Q⟩)
        all_goals go_wp2_with fail
        all_goals go_quiet (fail)
        all_goals go_wp2_with fail
        all_goals go_roundg (gk - 1)
        all_goals first
          | exact MS.out
          | (obtain ⟨R', A', h5⟩ := Q.out nq
             exact NX.out _ R' A' h5)
    · have HK := hide hl.frm
      clear hst hl hr hq
      by_cases h1 : j < ss.length
      · have h2 : decide ((j : Int) < 30) = false := decide_eq_false (by omega)
        have h1' : (j : Int) < ss.length := by omega
        clear h1 hj
        go_wp2_with fail
        go_ret
        exact ⟨rfl, HK.out⟩
      · have h1' : decide (j < ss.length) = false := decide_eq_false h1
        clear hj
        go_wp2_with fail
        go_ret
        exact ⟨rfl, HK.out⟩

end Go.Proofs.Ytpilmkipbbengaa
