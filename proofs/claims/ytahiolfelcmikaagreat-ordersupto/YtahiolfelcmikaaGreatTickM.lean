/- The program's orders against the document's. -/
import Derived.Test.YtahiolfelcmikaaGreatDueM
import Derived.Test.YtahiolfelcmikaaGreatDtick
import Derived.Test.YtahiolfelcmikaaGreatRef5
import Derived.Test.YtahiolfelcmikaaGreatDrun
import Derived.Test.YtahiolfelcmikaaGreatDbas2
import Derived.Test.YtahiolfelcmikaaGreatOrdM
namespace Go.Proofs.YtahiolfelcmikaaGreat
open Go.RowKit

def toR (o : OrdD) : ROrd := ⟨o.ch, o.start, o.stop, o.rest⟩
/-- an order has begun, is over, as time has it -/
def Turned (now : Int) (o : OrdD) : Prop := (o.beg = none ↔ o.start ≤ now) ∧ (o.fin = none ↔ o.stop ≤ now)

theorem on_iff {now : Int} {o : OrdD} (h : Turned now o) (k : Nat) : o.on k = true ↔ (o.ch = k ∧ o.start ≤ now ∧ now < o.stop) := by
  obtain ⟨h1, h2⟩ := h
  unfold OrdD.on
  simp only [Bool.and_eq_true, beq_iff_eq, Option.isNone_iff_eq_none]
  constructor
  · rintro ⟨⟨a1, a2⟩, a3⟩
    refine ⟨a1, h1.1 a2, ?_⟩
    rcases Int.lt_or_le now o.stop with q | q
    · exact q
    · rw [h2.2 q] at a3; simp at a3
  · rintro ⟨a1, a2, a3⟩
    refine ⟨⟨a1, h1.2 a2⟩, ?_⟩
    cases hh : o.fin with
    | none => have := h2.1 hh; omega
    | some y => rfl

theorem wpart_of {now : Int} {o : OrdD} (h : Turned now o) (k : Nat) : wpart now k (toR o) = if o.on k = true then pD now o else 0 := by
  by_cases q : o.on k = true
  · rw [if_pos q]
    obtain ⟨a1, a2, a3⟩ := (on_iff h k).1 q
    have e : ¬ (now < o.start ∨ o.stop ≤ now) := by omega
    simp [wpart, toR, a1, prt, e, pD]
  · rw [if_neg q]
    unfold wpart
    split
    · rename_i hc
      have hc' : o.ch = k := by
        have hc : (((o.ch : Nat) : Int) == (k : Int)) = true := hc
        rw [beq_iff_eq] at hc; omega
      unfold prt
      rw [if_pos]
      show now < o.start ∨ o.stop ≤ now
      rcases Int.lt_or_le now o.start with q1 | q1
      · exact Or.inl q1
      · rcases Int.lt_or_le now o.stop with q2 | q2
        · exact absurd ((on_iff h k).2 ⟨hc', q1, q2⟩) q
        · exact Or.inr q2
    · rfl

theorem wsum_of {now : Int} (ods : List OrdD) (h : ∀ o ∈ ods, Turned now o) (k : Nat) : wsum now k (ods.map toR) = psum now (going ods k) := by
  induction ods with
  | nil => rfl
  | cons o l ih =>
    have h1 := wpart_of (h o (by simp)) k
    have h2 := ih fun x hx => h x (List.mem_cons_of_mem _ hx)
    unfold wsum psum going at *
    simp only [List.map_cons, List.sum_cons, List.filter_cons]
    rw [h1]
    split
    · rw [List.map_cons, List.sum_cons, ← h2]
    · rw [← h2]; omega

theorem shareL_zero {now : Int} (k : Nat) : ∀ (ods : List OrdD), (∀ o ∈ ods, o.on k = true → 0 ≤ pD now o) → (shareL now k ods 0).1 = ods := by
  intro ods
  induction ods with
  | nil => intro _; rfl
  | cons o l ih =>
    intro h
    have h2 := ih fun x hx => h x (List.mem_cons_of_mem _ hx)
    simp only [shareL]
    split
    · rename_i q
      have := h o (by simp) q
      have e : min (pD now o) 0 = 0 := by omega
      rw [e]
      simp [h2]
    · simp [h2]

theorem dist_of {now : Int} (k : Nat) : ∀ (ods : List OrdD) (n : Int), 0 ≤ n → (∀ o ∈ ods, Turned now o) → (∀ o ∈ ods, o.on k = true → 0 ≤ pD now o) → dist now k (ods.map toR) n = (shareL now k ods n).1.map toR := by
  intro ods
  induction ods with
  | nil => intro n _ _ _; rfl
  | cons o l ih =>
    intro n hn ht hp
    by_cases hz : n ≤ 0
    · have : n = 0 := by omega
      subst this
      rw [shareL_zero k _ hp, dist_le _ _ _ _ (by omega)]
    · have ih' := fun m hm => ih m hm (fun x hx => ht x (List.mem_cons_of_mem _ hx)) fun x hx => hp x (List.mem_cons_of_mem _ hx)
      have h1 := wpart_of (ht o (by simp)) k
      simp only [List.map_cons, dist, if_neg hz, shareL]
      by_cases hc : ((toR o).ch != (k : Int)) = true
      · have hoff : o.on k = false := by
          cases hh : o.on k with
          | false => rfl
          | true =>
            have := ((on_iff (ht o (by simp)) k).1 hh).1
            simp [toR, this] at hc
        rw [if_pos hc, hoff, if_neg (by simp)]
        simp [ih' n hn]
      · have hc2 : ((toR o).ch == (k : Int)) = true := by simpa using hc
        rw [if_neg hc]
        unfold wpart at h1
        rw [if_pos hc2] at h1
        by_cases q : o.on k = true
        · rw [if_pos q] at h1 ⊢
          have hp0 := hp o (by simp) q
          have e : (if n < prt now (toR o) then n else prt now (toR o)) = min (pD now o) n := by rw [h1]; split <;> omega
          simp only [e]
          rw [ih' _ (by omega)]
          rfl
        · rw [if_neg q] at h1 ⊢
          have e : (if n < prt now (toR o) then n else prt now (toR o)) = 0 := by rw [h1]; split <;> omega
          simp only [e]
          rw [show n - 0 = n by omega, ih' n hn]
          simp [toR]

theorem shareL_mem (now : Int) (k : Nat) (A : List OrdD) (n : Int) {p : OrdD} (h : p ∈ (shareL now k A n).1) : ∃ o ∈ A, p.blk = o.blk ∧ p.start = o.start ∧ p.stop = o.stop ∧ p.ch = o.ch ∧ p.beg = o.beg ∧ p.fin = o.fin := by
  obtain ⟨i, hi⟩ := List.getElem?_of_mem h
  obtain ⟨o, h1, h2⟩ := shareL_get now k A n i p hi
  exact ⟨o, List.mem_of_getElem? h1, h2⟩

theorem shareL_turned {now : Int} {ods : List OrdD} (h : ∀ o ∈ ods, Turned now o) (k : Nat) (n : Int) : ∀ o ∈ (shareL now k ods n).1, Turned now o := by
  intro p hp
  obtain ⟨o, h1, -, h3, h4, -, h6, h7⟩ := shareL_mem now k ods n hp
  have := h o h1
  unfold Turned at this ⊢
  rw [h3, h4, h6, h7]; exact this

theorem fins_nov {now : Int} (ods : List OrdD) (h : ∀ o ∈ ods, Turned now o) : (finsOf ods).length = nov now (ods.map toR) := by
  induction ods with
  | nil => rfl
  | cons o l ih =>
    have h1 := (h o (by simp)).2
    have h2 := ih fun x hx => h x (List.mem_cons_of_mem _ hx)
    unfold finsOf nov at *
    simp only [List.map_cons, List.filterMap_cons, List.countP_cons]
    cases hh : o.fin with
    | none =>
      have := h1.1 hh
      have e : decide (now < (toR o).stop) = false := decide_eq_false (by show ¬ now < o.stop; omega)
      simp only [Option.map_none, e]
      simpa using h2
    | some y =>
      have : now < o.stop := by
        rcases Int.lt_or_le now o.stop with q | q
        · exact q
        · rw [h1.2 q] at hh; cases hh
      have e : decide (now < (toR o).stop) = true := decide_eq_true this
      simp only [Option.map_some, e, List.length_cons]
      simp [h2]

/-- time goes by -/
theorem OSame.turned {t : Int} {ods ods' : List OrdD} (h : OSame (t + 1) ods ods') (ht : ∀ o ∈ ods, Turned t o) (hb : ∀ o ∈ ods', ∀ y, o.beg = some y → t + 1 < o.start) (hf : ∀ o ∈ ods', ∀ y, o.fin = some y → t + 1 < o.stop) : ∀ o ∈ ods', Turned (t + 1) o := by
  intro o ho
  obtain ⟨j, hj⟩ := List.getElem?_of_mem ho
  obtain ⟨o0, a1, a2, a3, a4, a5, a6, a7, a8⟩ := h.2 j o hj
  obtain ⟨t1, t2⟩ := ht o0 (List.mem_of_getElem? a1)
  constructor
  · constructor
    · intro e
      rcases a7 with q | q
      · have := t1.1 (by rw [← q]; exact e)
        omega
      · exact q.2
    · intro e
      cases hh : o.beg with
      | none => rfl
      | some y => have := hb o ho y hh; omega
  · constructor
    · intro e
      rcases a8 with q | q
      · have := t2.1 (by rw [← q]; exact e)
        omega
      · exact q.2
    · intro e
      cases hh : o.fin with
      | none => rfl
      | some y => have := hf o ho y hh; omega

theorem OSame.toR {t : Int} {ods ods' : List OrdD} (h : OSame t ods ods') : ods'.map toR = ods.map toR := by
  apply List.ext_getElem?
  intro j
  rw [List.getElem?_map, List.getElem?_map]
  cases hh : ods'[j]? with
  | none =>
    have : ods[j]? = none := by
      rw [List.getElem?_eq_none_iff] at hh ⊢
      rw [← h.1]; exact hh
    rw [this]
  | some o =>
    obtain ⟨o0, a1, a2, a3, a4, a5, a6, -⟩ := h.2 j o hh
    rw [a1]
    simp [Go.Proofs.YtahiolfelcmikaaGreat.toR, a3, a4, a5, a6]

def OChRel (now lock : Int) (d : GCh) (c : RCh) : Prop :=
  d.rests = c.rests ∧ d.rate = wbase now c ∧ (d.ent = none → c.til < 0 ∨ c.til ≤ now) ∧ (∀ e cb, d.ent = some (e, cb) → e.tick = c.til ∧ now < c.til) ∧ d.free = if c.asked < 0 then 0 else c.asked + lock

structure ORel (D : GSt) (ods : List OrdD) (R : RSt) : Prop where
  now : D.now = R.now
  lock : D.lock = R.lock
  l0 : 0 ≤ R.lock
  l1 : R.lock ≤ 400
  os : R.os = ods.map toR
  trn : ∀ o ∈ ods, Turned R.now o
  fits : Fits D.ws R.lims R.doses R.now
  past : ∀ d ∈ R.doses, d.tick < R.now
  nch : D.chs.length = R.chs.length
  ch : ∀ (k : Nat) (d : GCh) (c : RCh), D.chs[k]? = some d → R.chs[k]? = some c → OChRel R.now R.lock d c

/-- orders of a fine pump -/
theorem ofine {now : Int} {ods : List OrdD} {R : RSt} (os : R.os = ods.map toR) (trn : ∀ o ∈ ods, Turned now o) (ok : R.Ok) (n0 : 0 ≤ now) (hlen : ods.length ≤ 3300) : OFine now ods := by
  have key : ∀ o ∈ ods, toR o ∈ R.os := fun o ho => by rw [os]; exact List.mem_map.2 ⟨o, ho, rfl⟩
  refine ⟨n0, hlen, fun o ho => (ok.os _ (key o ho)).2.2.2.2.1, fun o ho => (ok.os _ (key o ho)).2.2.2.2.2, fun o ho => (ok.os _ (key o ho)).2.2.2.1, ?_⟩
  intro o ho k hk
  exact ((on_iff (trn o ho) k).1 hk).2.2

end Go.Proofs.YtahiolfelcmikaaGreat

/- give, with orders. -/
namespace Go.Proofs.YtahiolfelcmikaaGreat
open Go.RowKit

/-- what share leaves keeps the rest of the pump -/
theorem GAt.frmB {w w' : World} {b : Nat} {D : GSt} {vc vw : Value} {sos : List Value} {vo : Value} {xt : List Ent} {nv : Int} {ods : List OrdD} (h : GAt w b D vc vw) (ho : OAt w b vc sos vo xt nv ods) (f : Frm (fun x => ∃ o ∈ ods, x = o.blk) w w') : GAt w' b D vc vw :=
  h.frmO f fun x ⟨o, hm, e⟩ => by
    obtain ⟨j, hj⟩ := List.getElem?_of_mem hm
    exact Or.inr ⟨_, by rw [e]; exact ho.ords j o hj⟩

structure GiveEnd (w w' : World) (b : Nat) (D : GSt) (vc vw : Value) (ods ods' : List OrdD) (ws' : List Wd) (lims : List Lim) (ds : List Ds) (now : Int) : Prop where
  lie : PAt w' b { D with ws := ws' } vc vw ods'
  fits : Fits ws' lims ds now
  foot : ∀ x, WsF vw ws' x ↔ WsF vw D.ws x
  frm : Frm (fun x => WsF vw D.ws x ∨ ∃ o ∈ ods, x = o.blk) w w'

set_option maxRecDepth 100000 in
set_option maxHeartbeats 3200000 in
theorem ogive_all (b : Nat) (D : GSt) (vc vw : Value) (ods : List OrdD) (lims : List Lim) (ds : List Ds) (a : Int) (k : Nat) (w : World) (h : PAt w b D vc vw ods) (f : OFine D.now ods) (hk : k < D.chs.length) (k3 : D.chs.length ≤ 4)
    (hf : Fits D.ws lims ds D.now) (hl : ∀ l ∈ lims, 1 ≤ l.win) (a0 : 0 ≤ a) (a1 : a ≤ 1000) (ha : a ≤ rroom ds lims k D.now) (nl : D.ws.length ≤ 6) :
    Calls Tryz.prog 72 #[ptr b 0, I k, I a] w fun e w' => e = .returned (.tuple #[]) ∧ ∃ ws', GiveEnd w w' b D vc vw ods (shareL D.now k ods a).1 ws' lims (ds ++ [⟨D.now, k, a⟩]) D.now := by
  obtain ⟨c, hc⟩ : ∃ c, D.chs[k]? = some c := ⟨_, List.getElem?_eq_getElem hk⟩
  obtain ⟨g, cap, hv, -, -, c2, -, -, -, -⟩ := h.g.chan hc
  obtain ⟨av, cp, rfl⟩ := row_slice h.g.ws.row
  obtain ⟨sl, ag⟩ := h.g.ag
  have hn : w.cell? ⟨b, 0, none⟩ = some (I D.now) := by rw [ag.head.cell]; rfl
  have hch : w.cell? ⟨b, 2, none⟩ = some (.slice (some ⟨g, 0, none⟩) D.chs.length cap) := by rw [ag.head.cell, ← hv]; rfl
  have SH : Hid (∀ m : Nat, Calls Tryz.prog 88 #[ptr g (k * 5), I D.now, I a] (w.drewN m) fun e w1 => e = .returned (.tuple #[]) ∧ w1.cell? ⟨b, 3, none⟩ = some (.slice av D.ws.length cp) ∧ Hid (PAt w1 b D vc (.slice av D.ws.length cp) (shareL D.now k ods a).1 ∧ Frm (fun x => ∃ o ∈ ods, x = o.blk) w w1)) := by
    intro m
    have kp : Keep w (w.drewN m) := (Frm.refl _ _).drewN _
    have h' := h.keep kp
    refine (share_any b vc (sosOf D.chs) D.vo D.xt D.nv ods g k D.now a c.so (w.drewN m) h'.o f (sosOf_get hc) (kp.cell c2 id) a0 a1).mono ?_
    rintro e w1 ⟨rfl, q1, q2⟩
    have g1 := h'.g.frmB h'.o q2
    obtain ⟨sl1, ag1⟩ := g1.ag
    exact ⟨rfl, by rw [ag1.head.cell]; rfl, ⟨g1, q1⟩, (kp.mono fun _ _ e => e.elim).trans q2⟩
  have H := hide (And.intro hf (And.intro hl ha))
  clear hf hl ha h ag hv hc c2
  go_enter Tryz.func72, Tryz.ntmps72
  go_wp2_with fail
  go_region_with (go_at_call 88; refine (SH.out _).mono ?_; rintro e w1 ⟨rfl, c3, hz⟩)
  all_goals
    have HZ := hide (And.intro (hz.out).1 (hz.out).2)
    clear hz
    go_wp2_with fail
    go_loopg [7, 25] D.ws.length (fun q _ i wr => ∃ j : Nat, q + j = D.ws.length ∧ i = I j ∧ Hid (∃ ws', Turn w1 wr (.slice av D.ws.length cp) D.ws ws' lims j fun W l => Fit W l (ds ++ [⟨D.now, k, a⟩]) D.now))
    case atStart => exact ⟨0, by omega, rfl, D.ws, Turn.start _ _ (HZ.out).1.g.ws (Frm.refl _ _)⟩
    case round =>
      obtain ⟨j, hkj, rfl, hst⟩ := hrel
      obtain ⟨ws', ht⟩ := hst.out
      have hlen := ht.len
      by_cases hj : j < D.ws.length
      · obtain ⟨x, hx⟩ : ∃ x, ws'[j]? = some x := ⟨_, List.getElem?_eq_getElem (by omega)⟩
        have hx0 : D.ws[j]? = some x := by rw [← ht.rest j (Nat.le_refl _)]; exact hx
        obtain ⟨l, hl, hfit⟩ := (H.out).1.fit hx0
        obtain ⟨g', cap', hv, -, hcell⟩ := ht.lie.cell hx
        injection hv with hv1 hv2 hv3
        subst hv1
        have hwin := ht.lie.each j x hx
        have CC := hide (counts_any x.1 x.2.1 x.2.2 k wr hwin hfit.ok (by omega) (by omega))
        have GG := hide (give_any x.1 x.2.1 x.2.2 a wr hwin hfit.ok a0 a1)
        have hml := List.mem_of_getElem? hl
        have hwl := (H.out).2.1 l hml
        have SK : Hid (cnt x.2.2.ch (k : Int).toNat = false → ∃ k' : Nat, k' < gk ∧ ∃ j' : Nat, k' + j' = D.ws.length ∧ I ((j : Int) + 1) = I j' ∧ Hid (∃ ws', Turn w1 wr (.slice (some ⟨g', 0, none⟩) D.ws.length cp) D.ws ws' lims j' fun W l => Fit W l (ds ++ [⟨D.now, k, a⟩]) D.now)) := by
          intro h1
          rw [hfit.ch, Int.toNat_natCast] at h1
          exact ⟨gk - 1, by omega, j + 1, by omega, by simp, ws', ht.skip hx hl (hfit.not _ (by simpa using h1))⟩
        have NX : Hid (cnt x.2.2.ch (k : Int).toNat = true → ∀ w2, Frm (fun b => b = x.1 ∨ b = x.2.1) wr w2 → WinAt w2 x.1 x.2.1 (x.2.2.give a) → ∃ k' : Nat, k' < gk ∧ ∃ j' : Nat, k' + j' = D.ws.length ∧ I ((j : Int) + 1) = I j' ∧ Hid (∃ ws', Turn w1 w2 (.slice (some ⟨g', 0, none⟩) D.ws.length cp) D.ws ws' lims j' fun W l => Fit W l (ds ++ [⟨D.now, k, a⟩]) D.now)) := by
          intro h1 w2 hf2 hw2
          rw [hfit.ch, Int.toNat_natCast] at h1
          refine ⟨gk - 1, by omega, j + 1, by omega, by simp, _, ht.next hx hl hf2 hw2 (hfit.give k a hwl h1 a0 ?_)⟩
          rw [hfit.left0]
          exact Int.le_trans (H.out).2.2 (room_le hml h1)
        clear hwin hfit hx hx0 hl hml hwl hst ht hv2 hv3 hlen
        go_wp2_with fail
        refine (CC.out).mono ?_
        rintro e w1 ⟨rfl, rfl⟩
        cases hct : cnt x.2.2.ch (k : Int).toNat with
        | false =>
          go_wp2_with fail
          obtain ⟨k', m1, m2⟩ := SK.out hct
          go_roundg k'
          case measure => exact m1
          case rel => exact m2
        | true =>
          go_wp2_with fail
          refine (GG.out).mono ?_
          rintro e w2 ⟨rfl, f2, hw2⟩
          obtain ⟨k', m1, m2⟩ := NX.out hct w2 f2 hw2
          have M1 := hide m1
          have M2 := hide m2
          clear m1 m2 f2 hw2
          go_wp2_with fail
          go_roundg k'
          case measure => exact M1.out
          case rel => exact M2.out
      · have hje : j = D.ws.length := by omega
        have HK := hide (And.intro hje ht)
        clear hkj hst hje ht hlen
        go_wp2_with fail
        go_end0
        obtain ⟨e1, e2⟩ := HK.out
        rw [e1] at e2
        have hz := HZ.out
        refine ⟨rfl, ws', ⟨hz.1.g.turned e2.lie e2.foot e2.frm, hz.1.o.frmG hz.1.g (e2.frm.mono fun y _ e => Or.inr (Or.inr e))⟩, e2.fits (H.out).1.1, e2.foot, ?_⟩
        exact (hz.2.mono fun x _ e => Or.inr e).trans (e2.frm.mono fun x _ e => Or.inl e)

end Go.Proofs.YtahiolfelcmikaaGreat

/- giveTick, with orders. -/
namespace Go.Proofs.YtahiolfelcmikaaGreat
open Go.RowKit

theorem OF_share {sos : List Value} {vo : Value} {ods : List OrdD} {now : Int} {k : Nat} {n : Int} {x : Nat} (h : OF sos vo (shareL now k ods n).1 x) : OF sos vo ods x := by
  rcases h with ⟨i, p, hp, hh⟩ | e | e
  · obtain ⟨o, h1, h2, -, -, -, h6, h7⟩ := shareL_get now k ods n i p hp
    refine Or.inl ⟨i, o, h1, ?_⟩
    rw [h2, h6, h7] at hh
    exact hh
  · exact Or.inr (Or.inl e)
  · exact Or.inr (Or.inr e)

theorem pf_sub {b : Nat} {D : GSt} {vc vw : Value} {ods ods' : List OrdD} {ws' : List Wd} (wf : ∀ x, WsF vw ws' x ↔ WsF vw D.ws x) (of : ∀ x, OF (sosOf D.chs) D.vo ods' x → OF (sosOf D.chs) D.vo ods x) {x : Nat} (h : PF b { D with ws := ws' } vc vw ods' x) : PF b D vc vw ods x := by
  rcases h with (e | e | e | e) | e
  · exact Or.inl (Or.inl e)
  · exact Or.inl (Or.inr (Or.inl e))
  · exact Or.inl (Or.inr (Or.inr (Or.inl ((wf x).1 e))))
  · exact Or.inl (Or.inr (Or.inr (Or.inr e)))
  · exact Or.inr (of x e)

theorem PAt.noDose {w : World} {b : Nat} {D : GSt} {vc vw : Value} {ods : List OrdD} (h : PAt w b D vc vw ods) {x : Nat} (hx : PF b D vc vw ods x) (hd : HasT w x 57) : False := by
  rcases hx with e | e
  · obtain ⟨T, q1, q2⟩ := h.g.tyF e
    have := q1.uniq hd
    subst this
    rcases q2 with q2 | q2
    · revert q2; unfold GTy; decide
    · revert q2; decide
  · obtain ⟨T, q1, q2⟩ := h.o.hasT e
    have := q1.uniq hd
    subst this
    revert q2; unfold OTy; decide

structure OTick (w wr : World) (B b : Nat) (D : GSt) (vc vw : Value) (ods : List OrdD) (ws' : List Wd) (ods' : List OrdD) (R R' : RSt) (xs : List Ds) (vout : Value) : Prop where
  lie : PAt wr b { D with ws := ws' } vc vw ods'
  wf : ∀ x, WsF vw ws' x ↔ WsF vw D.ws x
  of : ∀ x, OF (sosOf D.chs) D.vo ods' x → OF (sosOf D.chs) D.vo ods x
  os : R'.os = ods'.map toR
  trn : ∀ o ∈ ods', Turned R.now o
  fits : Fits ws' R.lims R'.doses R.now
  out : wr.ownsRow 0 57 3 vout (xs ++ R'.doses.drop R.doses.length).length ((xs ++ R'.doses.drop R.doses.length).flatMap dsC)
  new : ∀ x, vout.ownBlock = some x → B ≤ x
  frm : Frm (fun x => PF b D vc vw ods x ∨ B ≤ x) w wr

theorem OTick.keep {w wr w2 : World} {B b : Nat} {D : GSt} {vc vw : Value} {ods ods' : List OrdD} {ws' : List Wd} {R R' : RSt} {xs : List Ds} {vout : Value} (h : OTick w wr B b D vc vw ods ws' ods' R R' xs vout) (k : Keep wr w2) : OTick w w2 B b D vc vw ods ws' ods' R R' xs vout :=
  ⟨h.lie.keep k, h.wf, h.of, h.os, h.trn, h.fits, row_frm h.out k fun _ _ e => e, h.new, h.frm.trans2 k fun _ _ e => e.elim⟩

theorem OTick.more {w wr w2 w3 W : World} {B b : Nat} {D : GSt} {vc vw : Value} {ods ods' ods2 : List OrdD} {ws' ws2 : List Wd} {R R' R2 : RSt} {xs : List Ds} {vout v' : Value} {d : Ds} (h : OTick w wr B b D vc vw ods ws' ods' R R' xs vout) (hBw : B ≤ w.heap.size) (hrow : W.ownsRow 0 57 3 vout (xs ++ R'.doses.drop R.doses.length).length ((xs ++ R'.doses.drop R.doses.length).flatMap dsC)) (hle : R.doses.length ≤ R'.doses.length)
    (ge : GiveEnd wr w2 b { D with ws := ws' } vc vw ods' ods2 ws2 R.lims (R'.doses ++ [d]) R.now) (of2 : ∀ x, OF (sosOf D.chs) D.vo ods2 x → OF (sosOf D.chs) D.vo ods' x) (trn2 : ∀ o ∈ ods2, Turned R.now o) (os2 : R2.os = ods2.map toR) (hW : Keep w2 W)
    (hown : w3.ownsRow 0 57 3 v' ((xs ++ R'.doses.drop R.doses.length).length + 1) ((xs ++ R'.doses.drop R.doses.length).flatMap dsC ++ [I d.tick, I d.ch, I d.amt])) (hg : W.grownBy w3 vout.ownBlock) (hnew : v'.ownBlock = vout.ownBlock ∨ (v'.ownBlock = some W.heap.size ∧ W.grownBy w3 none))
    (h2 : R2.doses = R'.doses ++ [d]) : OTick w w3 B b D vc vw ods ws2 ods2 R R2 xs v' := by
  have wf2 : ∀ x, WsF vw ws2 x ↔ WsF vw D.ws x := fun x => (ge.foot x).trans (h.wf x)
  have of' : ∀ x, OF (sosOf D.chs) D.vo ods2 x → OF (sosOf D.chs) D.vo ods x := fun x hx => h.of x (of2 x hx)
  have l3 : PAt W b { D with ws := ws2 } vc vw ods2 := ge.lie.keep hW
  have hs1 := h.frm.size
  have hs2 := ge.frm.size
  have hs3 := hW.size
  refine ⟨l3.frm (grown_frm hg) ?_, wf2, of', os2, trn2, by rw [h2]; exact ge.fits, ?_, ?_, ?_⟩
  · intro x hx hv
    exact l3.noDose hx (row_ty hrow hv)
  · rw [h2, drop_snoc _ _ _ hle]
    have e1 : (xs ++ (R'.doses.drop R.doses.length ++ [d])).length = (xs ++ R'.doses.drop R.doses.length).length + 1 := by simp; omega
    have e2 : (xs ++ (R'.doses.drop R.doses.length ++ [d])).flatMap dsC = (xs ++ R'.doses.drop R.doses.length).flatMap dsC ++ [I d.tick, I d.ch, I d.amt] := by simp [dsC]
    rw [e1, e2]; exact hown
  · intro x hx
    rcases hnew with e | ⟨e, -⟩
    · rw [e] at hx; exact h.new x hx
    · rw [e] at hx; injection hx with hx; omega
  · refine ((h.frm.trans (ge.frm.mono fun x _ hx => ?_)).trans2 hW fun _ _ e => e.elim).trans2 (grown_frm hg) ?_
    · rcases hx with e | ⟨o, ho, e⟩
      · exact Or.inl (Or.inl (Or.inr (Or.inr (Or.inl ((h.wf x).1 e)))))
      · obtain ⟨j, hj⟩ := List.getElem?_of_mem ho
        exact Or.inl (Or.inr (h.of x (Or.inl ⟨j, o, hj, Or.inl e⟩)))
    · intro x _ hv
      exact Or.inr (h.new x hv)

theorem ogive_at (now : Int) (b : Nat) (D : GSt) (vc vw : Value) (ods : List OrdD) (lims : List Lim) (ds : List Ds) (a : Int) (k : Nat) (w : World) (hnow : D.now = now) (h : PAt w b D vc vw ods) (f : OFine now ods) (hk : k < D.chs.length) (k3 : D.chs.length ≤ 4)
    (hf : Fits D.ws lims ds now) (hl : ∀ l ∈ lims, 1 ≤ l.win) (a0 : 0 ≤ a) (a1 : a ≤ 1000) (ha : a ≤ rroom ds lims k now) (nl : D.ws.length ≤ 6) :
    Calls Tryz.prog 72 #[ptr b 0, I k, I a] w fun e w' => e = .returned (.tuple #[]) ∧ ∃ ws', GiveEnd w w' b D vc vw ods (shareL now k ods a).1 ws' lims (ds ++ [⟨now, k, a⟩]) now := by
  subst hnow
  exact ogive_all b D vc vw ods lims ds a k w h f hk k3 hf hl a0 a1 ha nl

set_option maxRecDepth 100000 in
set_option maxHeartbeats 3200000 in
theorem ogiveTick_all (B b : Nat) (D : GSt) (vc vw vin : Value) (ods : List OrdD) (R : RSt) (xs : List Ds) (w : World) (h : PAt w b D vc vw ods) (rel : ORel D ods R) (ok : R.Ok) (hn : R.now < 400) (hd : R.doses.length ≤ 1996) (hol : ods.length ≤ 3300)
    (hin : w.ownsRow 0 57 3 vin xs.length (xs.flatMap dsC)) (hBw : B ≤ w.heap.size) (hvB : ∀ x, vin.ownBlock = some x → B ≤ x) (hxs : xs.length ≤ 100000) :
    Calls Tryz.prog 52 #[ptr b 0, vin] w fun e w' => ∃ vout ws' ods', e = .returned vout ∧ OTick w w' B b D vc vw ods ws' ods' R (tks R.chs.length R) xs vout := by
  obtain ⟨i, hi, hz0, hz1, hz2⟩ := info_parts infoD
  obtain ⟨sl, ag⟩ := h.g.ag
  obtain ⟨ac, cp, hvc⟩ := row_slice h.g.chs
  have c2 : w.cell? ⟨b, 2, none⟩ = some (.slice ac D.chs.length cp) := by rw [ag.head.cell, ← hvc]; rfl
  have nc : D.chs.length ≤ 4 := by rw [rel.nch]; exact ok.nc1
  have n0 := ok.now0
  have hst0 : OTick w w B b D vc vw ods D.ws ods R (tks 0 R) xs vin := ⟨h, fun _ => Iff.rfl, fun _ hx => hx, rel.os, rel.trn, rel.fits, by simpa [tks] using hin, hvB, Frm.refl _ _⟩
  have H := hide (And.intro h (And.intro rel (And.intro ok (And.intro hst0 (And.intro hvc hd)))))
  clear h rel ok hin hst0 hvc ag hd hvB
  go_enter Tryz.func52, Tryz.ntmps52
  go_wp2_with fail
  go_loopg [1, 5, 6, 12] D.chs.length (fun q vo _ _ i wr => ∃ j : Nat, q + j = D.chs.length ∧ i = I j ∧ Hid (∃ ws' ods', OTick w wr B b D vc vw ods ws' ods' R (tks j R) xs vo))
  case atStart => exact ⟨0, by omega, rfl, D.ws, ods, (H.out).2.2.2.1⟩
  case round =>
    obtain ⟨j, hkj, rfl, hst⟩ := hrel
    obtain ⟨ws', ods', ht⟩ := hst.out
    by_cases hj : j < D.chs.length
    · obtain ⟨d, hdd⟩ : ∃ d, D.chs[j]? = some d := ⟨_, List.getElem?_eq_getElem hj⟩
      obtain ⟨c, hcc⟩ : ∃ c, R.chs[j]? = some c := ⟨_, List.getElem?_eq_getElem (by rw [← (H.out).2.1.nch]; exact hj)⟩
      obtain ⟨hrest, hrate, -, -, -⟩ := (H.out).2.1.ch j d c hdd hcc
      obtain ⟨g, cap, hv, d0, -, d2, d3, -, -, -⟩ := ht.lie.g.chan (k := j) (c := d) hdd
      have hvv := (H.out).2.2.2.2.1
      rw [hv] at hvv
      injection hvv with hv1 hv2 hv3
      subst hv1
      obtain ⟨sl2, ag2⟩ := ht.lie.g.ag
      have e0 : wr.cell? ⟨b, 0, none⟩ = some (I R.now) := by rw [ag2.head.cell, ← (H.out).2.1.now]; rfl
      have e2 : wr.cell? ⟨b, 2, none⟩ = some (.slice (some ⟨g, 0, none⟩) D.chs.length cap) := by rw [ag2.head.cell, ← hv]; rfl
      have e3 : wr.cell? ⟨b, 3, none⟩ = some vw := by rw [ag2.head.cell]; rfl
      have okj := tks_ok (H.out).2.2.1 hn (H.out).2.2.2.2.2 j (by omega)
      have hsame := tks_same j R
      have hol' : ods'.length ≤ 3300 := by
        have q1 := congrArg List.length ht.os
        have q2 := congrArg List.length (H.out).2.1.os
        have q3 := hsame.2.2.2.2
        simp only [List.length_map] at q1 q2
        omega
      have fine : OFine R.now ods' := ofine ht.os ht.trn okj n0 hol'
      have nl : ws'.length ≤ 6 := by rw [ht.fits.1]; exact (H.out).2.2.1.nl
      have hrb := (H.out).2.2.1.chs c (List.mem_of_getElem? hcc)
      have hr0 : 0 ≤ d.rate := by rw [hrate]; unfold wbase; split <;> omega
      have hr1 : d.rate ≤ 1000 := by rw [hrate]; unfold wbase; split <;> omega
      have wn := fun x => wants_any b vc (sosOf D.chs) D.vo D.xt D.nv ods' g j d.rate R.now 0 d.rests d.so (wr.drewN x) (ht.lie.o.keep ((Frm.refl _ _).drewN x)) fine (sosOf_get hdd) d0 d2 d3 hr0 hr1
      have hpb := psum_bd (now := R.now) (going ods' j) fun o ho => fine.pd ho
      have hgl := going_le ods' j
      have hwnt : (if d.rests = true then 0 else d.rate + psum R.now (going ods' j)) = wnt R.now j c (tks j R).os := by
        unfold wnt
        rw [hrest, hrate, ht.os, wsum_of ods' ht.trn j]
      rw [hwnt] at wn
      have WN := hide wn
      have rm := fun x => room_any b vw ws' R.lims (tks j R).doses R.now j (wr.drewN x) e3 (ht.lie.g.ws.drewN x) ht.fits (by omega) (by omega) nl
      simp only [Int.toNat_natCast] at rm
      have RM := hide rm
      have hm0 : 0 ≤ rroom (tks j R).doses R.lims j R.now := room_nonneg ht.fits.nonneg
      have hm1 : rroom (tks j R).doses R.lims j R.now ≤ 1000 := (fold_bd (k := j) (t := R.now) okj.doses okj.nd R.lims (H.out).2.2.1.lims 1000 (by omega) (by omega)).2
      have hw0 : 0 ≤ wnt R.now j c (tks j R).os := by rw [← hwnt]; split <;> omega
      have hw1 : wnt R.now j c (tks j R).os ≤ 4000000 := by rw [← hwnt]; split <;> omega
      have hA : amt (tks j R) j c = if rroom (tks j R).doses R.lims j R.now < wnt R.now j c (tks j R).os then rroom (tks j R).doses R.lims j R.now else wnt R.now j c (tks j R).os := by
        unfold amt
        rw [hsame.2.1, hsame.2.2.1]
      have hstep : tks (j + 1) R = if amt (tks j R) j c ≤ 0 then tks j R else { tks j R with doses := (tks j R).doses ++ [⟨R.now, j, amt (tks j R) j c⟩], os := dist R.now j (tks j R).os (amt (tks j R) j c) } := by
        show tk1 j (tks j R) = _
        have e : (tks j R).chs[j]? = some c := by rw [hsame.1]; exact hcc
        unfold tk1
        simp only [e, hsame.2.2.1]
      have eD : ({ D with ws := ws' } : GSt).now = R.now := (H.out).2.1.now
      have hgive : ∀ (A : Int) (n : Nat), 0 ≤ A → A ≤ 1000 → A ≤ rroom (tks j R).doses R.lims j R.now → Calls Tryz.prog 72 #[ptr b 0, I j, I A] (wr.drewN n) fun e w' => e = .returned (.tuple #[]) ∧ w'.cell? ⟨b, 0, none⟩ = some (I R.now) ∧ Hid (∃ ws2, GiveEnd (wr.drewN n) w' b { D with ws := ws' } vc vw ods' (shareL R.now j ods' A).1 ws2 R.lims ((tks j R).doses ++ [⟨R.now, j, A⟩]) R.now) := by
        intro A n a0 a1 a2
        refine (ogive_at R.now b { D with ws := ws' } vc vw ods' R.lims (tks j R).doses A j (wr.drewN n) eD (ht.lie.keep ((Frm.refl _ _).drewN n)) fine hj nc ht.fits (fun l hl => ((H.out).2.2.1.lims l hl).w0) a0 a1 a2 nl).mono ?_
        rintro e w' ⟨rfl, ws2, ge⟩
        obtain ⟨sl4, ag4⟩ := ge.lie.g.ag
        exact ⟨rfl, by rw [ag4.head.cell, ← eD]; rfl, ws2, ge⟩
      have hnd := okj.nd
      have hle : R.doses.length ≤ (tks j R).doses.length := (tks_pre j R).length_le
      have hln : (xs ++ (tks j R).doses.drop R.doses.length).length ≤ 102000 := by simp; omega
      have GV := hide hgive
      have T := hide (And.intro ht (And.intro hA (And.intro hstep hle)))
      have SKIP : Hid (∀ n : Nat, amt (tks j R) j c ≤ 0 → ∃ k' : Nat, k' < gk ∧ ∃ j' : Nat, k' + j' = D.chs.length ∧ I ((j : Int) + 1) = I j' ∧ Hid (∃ ws' ods', OTick w (wr.drewN n) B b D vc vw ods ws' ods' R (tks j' R) xs u1)) := by
        intro n hz
        refine ⟨gk - 1, by omega, j + 1, by omega, by simp, ws', ods', ?_⟩
        rw [hstep, if_pos hz]
        exact ht.keep ((Frm.refl _ _).drewN n)
      have ROW : Hid (∀ (n : Nat) (w2 : World) (A : Int) (cs : Array Value), Hid (∃ ws2, GiveEnd (wr.drewN n) w2 b { D with ws := ws' } vc vw ods' (shareL R.now j ods' A).1 ws2 R.lims ((tks j R).doses ++ [⟨R.now, j, A⟩]) R.now) → (w2.alloc (.cells cs 57)).ownsRow 0 57 3 u1 (xs ++ (tks j R).doses.drop R.doses.length).length ((xs ++ (tks j R).doses.drop R.doses.length).flatMap dsC)) := by
        intro n w2 A cs hg
        obtain ⟨ws2, ge⟩ := hg.out
        refine row_frm (row_frm (ht.keep ((Frm.refl _ _).drewN n)).out ge.frm ?_) (show Keep _ _ from (Frm.refl _ _).alloc _) (fun _ _ e => e)
        intro x hx hw
        refine ht.lie.noDose ?_ (row_ty ht.out hx)
        rcases hw with e | ⟨o, ho, e⟩
        · exact Or.inl (Or.inr (Or.inr (Or.inl e)))
        · obtain ⟨l, hl⟩ := List.getElem?_of_mem ho
          exact Or.inr (Or.inl ⟨l, o, hl, Or.inl e⟩)
      have MORE : Hid (∀ (n : Nat) (A : Int) (w2 W w3 : World) (v' : Value), 0 < A → amt (tks j R) j c = A → Hid (∃ ws2, GiveEnd (wr.drewN n) w2 b { D with ws := ws' } vc vw ods' (shareL R.now j ods' A).1 ws2 R.lims ((tks j R).doses ++ [⟨R.now, j, A⟩]) R.now) → Keep w2 W → W.ownsRow 0 57 3 u1 (xs ++ (tks j R).doses.drop R.doses.length).length ((xs ++ (tks j R).doses.drop R.doses.length).flatMap dsC) →
          w3.ownsRow 0 57 3 v' ((xs ++ (tks j R).doses.drop R.doses.length).length + 1) ((xs ++ (tks j R).doses.drop R.doses.length).flatMap dsC ++ [I R.now, I j, I A]) → W.grownBy w3 u1.ownBlock → (v'.ownBlock = u1.ownBlock ∨ (v'.ownBlock = some W.heap.size ∧ W.grownBy w3 none)) →
          ∃ k' : Nat, k' < gk ∧ ∃ j' : Nat, k' + j' = D.chs.length ∧ I ((j : Int) + 1) = I j' ∧ Hid (∃ ws' ods', OTick w w3 B b D vc vw ods ws' ods' R (tks j' R) xs v')) := by
        intro n A w2 W w3 v' h0 hAA hge hW hrw hown hg hnew
        obtain ⟨ws2, ge⟩ := hge.out
        refine ⟨gk - 1, by omega, j + 1, by omega, by simp, ws2, (shareL R.now j ods' A).1, ?_⟩
        rw [hstep, if_neg (by omega), hAA]
        refine (ht.keep ((Frm.refl _ _).drewN n)).more hBw hrw hle ge (fun x hx => OF_share hx) (shareL_turned ht.trn j A) ?_ hW (d := ⟨R.now, j, A⟩) hown hg hnew rfl
        show dist R.now j (tks j R).os A = _
        rw [ht.os]
        exact dist_of j ods' A (by omega) ht.trn fun o ho hon => (fine.pd (List.mem_filter.2 ⟨ho, hon⟩)).1
      clear hst ht hA hstep hgive rm hv hv2 hv3 ag2 hsame okj hrest hrate hrb hdd hcc hnd hle d0 d2 d3 wn hwnt hpb hgl fine hol' hr0 hr1 eD
      generalize rroom (tks j R).doses R.lims j R.now = m at *
      generalize wnt R.now j c (tks j R).os = r at *
      by_cases q : m < r
      · go_wp2_with fail
        go_quiet ((first | (go_at_call 71; exact Calls.quiet_of (WN.out _)) | (go_at_call 56; exact Calls.quiet_of (RM.out _))))
        have hAA : amt (tks j R) j c = m := by rw [(T.out).2.1, if_pos q]
        have HAA := hide hAA
        clear hAA
        by_cases z : m = 0
        · go_wp2_with fail
          obtain ⟨k', m1, m2⟩ := SKIP.out nq (by rw [HAA.out]; omega)
          go_roundg k'
          case measure => exact m1
          case rel => exact m2
        · have z' : 0 < m := by omega
          go_wp2_with fail
          refine (GV.out m nq hm0 hm1 (Int.le_refl _)).mono ?_
          rintro e w2 ⟨rfl, e0', G⟩
          have HROW := hide (ROW.out nq w2 m #[I R.now, I j, I m] G)
          go_wp2_with (at_builtin; refine wpList_append_row _ rfl _ _ 50 rfl 57 i (.agg #[I 0, I 0, I 0]) 3 24 Tryz.underlying50 hi hz0 hz1 hz2 rfl (by decide) _ _ _ rfl HROW.out ⟨w2.heap.size, 0, none⟩ 1 1 [I R.now, I j, I m] rfl rfl (cell_news _ [I R.now, I j, I m] _ _ (by simp)) (by intro u hu; simp at hu; rcases hu with rfl | rfl | rfl <;> rfl) (by unfold maxLen; omega) (by omega) ?_; intro v' w3 hown hgr hnew; have FI := hide (MORE.out nq m w2 _ w3 v' z' HAA.out G ((Frm.refl _ _).alloc _) HROW.out hown hgr hnew); clear hown hgr hnew)
          obtain ⟨k', m1, m2⟩ := FI.out
          go_roundg k'
          case measure => exact m1
          case rel => exact m2
      · go_wp2_with fail
        go_quiet ((first | (go_at_call 71; exact Calls.quiet_of (WN.out _)) | (go_at_call 56; exact Calls.quiet_of (RM.out _))))
        have hAA : amt (tks j R) j c = r := by rw [(T.out).2.1, if_neg (by omega)]
        have HAA := hide hAA
        clear hAA
        by_cases z : r = 0
        · go_wp2_with fail
          obtain ⟨k', m1, m2⟩ := SKIP.out nq (by rw [HAA.out]; omega)
          go_roundg k'
          case measure => exact m1
          case rel => exact m2
        · have z' : 0 < r := by omega
          go_wp2_with fail
          refine (GV.out r nq hw0 (by omega) (by omega)).mono ?_
          rintro e w2 ⟨rfl, e0', G⟩
          have HROW := hide (ROW.out nq w2 r #[I R.now, I j, I r] G)
          go_wp2_with (at_builtin; refine wpList_append_row _ rfl _ _ 50 rfl 57 i (.agg #[I 0, I 0, I 0]) 3 24 Tryz.underlying50 hi hz0 hz1 hz2 rfl (by decide) _ _ _ rfl HROW.out ⟨w2.heap.size, 0, none⟩ 1 1 [I R.now, I j, I r] rfl rfl (cell_news _ [I R.now, I j, I r] _ _ (by simp)) (by intro u hu; simp at hu; rcases hu with rfl | rfl | rfl <;> rfl) (by unfold maxLen; omega) (by omega) ?_; intro v' w3 hown hgr hnew; have FI := hide (MORE.out nq r w2 _ w3 v' z' HAA.out G ((Frm.refl _ _).alloc _) HROW.out hown hgr hnew); clear hown hgr hnew)
          obtain ⟨k', m1, m2⟩ := FI.out
          go_roundg k'
          case measure => exact m1
          case rel => exact m2
    · have hje : j = D.chs.length := by omega
      have HK := hide (And.intro hje (And.intro (H.out).2.1.nch ht))
      clear hkj hst hje ht
      go_wp2_with fail
      go_ret
      have e := HK.out
      rw [e.1] at e
      exact ⟨u1, ws', ods', rfl, by rw [← e.2.1]; exact e.2.2⟩

end Go.Proofs.YtahiolfelcmikaaGreat

/- Run, with orders. -/
namespace Go.Proofs.YtahiolfelcmikaaGreat
open Go.RowKit

theorem beg_in {w : World} {b : Nat} {D : GSt} {vc vw : Value} {ods : List OrdD} (h : PAt w b D vc vw ods) {o : OrdD} (ho : o ∈ ods) {y : Ent × Nat × Nat} (hy : o.beg = some y) : y.1 ∈ D.es ∧ y.1.tick = o.start := by
  obtain ⟨j, hj⟩ := List.getElem?_of_mem ho
  obtain ⟨e, cc, oc⟩ := y
  have hm : e ∈ begsOf ods := List.mem_filterMap.2 ⟨o, ho, by rw [hy]; rfl⟩
  exact ⟨h.g.perm.mem_iff.2 (List.mem_append_right _ (h.o.xtp.mem_iff.2 (List.mem_append_left _ hm))), (h.o.begs j o e cc oc hj hy).1⟩
theorem fin_in {w : World} {b : Nat} {D : GSt} {vc vw : Value} {ods : List OrdD} (h : PAt w b D vc vw ods) {o : OrdD} (ho : o ∈ ods) {y : Ent × Nat × Nat × Nat} (hy : o.fin = some y) : y.1 ∈ D.es ∧ y.1.tick = o.stop := by
  obtain ⟨j, hj⟩ := List.getElem?_of_mem ho
  obtain ⟨e, cc, oc, pc⟩ := y
  have hm : e ∈ finsOf ods := List.mem_filterMap.2 ⟨o, ho, by rw [hy]; rfl⟩
  exact ⟨h.g.perm.mem_iff.2 (List.mem_append_right _ (h.o.xtp.mem_iff.2 (List.mem_append_right _ hm))), (h.o.fins j o e cc oc pc hj hy).1⟩
theorem end_in {w : World} {b : Nat} {D : GSt} {vc vw : Value} {ods : List OrdD} (h : PAt w b D vc vw ods) {k : Nat} {d : GCh} {e : Ent} {cb : Nat} (hk : D.chs[k]? = some d) (he : d.ent = some (e, cb)) : e ∈ D.es :=
  h.g.perm.mem_iff.2 (List.mem_append_left _ (gents_in_mem hk he))

theorem ORel.tick {w w' : World} {b : Nat} {D D' : GSt} {vc vw : Value} {ods ods1 ods2 : List OrdD} {R : RSt} {ws' : List Wd} (rel : ORel D ods R) (n0 : 0 ≤ R.now) (os1 : (tks R.chs.length R).os = ods1.map toR) (trn1 : ∀ o ∈ ods1, Turned R.now o) (pe : PEnd w w' b { D with ws := ws' } D' vc vw ods1 ods2 R.lims (tks R.chs.length R).doses) : ORel D' ods2 (rtick R) := by
  obtain ⟨s1, s2, s3, s4, s5⟩ := rtick_same R
  have e1 : ({ D with ws := ws' } : GSt).now = R.now := rel.now
  obtain ⟨lie, hp, lock, num, fits, chs, osm, late, foot, frm⟩ := pe
  rw [e1] at hp
  have late : ∀ x ∈ D'.es, R.now + 1 < x.tick := fun x hx => by have := late x hx; rw [e1] at this; exact this
  have fits : Fits D'.ws R.lims (tks R.chs.length R).doses (R.now + 1) := by rw [e1] at fits; exact fits
  have osm : OSame (R.now + 1) ods1 ods2 := by rw [e1] at osm; exact osm
  have chs : CSame (R.now + 1) D.chs D'.chs := by rw [e1] at chs; exact chs
  refine ⟨by rw [hp, s3], by rw [lock, s4]; exact rel.lock, by rw [s4]; exact rel.l0, by rw [s4]; exact rel.l1, ?_, ?_, by rw [s2, s3]; exact fits, ?_, by rw [chs.1, s1]; exact rel.nch, ?_⟩
  · show (tks R.chs.length R).os = _
    rw [os1, osm.toR]
  · rw [s3]
    refine osm.turned trn1 ?_ ?_
    · intro o ho y hy
      obtain ⟨q1, q2⟩ := beg_in lie ho hy
      have := late _ q1; omega
    · intro o ho y hy
      obtain ⟨q1, q2⟩ := fin_in lie ho hy
      have := late _ q1; omega
  · intro d hd
    have := tks_past rel.past R.chs.length d hd
    rw [s3]; omega
  · intro k d c hk hc
    rw [s1] at hc
    rw [s3, s4]
    obtain ⟨d0, hd0, c1, c2, hcase⟩ := chs.2 k d hk
    obtain ⟨r1, r2, r3, r4, r5⟩ := rel.ch k d0 c hd0 hc
    rcases hcase with ⟨q1, q2⟩ | ⟨q1, q2, e, cb, he, ht⟩
    · refine ⟨by rw [c1, r1], ?_, ?_, ?_, by rw [c2, r5]⟩
      · rw [q1, r2]
        cases hent : d.ent with
        | none =>
          have := r3 (by rw [← q2]; exact hent)
          unfold wbase
          by_cases q : c.til < 0
          · simp [q]
          · have q1 : ¬ R.now < c.til := by omega
            have q2 : ¬ R.now + 1 < c.til := by omega
            simp [q, q1, q2]
        | some x =>
          have h1 := late _ (end_in lie hk hent)
          have h2 := r4 x.1 x.2 (by rw [← q2]; exact hent)
          have q1 : R.now < c.til := by omega
          have q2 : R.now + 1 < c.til := by omega
          unfold wbase
          simp [q1, q2]
      · intro hent
        have := r3 (by rw [← q2]; exact hent); omega
      · intro e cb hent
        have h1 := late _ (end_in lie hk hent)
        have h2 := r4 e cb (by rw [← q2]; exact hent)
        exact ⟨h2.1, by omega⟩
    · have h2 := r4 e cb he
      have hp0 : 0 ≤ c.til := by omega
      refine ⟨by rw [c1, r1], ?_, ?_, ?_, by rw [c2, r5]⟩
      · unfold wbase
        have q : ¬ c.til < 0 := by omega
        have q2 : ¬ R.now + 1 < c.til := by omega
        simp [q, q1, q2]
      · intro _; omega
      · intro e' cb' h'; rw [q2] at h'; cases h'

/-- on the way through Run -/
structure RunO (w wr : World) (b : Nat) (D D' : GSt) (vc vw : Value) (ods ods' : List OrdD) (R R' : RSt) (vout : Value) : Prop where
  lie : PAt wr b D' vc vw ods'
  rel : ORel D' ods' R'
  foot : ∀ x, PF b D' vc vw ods' x → PF b D vc vw ods x ∨ w.heap.size ≤ x
  out : wr.ownsRow 0 57 3 vout (R'.doses.drop R.doses.length).length ((R'.doses.drop R.doses.length).flatMap dsC)
  new : ∀ x, vout.ownBlock = some x → w.heap.size ≤ x
  frm : Frm (fun x => PF b D vc vw ods x ∨ w.heap.size ≤ x) w wr

theorem RunO.next {w wr w1 w2 : World} {b : Nat} {D D' D2 : GSt} {vc vw : Value} {ods ods' ods1 ods2 : List OrdD} {R R' : RSt} {vout v1 : Value} {ws' : List Wd} (h : RunO w wr b D D' vc vw ods ods' R R' vout) (n0 : 0 ≤ R'.now) (pre : R.doses <+: R'.doses)
    (ht : OTick wr w1 w.heap.size b D' vc vw ods' ws' ods1 R' (tks R'.chs.length R') (R'.doses.drop R.doses.length) v1) (pe : PEnd w1 w2 b { D' with ws := ws' } D2 vc vw ods1 ods2 R'.lims (tks R'.chs.length R').doses) :
    RunO w w2 b D D2 vc vw ods ods2 R (rtick R') v1 := by
  have f1 : ∀ x, PF b { D' with ws := ws' } vc vw ods1 x → PF b D' vc vw ods' x := fun x hx => pf_sub ht.wf ht.of hx
  have hsz : w.heap.size ≤ w1.heap.size := Nat.le_trans h.frm.size ht.frm.size
  refine ⟨pe.lie, h.rel.tick n0 ht.os ht.trn pe, fun x hx => ?_, ?_, ht.new, ?_⟩
  · rcases pe.foot x hx with q | q
    · exact h.foot x (f1 x q)
    · exact Or.inr (by omega)
  · have e : (rtick R').doses.drop R.doses.length = R'.doses.drop R.doses.length ++ (tks R'.chs.length R').doses.drop R'.doses.length := drop_drop_pre pre (tks_pre _ _)
    rw [e]
    exact row_frm ht.out pe.frm fun x hx hD => ht.lie.noDose hD (row_ty ht.out hx)
  · refine (h.frm.trans (ht.frm.mono fun x _ hx => ?_)).trans (pe.frm.mono fun x _ hx => h.foot x (f1 x hx))
    rcases hx with e | e
    · exact h.foot x e
    · exact Or.inr e

set_option maxRecDepth 100000 in
set_option maxHeartbeats 1600000 in
theorem orun_all (b : Nat) (D : GSt) (vc vw : Value) (ods : List OrdD) (R : RSt) (t : Nat) (w : World) (h : PAt w b D vc vw ods) (rel : ORel D ods R) (ok : R.Ok) (full : R.Full) (h1 : 1 ≤ t) (h2 : t ≤ 100) (h3 : R.now + t ≤ 400) :
    Calls Tryz.prog 23 #[ptr b 0, I t] w fun e w' => ∃ vout D' ods', e = .returned (.tuple #[vout, I 0]) ∧ RunO w w' b D D' vc vw ods ods' R (rticks t R) vout := by
  have WI := hide (within_any t 1 100 w)
  rw [within_yes (by omega) (by omega)] at WI
  obtain ⟨sl, ag⟩ := h.g.ag
  have c0 : w.cell? ⟨b, 0, none⟩ = some (I R.now) := by rw [ag.head.cell, ← rel.now]; rfl
  have n0 := ok.now0
  have hst0 : RunO w w b D D vc vw ods ods R (rticks 0 R) (.slice none 0 0) := ⟨h, rel, fun _ hx => Or.inl hx, by simp [rticks]; exact World.ownsRow_nil .., by simp [Value.ownBlock], Frm.refl _ _⟩
  have H := hide (And.intro ok (And.intro full hst0))
  clear h rel ok full hst0 ag
  go_enter Tryz.func23, Tryz.ntmps23
  go_wp2_with fail
  refine (WI.out).mono ?_
  rintro e w' ⟨rfl, rfl⟩
  go_wp2_with fail
  go_loopg [6, 18] t (fun q vo i wr => ∃ j : Nat, q + j = t ∧ i = I j ∧ Hid (∃ D' ods', RunO w' wr b D D' vc vw ods ods' R (rticks j R) vo))
  case atStart => exact ⟨0, by omega, rfl, D, ods, (H.out).2.2⟩
  case round =>
    obtain ⟨j, hkj, rfl, hst⟩ := hrel
    obtain ⟨D', ods', hr⟩ := hst.out
    by_cases hj : j < t
    · obtain ⟨okj, fullj⟩ := rticks_ok (H.out).1 (H.out).2.1 j (by omega)
      have hnj := (rticks_same j R).2.2.1
      have hpre := rticks_pre j R
      have hdl : (rticks j R).doses.length ≤ 1996 := by
        have : ((rticks j R).doses.length : Int) ≤ 4 * (rticks j R).now := fullj.1
        omega
      have hol : ods'.length ≤ 3300 := by
        have q1 := congrArg List.length hr.rel.os
        simp only [List.length_map] at q1
        have q2 := fullj.2.1
        have q3 := fullj.2.2
        omega
      have gt := ogiveTick_all w'.heap.size b D' vc vw u6 ods' (rticks j R) ((rticks j R).doses.drop R.doses.length) wr hr.lie hr.rel okj (by omega) hdl hol hr.out hr.frm.size hr.new (by simp; omega)
      have ps : ∀ (v1 : Value) (ws' : List Wd) (ods1 : List OrdD) (w1 : World), OTick wr w1 w'.heap.size b D' vc vw ods' ws' ods1 (rticks j R) (tks (rticks j R).chs.length (rticks j R)) ((rticks j R).doses.drop R.doses.length) v1 →
          Calls Tryz.prog 53 #[ptr b 0] w1 fun e w2 => e = .returned (.tuple #[]) ∧ ∃ k' : Nat, k' < gk ∧ ∃ j' : Nat, k' + j' = t ∧ I ((j : Int) + 1) = I j' ∧ Hid (∃ D' ods', RunO w' w2 b D D' vc vw ods ods' R (rticks j' R) v1) := by
        intro v1 ws' ods1 w1 ht
        have e1 : ({ D' with ws := ws' } : GSt).now = (rticks j R).now := hr.rel.now
        have hn0 := okj.now0
        have hol1 : ods1.length ≤ 3300 := by
          have q1 := congrArg List.length ht.os
          have q2 := congrArg List.length hr.rel.os
          have q3 := (tks_same (rticks j R).chs.length (rticks j R)).2.2.2.2
          simp only [List.length_map] at q1 q2
          omega
        refine (opass_all b { D' with ws := ws' } vc vw ods1 (rticks j R).lims (tks (rticks j R).chs.length (rticks j R)).doses w1 ht.lie (by rw [e1]; exact ht.fits) (fun l hl => (okj.lims l hl).w0) (by rw [e1]; exact tks_past hr.rel.past _) (by rw [ht.fits.1]; exact okj.nl) (by rw [show ({ D' with ws := ws' } : GSt).chs.length = D'.chs.length from rfl, hr.rel.nch]; exact okj.nc1) hol1 (by rw [e1]; exact hn0) (by rw [e1]; exact okj.now1)).mono ?_
        rintro e w2 ⟨rfl, D2, ods2, pe⟩
        exact ⟨rfl, gk - 1, by omega, j + 1, by omega, by simp, D2, ods2, hr.next hn0 hpre ht pe⟩
      have GT := hide gt
      have PS := hide ps
      clear gt ps hst hr okj fullj hpre hol
      go_wp2_with fail
      refine (GT.out).mono ?_
      rintro e w1 ⟨v1, ws', ods1, rfl, ht⟩
      have C := hide (PS.out v1 ws' ods1 w1 ht)
      clear ht
      go_wp2_with fail
      refine (C.out).mono ?_
      rintro e w2 ⟨rfl, k', m1, m2⟩
      have M1 := hide m1
      have M2 := hide m2
      clear m1 m2
      go_wp2_with fail
      go_roundg k'
      case measure => exact M1.out
      case rel => exact M2.out
    · have hje : j = t := by omega
      have HK := hide (And.intro hje hr)
      clear hkj hst hje hr
      go_wp2_with fail
      go_ret2
      have e := HK.out
      rw [e.1] at e
      exact ⟨u6, D', ods', rfl, e.2⟩

end Go.Proofs.YtahiolfelcmikaaGreat

/- Basal, Room, Wait, with orders. -/
namespace Go.Proofs.YtahiolfelcmikaaGreat
open Go.RowKit

theorem ORel.olen {D : GSt} {ods : List OrdD} {R : RSt} (rel : ORel D ods R) (ok : R.Ok) (full : R.Full) : ods.length ≤ 3300 := by
  have := full_os ok full
  have q1 := congrArg List.length rel.os
  simp only [List.length_map] at q1
  omega

theorem PAt.esLen {w : World} {b : Nat} {D : GSt} {vc vw : Value} {ods : List OrdD} (h : PAt w b D vc vw ods) (nc : D.chs.length ≤ 4) (ho : ods.length ≤ 3300) : D.es.length ≤ 6604 := by
  have q1 := h.g.perm.length_eq
  have q2 := h.o.xtp.length_eq
  have q3 := gents_len D.chs
  have q4 := begs_len ods
  have q5 := fins_len ods
  simp only [List.length_append] at q1 q2
  omega

theorem ohasCh (b : Nat) (D : GSt) (vc vw : Value) (ods : List OrdD) (R : RSt) (k : Int) (w : World) (h : PAt w b D vc vw ods) (rel : ORel D ods R) (ok : R.Ok) :
    Calls Tryz.prog 55 #[ptr b 0, I k] w fun e w' => e = .returned (.bool (isCh R k)) ∧ w' = w := by
  obtain ⟨sl, ag⟩ := h.g.ag
  obtain ⟨a, cp, hv⟩ := row_slice h.g.chs
  have c2 : w.cell? ⟨b, 2, none⟩ = some (.slice a D.chs.length cp) := by rw [ag.head.cell, ← hv]; rfl
  have hn : D.chs.length ≤ 4 := by rw [rel.nch]; exact ok.nc1
  have e : (decide (0 ≤ k) && decide (k ≤ (D.chs.length : Int) - 1)) = isCh R k := by
    unfold isCh
    rw [rel.nch]
    congr 1
    apply decide_eq_decide.2
    omega
  have := hasCh_any b a D.chs.length cp k w c2 hn
  rw [e] at this
  exact this

set_option maxRecDepth 100000 in
set_option maxHeartbeats 800000 in
theorem oRoom_no (b : Nat) (D : GSt) (vc vw : Value) (ods : List OrdD) (R : RSt) (k : Int) (w : World) (h : PAt w b D vc vw ods) (rel : ORel D ods R) (ok : R.Ok) (hk : isCh R k = false) :
    Calls Tryz.prog 27 #[ptr b 0, I k] w fun e w' => e = .returned (.tuple #[I 0, I 1]) ∧ w' = w := by
  have HC := hide (ohasCh b D vc vw ods R k w h rel ok)
  rw [hk] at HC
  clear h rel ok hk
  go_enter Tryz.func27, Tryz.ntmps27
  go_wp2_with fail
  refine (HC.out).mono ?_
  rintro e w' ⟨rfl, rfl⟩
  go_wp2_with fail
  go_ret2
  exact ⟨rfl, rfl⟩

set_option maxRecDepth 100000 in
set_option maxHeartbeats 800000 in
theorem oRoom_yes (b : Nat) (D : GSt) (vc vw : Value) (ods : List OrdD) (R : RSt) (k : Int) (w : World) (h : PAt w b D vc vw ods) (rel : ORel D ods R) (ok : R.Ok) (hk : isCh R k = true) :
    Calls Tryz.prog 27 #[ptr b 0, I k] w fun e w' => e = .returned (.tuple #[I (rroom R.doses R.lims k.toNat R.now), I 0]) ∧ ∃ n, w' = w.drewN n := by
  have HC := hide (ohasCh b D vc vw ods R k w h rel ok)
  rw [hk] at HC
  obtain ⟨sl, ag⟩ := h.g.ag
  have c3 : w.cell? ⟨b, 3, none⟩ = some vw := by rw [ag.head.cell]; rfl
  have hk' := isCh_true hk
  have hc4 := ok.nc1
  have RM := hide (room_any b vw D.ws R.lims R.doses R.now k w c3 h.g.ws rel.fits hk'.1 (by omega) (by rw [rel.fits.1]; exact ok.nl))
  clear h rel ok hk ag c3 hk' hc4
  go_enter Tryz.func27, Tryz.ntmps27
  go_wp2_with fail
  refine (HC.out).mono ?_
  rintro e w' ⟨rfl, rfl⟩
  go_wp2_with fail
  refine (RM.out).mono ?_
  rintro e w2 ⟨rfl, n, rfl⟩
  go_wp2_with fail
  go_ret2
  exact ⟨rfl, n, rfl⟩

set_option maxRecDepth 100000 in
set_option maxHeartbeats 800000 in
theorem oWait_no (b : Nat) (D : GSt) (vc vw : Value) (ods : List OrdD) (R : RSt) (k a : Int) (w : World) (h : PAt w b D vc vw ods) (rel : ORel D ods R) (ok : R.Ok) (hk : isCh R k = false ∨ a < 0 ∨ 1000 < a) :
    Calls Tryz.prog 29 #[ptr b 0, I k, I a] w fun e w' => e = .returned (.tuple #[I 0, .bool false, I 1]) ∧ w' = w := by
  have HC := hide (ohasCh b D vc vw ods R k w h rel ok)
  have WI := hide (within_any a 0 1000 w)
  clear h rel ok
  cases hh : isCh R k with
  | false =>
    rw [hh] at HC
    go_enter Tryz.func29, Tryz.ntmps29
    go_wp2_with (go_at_call 55; refine (HC.out).mono ?_; rintro e w' ⟨rfl, rfl⟩)
    go_ret3
    exact ⟨rfl, rfl⟩
  | true =>
    rw [hh] at HC
    have ha : a < 0 ∨ 1000 < a := by
      rcases hk with h | h
      · rw [hh] at h; cases h
      · exact h
    rw [within_no ha] at WI
    go_enter Tryz.func29, Tryz.ntmps29
    go_wp2_with (first | (go_at_call 55; refine (HC.out).mono ?_; rintro e w' ⟨rfl, hw⟩; subst hw) | (go_at_call 51; refine (WI.out).mono ?_; rintro e w' ⟨rfl, hw⟩; subst hw))
    go_ret3
    exact ⟨rfl, rfl⟩

set_option maxRecDepth 100000 in
set_option maxHeartbeats 800000 in
theorem oWait_yes (b : Nat) (D : GSt) (vc vw : Value) (ods : List OrdD) (R : RSt) (k a : Int) (w : World) (h : PAt w b D vc vw ods) (rel : ORel D ods R) (ok : R.Ok) (hk : isCh R k = true) (a0 : 0 ≤ a) (a1 : a ≤ 1000) :
    Calls Tryz.prog 29 #[ptr b 0, I k, I a] w fun e w' => (∃ r, e = .returned (waitV r) ∧ WaitOk R k.toNat a r) ∧ ∃ n, w' = w.drewN n := by
  have HC := hide (ohasCh b D vc vw ods R k w h rel ok)
  rw [hk] at HC
  have WI := hide (within_any a 0 1000 w)
  rw [within_yes a0 a1] at WI
  obtain ⟨sl, ag⟩ := h.g.ag
  have c3 : w.cell? ⟨b, 3, none⟩ = some vw := by rw [ag.head.cell]; rfl
  have hk' := isCh_true hk
  have hc4 := ok.nc1
  have WT := hide (wait_any b vw D.ws R k a w c3 h.g.ws rel.fits ok (fun d hd => by have := rel.past d hd; omega) hk'.1 (by omega) a0 a1)
  clear h rel ok hk ag c3 hk' hc4
  go_enter Tryz.func29, Tryz.ntmps29
  go_wp2_with (first | (go_at_call 55; refine (HC.out).mono ?_; rintro e w' ⟨rfl, hw⟩; subst hw) | (go_at_call 51; refine (WI.out).mono ?_; rintro e w' ⟨rfl, hw⟩; subst hw) | fail)
  refine (WT.out).mono ?_
  rintro e w2 ⟨⟨r, rfl, hr⟩, n, rfl⟩
  have HR := hide hr
  clear hr
  cases r with
  | none =>
    simp only [wVal]
    go_wp2_with fail
    go_ret3
    exact ⟨⟨none, rfl, HR.out⟩, n, rfl⟩
  | some q =>
    simp only [wVal]
    go_wp2_with fail
    go_ret3
    exact ⟨⟨some q, rfl, HR.out⟩, n, rfl⟩

set_option maxRecDepth 100000 in
set_option maxHeartbeats 800000 in
theorem oBasal_no (b : Nat) (D : GSt) (vc vw : Value) (ods : List OrdD) (R : RSt) (k rate ticks : Int) (w : World) (h : PAt w b D vc vw ods) (rel : ORel D ods R) (ok : R.Ok) (hb : basalBad R k rate ticks = true) :
    Calls Tryz.prog 34 #[ptr b 0, I k, I rate, I ticks] w fun e w' => e = .returned (I 1) ∧ w' = w := by
  have HC := hide (ohasCh b D vc vw ods R k w h rel ok)
  have W1 := hide (within_any rate 0 1000 w)
  have W2 := hide (within_any ticks 0 400 w)
  clear h rel ok
  cases hh : isCh R k with
  | false =>
    rw [hh] at HC
    clear hb
    go_enter Tryz.func34, Tryz.ntmps34
    go_wp2_with (go_at_call 55; refine (HC.out).mono ?_; rintro e w' ⟨rfl, rfl⟩)
    go_ret
    exact ⟨rfl, rfl⟩
  | true =>
    rw [hh] at HC
    by_cases q1 : rate < 0 ∨ 1000 < rate
    · rw [within_no q1] at W1
      clear hb q1
      go_enter Tryz.func34, Tryz.ntmps34
      go_wp2_with (first | (go_at_call 55; refine (HC.out).mono ?_; rintro e w' ⟨rfl, hw⟩; subst hw) | (go_at_call 51; refine (W1.out).mono ?_; rintro e w' ⟨rfl, hw⟩; subst hw))
      go_ret
      exact ⟨rfl, rfl⟩
    · have q2 : ticks < 0 ∨ 400 < ticks := by
        simp [basalBad, hh] at hb
        omega
      rw [within_yes (by omega) (by omega)] at W1
      rw [within_no q2] at W2
      clear hb q1 q2
      go_enter Tryz.func34, Tryz.ntmps34
      go_wp2_with (go_at_call 55; refine (HC.out).mono ?_; rintro e w' ⟨rfl, hw⟩; subst hw)
      refine (W1.out).mono ?_
      rintro e w1 ⟨rfl, hw⟩
      subst hw
      go_wp2_with fail
      refine (W2.out).mono ?_
      rintro e w2 ⟨rfl, hw⟩
      subst hw
      go_wp2_with fail
      go_ret
      exact ⟨rfl, rfl⟩

/-- Cancel of a channel's end -/
theorem ocancel_ch (b : Nat) (D : GSt) (vc vw : Value) (w W : World) (h : GAt w b D vc vw) (nc : D.es.length ≤ 6604) (k : Nat) (c : GCh) (r : Int) (hk : D.chs[k]? = some c) (hW : Keep w W) (hh : W.heap = w.heap) :
    Calls Tryz.prog 59 #[ptr b 4, endV c.ent] W fun e w' => e = .returned (.tuple #[]) ∧ ∃ sl es', AgAt w' b 4 (gCells D.now D.lock vc vw sl D.num D.vo D.nv) 94 D.eb es' ∧ HeapN es'.length es' ∧ (∀ e ∈ es', e ∈ D.es) ∧ es'.Perm (gents (D.chs.set k { c with rate := r, ent := none }) ++ D.xt) ∧ Frm (AgF b D.eb D.es) w w' := by
  obtain ⟨sl, ag⟩ := h.ag
  have agW := ag.heapEq hh
  cases hent : c.ent with
  | none =>
    refine (cancel_nil b 4 W).mono ?_
    rintro e w' ⟨rfl, m, rfl⟩
    refine ⟨rfl, sl, D.es, agW.heapEq rfl, h.heap, fun _ he => he, by rw [gents_same { c with rate := r, ent := none } rfl D.chs k c hk hent]; exact h.perm, (hW.mono fun _ _ e => e.elim).drewN m⟩
  | some y =>
    obtain ⟨x, cb⟩ := y
    have hm : x ∈ D.es := h.perm.mem_iff.2 (List.mem_append_left _ (gents_in_mem hk hent))
    obtain ⟨i, hi⟩ := List.getElem?_of_mem hm
    refine (cancel_in b 4 _ 94 D.eb D.es i x W agW h.heap hi (by omega)).mono ?_
    rintro e w' ⟨rfl, e', -, sl', es', p, ag', pm, hp', hbx, hlp, fr⟩
    rw [gCells_sl] at ag'
    refine ⟨rfl, sl', es', ag', hp', fun e he => pm.mem_iff.2 (List.mem_cons_of_mem _ he), ?_, (hW.mono fun _ _ e => e.elim).trans fr⟩
    have q1 : (x :: es').Perm (x :: (gents (D.chs.set k { c with rate := r, ent := none }) ++ D.xt)) := (pm.symm.trans h.perm).trans ((gents_out (cb := cb) { c with rate := r, ent := none } rfl D.chs k c hk hent).append_right D.xt)
    exact q1.cons_inv

/-- a channel is another one -/
theorem ORel.setch {D D' : GSt} {ods : List OrdD} {R : RSt} {k : Nat} {c c' : RCh} {d' : GCh} (rel : ORel D ods R) (hc : R.chs[k]? = some c) (h1 : D'.now = D.now) (h2 : D'.lock = D.lock) (h3 : D'.ws = D.ws) (h4 : D'.chs = D.chs.set k d')
    (h5 : OChRel R.now R.lock d' c') : ORel D' ods { R with chs := R.chs.set k c' } := by
  have hkl : k < R.chs.length := (List.getElem?_eq_some_iff.1 hc).1
  have hn := rel.nch
  refine ⟨h1.trans rel.now, h2.trans rel.lock, rel.l0, rel.l1, rel.os, rel.trn, by rw [h3]; exact rel.fits, rel.past, by rw [h4]; simp [hn], ?_⟩
  intro j x y hx hy
  have hy : (R.chs.set k c')[j]? = some y := hy
  rw [h4] at hx
  by_cases q : k = j
  · subst q
    rw [List.getElem?_set_self (by omega)] at hx hy
    simp at hx hy
    subst hx; subst hy
    exact h5
  · rw [List.getElem?_set_ne q] at hx hy
    exact rel.ch j x y hx hy

/-- what a call leaves -/
def Goes (w : World) (b : Nat) (D : GSt) (vc vw : Value) (ods : List OrdD) (R : RSt) (w' : World) : Prop :=
  ∃ D' ods', PAt w' b D' vc vw ods' ∧ ORel D' ods' R ∧ (∀ x, PF b D' vc vw ods' x → PF b D vc vw ods x ∨ w.heap.size ≤ x) ∧ Frm (PF b D vc vw ods) w w'

theorem Goes.drewN {w w' : World} {b : Nat} {D : GSt} {vc vw : Value} {ods : List OrdD} {R : RSt} (h : Goes w b D vc vw ods R w') (n : Nat) : Goes w b D vc vw ods R (w'.drewN n) := by
  obtain ⟨D', ods', h1, h2, h3, h4⟩ := h
  exact ⟨D', ods', h1.keep ((Frm.refl _ _).drewN n), h2, h3, h4.drewN n⟩

end Go.Proofs.YtahiolfelcmikaaGreat
