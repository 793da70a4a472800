/- Continued: what is known of a pump that is opened from another one's journal. -/
import Derived.Test.YtpilmkipbbengaaGreatDoorKaM
import Derived.Test.YtpilmkipbbengaaGreatDoorKeM
import Derived.Test.YtpilmkipbbengaaGreatDoorJaM
namespace Go.Proofs.YtpilmkipbbengaaGreatDoor
open Go.RowKit Go.Lib

theorem KOk.jok {R : RSt} (h : KOk R) (hc : ∀ d ∈ R.doses, d.ch < 3) : JOk 3 ds0 R.doses R.now := by
  have n0 := h.ok.now0
  refine ⟨List.pairwise_cons.2 ⟨fun d hd => ?_, h.told.rise⟩, fun d hd => ?_, ?_, n0, h.ok.now1⟩
  · have := (h.ok.doses d hd).t0
    exact Or.inl (by show (-1 : Int) < d.tick; omega)
  · have o := h.ok.doses d hd
    exact ⟨o.t0, h.told.past d hd, o.c0, hc d hd, o.a0, o.a1⟩
  · show (-1 : Int) < R.now; omega

theorem gv_pre {ds es : List Ds} (h : ds <+: es) (ok : ∀ d ∈ es, d.Ok) (l : Lim) (f t : Int) : gv ds l f t ≤ gv es l f t := by
  obtain ⟨r, rfl⟩ := h
  have := (gv_bd (ds := r) (l := l) (f := f) (t := t) fun d hd => ok d (List.mem_append_right _ hd)).1
  have e : gv (ds ++ r) l f t = gv ds l f t + gv r l f t := by simp [gv]
  omega

theorem safe_brk {lims : List Lim} {es : List Ds} (safe : SafeL es lims) (hok : ∀ d ∈ es, d.Ok) (hw : ∀ l ∈ lims, 1 ≤ l.win) : ∀ (ds done : List Ds), es = done ++ ds → jbrk lims done ds = 0 := by
  intro ds
  induction ds with
  | nil => intro done _; rfl
  | cons d ds ih =>
    intro done he
    rw [jbrk, if_neg]
    · exact ih (done ++ [d]) (by rw [he]; simp)
    · have hd : d.Ok := hok d (by rw [he]; simp)
      have hge : d.amt ≤ rroom done lims d.ch.toNat d.tick := by
        refine (room_ge lims 1000).2 ⟨hd.a1, fun l hl hc => ?_⟩
        have h1 := safe l hl d.tick
        have hp : done ++ [d] <+: es := ⟨ds, by rw [he]; simp⟩
        have h2 := gv_pre hp hok l (d.tick - l.win + 1) d.tick
        have hww := hw l hl
        rw [gv_snoc] at h2
        have h3 : gd l (d.tick - l.win + 1) d.tick d = d.amt := by
          unfold gd
          rw [if_pos]
          simp only [hc, Bool.true_and, Bool.and_eq_true, decide_eq_true_eq]
          omega
        unfold lft at h1 ⊢
        omega
      omega

/-- so many channels go on -/
def qch : Nat → List RCh
  | 0 => [chR, chR, chR]
  | 1 => [ch0, chR, chR]
  | 2 => [ch0, ch0, chR]
  | _ => [ch0, ch0, ch0]

def qR (R : RSt) (j : Nat) : RSt := ⟨R.lims, R.lock, R.now, R.doses, qch j, []⟩

theorem qR_zero (R : RSt) : ropen 3 R.lims R.lock R.doses R.now = qR R 0 := rfl

theorem qR_err (R : RSt) (j : Nat) (h : j < 3) : restsErr (qR R j) j false = 0 := by
  have : j = 0 ∨ j = 1 ∨ j = 2 := by omega
  rcases this with rfl | rfl | rfl <;> rfl

theorem qR_next (R : RSt) (j : Nat) (h : j < 3) : restsR (qR R j) j false = qR R (j + 1) := by
  have : j = 0 ∨ j = 1 ∨ j = 2 := by omega
  rcases this with rfl | rfl | rfl <;> rfl

theorem qR_room (R : RSt) (j : Nat) (k : Nat) (hk : k < 3) (hn : R.chs.length = 3) : roomV (qR R j) k = .tuple #[I (rroom R.doses R.lims k R.now), I 0] ∧ roomV R k = .tuple #[I (rroom R.doses R.lims k R.now), I 0] := by
  have h1 : isCh R k = true := by simp [isCh, hn]; omega
  have h2 : isCh (qR R j) k = true := by
    have : (qch j).length = 3 := by unfold qch; split <;> rfl
    simp only [isCh, qR, this]
    simp; omega
  unfold roomV
  rw [if_pos h1, if_pos h2]
  simp [qR]

theorem qR_ok {R : RSt} (h : KOk R) (hf : fineB 3 R.lims R.lock = true) (hj : JOk 3 ds0 R.doses R.now) : ∀ j, j ≤ 3 → KOk (qR R j) := by
  have h0 : (qR R 0).Ok ∧ (qR R 0).Full := by
    rw [← qR_zero]
    exact ropen_ok (c := 3) hf hj
  have key : ∀ j, j ≤ 3 → (qR R j).Ok ∧ (qR R j).Full := by
    intro j
    induction j with
    | zero => intro _; exact h0
    | succ j ih =>
      intro hj
      have := restsR_ok (ih (by omega)).1 (ih (by omega)).2 j false
      rwa [qR_next R j (by omega)] at this
  intro j hj
  exact ⟨(key j hj).1, (key j hj).2, ⟨h.told.safe, h.told.rise, h.told.past⟩, by show (qch j).length = 3; unfold qch; split <;> rfl⟩

/-- the text up to its last line -/
theorem jtext_body (ds : List Ds) (now : Int) : jtext ds now = (ds.flatMap fun d => jline d ++ [10]) ++ (jlast now ++ [10]) := rfl

end Go.Proofs.YtpilmkipbbengaaGreatDoor

/- Doses are of channels that there are. -/
namespace Go.Proofs.YtpilmkipbbengaaGreatDoor
open Go.RowKit

def ChOk (R : RSt) : Prop := ∀ d ∈ R.doses, d.ch < R.chs.length

theorem tks_ch {R : RSt} (h : ChOk R) : ∀ j, ∀ d ∈ (tks j R).doses, d.ch < R.chs.length := by
  intro j
  induction j with
  | zero => exact h
  | succ j ih =>
    intro d hd
    have hd : d ∈ (tk1 j (tks j R)).doses := hd
    rcases tk1_ds j (tks j R) with e | ⟨c, a, hc, -, -, -, e⟩
    · rw [e] at hd; exact ih d hd
    · rw [e] at hd
      rcases List.mem_append.1 hd with q | q
      · exact ih d q
      · simp at q; subst q
        rw [(tks_same j R).1] at hc
        have := (List.getElem?_eq_some_iff.1 hc).1
        show (j : Int) < _
        omega

theorem rticks_ch {R : RSt} (h : ChOk R) : ∀ n, ChOk (rticks n R) := by
  intro n
  induction n with
  | zero => exact h
  | succ n ih =>
    intro d hd
    have hd : d ∈ (tks (rticks n R).chs.length (rticks n R)).doses := hd
    have := tks_ch ih _ d hd
    have e : (rticks (n + 1) R).chs.length = (rticks n R).chs.length := by
      show (rtick (rticks n R)).chs.length = _
      rw [(rtick_same (rticks n R)).1]
    rw [e]; exact this

theorem runR_ch {R : RSt} (h : ChOk R) (t : Int) : ChOk (runR R t) := by
  unfold runR; split
  · exact rticks_ch h _
  · exact h

theorem Still.ch {R R' : RSt} (s : Still R R') (h : ChOk R) : ChOk R' := by
  intro d hd
  rw [s.doses] at hd
  rw [s.nch]
  exact h d hd

theorem restsR_kstill (R : RSt) (k : Int) (yes : Bool) : Still R (restsR R k yes) := by
  unfold restsR
  split
  · split
    · exact Still.refl R
    · exact ⟨rfl, rfl, rfl, rfl, by simp⟩
  · exact Still.refl R

def paC (pa : Rep) : Rep := fun w F b R => pa w F b R ∧ ChOk R

theorem Moved.c {pa : Rep} {w w' : World} {F : Nat → Prop} {b : Nat} {R R' : RSt} (h : Moved pa w F b R' w') (hc : ChOk R) (s : Still R R') : Moved (paC pa) w F b R' w' := by
  obtain ⟨h1, F', h2, h3⟩ := h
  exact ⟨h1, F', ⟨h2, s.ch hc⟩, h3⟩

theorem Pumpy.c {fNew fBasal fRun fRoom fWait : FuncId} {pa : Rep} (P : Pumpy fNew fBasal fRun fRoom fWait pa) : Pumpy fNew fBasal fRun fRoom fWait (paC pa) where
  frm := fun h f hs => ⟨P.frm h.1 f hs, h.2⟩
  lt := fun h => P.lt h.1
  new := fun c a lims cap lock w h1 h2 h3 => (P.new c a lims cap lock w h1 h2 h3).mono fun _ _ q => by
    obtain ⟨k, q | ⟨hf, b, F, he, hp, hF⟩⟩ := q
    · exact ⟨k, Or.inl q⟩
    · exact ⟨k, Or.inr ⟨hf, b, F, he, ⟨hp, by intro d hd; simp [rnew] at hd⟩, hF⟩⟩
  basal := fun k rate ticks w F b R h ok full => (P.basal k rate ticks w F b R h.1 ok full).mono fun _ _ q => ⟨q.1, q.2.c h.2 (basalR_still R k rate ticks)⟩
  run := fun t w F b R h ok full => (P.run t w F b R h.1 ok full).mono fun _ _ ⟨vout, h1, h2, h3, F', h4, h5⟩ => ⟨vout, h1, h2, h3, F', ⟨h4, runR_ch h.2 t⟩, h5⟩
  room := fun k w F b R h ok full => (P.room k w F b R h.1 ok full).mono fun _ _ q => ⟨q.1, q.2.c h.2 (Still.refl R)⟩
  wait := fun k a w F b R h ok full => (P.wait k a w F b R h.1 ok full).mono fun _ _ q => ⟨q.1, q.2.c h.2 (Still.refl R)⟩

theorem Orderly.c {fOrder fDemand fRest fPause fResume : FuncId} {pa : Rep} (O : Orderly fOrder fDemand fRest fPause fResume pa) : Orderly fOrder fDemand fRest fPause fResume (paC pa) where
  order := fun k a d t w F b R h ok full => (O.order k a d t w F b R h.1 ok full).mono fun _ _ q => ⟨q.1, q.2.c h.2 (orderR_still R k a d t).1⟩
  demand := fun k a w F b R h ok full => (O.demand k a w F b R h.1 ok full).mono fun _ _ q => ⟨q.1, q.2.c h.2 (demandR_still R k a).1⟩
  rest := fun j w F b R h ok full => (O.rest j w F b R h.1 ok full).mono fun _ _ q => ⟨q.1, q.2.c h.2 (Still.refl R)⟩
  pause := fun k w F b R h ok full => (O.pause k w F b R h.1 ok full).mono fun _ _ q => ⟨q.1, q.2.c h.2 (restsR_kstill R k true)⟩
  resume := fun k w F b R h ok full => (O.resume k w F b R h.1 ok full).mono fun _ _ q => ⟨q.1, q.2.c h.2 (restsR_kstill R k false)⟩

end Go.Proofs.YtpilmkipbbengaaGreatDoor

/- Continued: both pumps in memory. -/
namespace Go.Proofs.YtpilmkipbbengaaGreatDoor
open Go.RowKit

def kvU (qb : Nat) (v vd : Value) (R : RSt) : KV := ⟨.pointer (some ⟨qb, 0, none⟩), v, vd, R.lims, R.lock, R.doses, R.now, false, false, false⟩

structure CSt (pa : Rep) (w wr : World) (rb pb ub qb : Nat) (R Q : RSt) (v vd : Value) : Prop where
  keep : Keep w wr
  rbl : ∃ rc : Array Value, Blk wr rb rc 38 ∧ rc[0]? = some (.pointer (some ⟨pb, 0, none⟩))
  ru : KRd wr ub (kvU qb v vd R)
  ub0 : w.heap.size ≤ ub
  vd0 : ∀ x, vd.ownBlock = some x → w.heap.size ≤ x
  ex : ∃ F G, pa wr F pb R ∧ pa wr G qb Q ∧ (∀ x, G x → ¬ F x) ∧ (∀ x, (x = rb ∨ x = ub ∨ v.ownBlock = some x ∨ vd.ownBlock = some x) → ¬ F x ∧ ¬ G x) ∧ (∀ x, F x → w.heap.size ≤ x) ∧ (∀ x, G x → w.heap.size ≤ x)

section
variable {fBasal fRun fRoom fWait : FuncId} {pa : Rep} {w wr : World} {rb pb ub qb : Nat} {R Q : RSt} {v vd : Value}

theorem CSt.lts (h : CSt pa w wr rb pb ub qb R Q v vd) : ∀ x, (x = rb ∨ x = ub ∨ v.ownBlock = some x ∨ vd.ownBlock = some x) → x < wr.heap.size := by
  obtain ⟨rc, h1, -⟩ := h.rbl
  rintro x (e | e | e | e)
  · rw [e]; exact h1.lt
  · rw [e]; exact h.ru.head.lt
  · exact (h.ru.lims.lt x e).2
  · exact (h.ru.row.lt x e).2

theorem CSt.onL (P : Pumpw fBasal fRun fRoom fWait pa) {f : FuncId} {args : Array Value} {e0 : Ending} (h : CSt pa w wr rb pb ub qb R Q v vd) (hc : ∀ F, pa wr F pb R → Calls Tryz.prog f args wr fun e w2 => e = e0 ∧ Moved pa wr F pb R w2) :
    Calls Tryz.prog f args wr fun e w2 => e = e0 ∧ CSt pa w w2 rb pb ub qb R Q v vd := by
  have hlt := h.lts
  obtain ⟨F, G, hF, hG, hGF, hoff, hF0, hG0⟩ := h.ex
  refine (hc F hF).mono ?_
  rintro e w2 ⟨he, f, F', p, q⟩
  have sz := h.keep.size
  obtain ⟨rc, h1, h2⟩ := h.rbl
  refine ⟨he, h.keep.trans2 f fun x hx e => by have := hF0 x e; omega, ⟨rc, h1.frm f (hoff rb (Or.inl rfl)).1, h2⟩, h.ru.frm f (hoff ub (Or.inr (Or.inl rfl))).1 (fun x hx => (hoff x (Or.inr (Or.inr (Or.inr hx)))).1) (fun x hx => (hoff x (Or.inr (Or.inr (Or.inl hx)))).1), h.ub0, h.vd0, F', G, p, P.frm hG f hGF, ?_, ?_, ?_, hG0⟩
  · intro x hx e
    rcases q x e with r | r
    · exact hGF x hx r
    · have := P.lt hG x hx; omega
  · intro x hx
    refine ⟨fun e => ?_, (hoff x hx).2⟩
    rcases q x e with r | r
    · exact (hoff x hx).1 r
    · have := hlt x hx; omega
  · intro x hx
    rcases q x hx with r | r
    · exact hF0 x r
    · omega

theorem CSt.onR (P : Pumpw fBasal fRun fRoom fWait pa) {f : FuncId} {args : Array Value} {e0 : Ending} {Q' : RSt} (h : CSt pa w wr rb pb ub qb R Q v vd) (hc : ∀ G, pa wr G qb Q → Calls Tryz.prog f args wr fun e w2 => e = e0 ∧ Moved pa wr G qb Q' w2) :
    Calls Tryz.prog f args wr fun e w2 => e = e0 ∧ CSt pa w w2 rb pb ub qb R Q' v vd := by
  have hlt := h.lts
  obtain ⟨F, G, hF, hG, hGF, hoff, hF0, hG0⟩ := h.ex
  refine (hc G hG).mono ?_
  rintro e w2 ⟨he, f, G', p, q⟩
  have sz := h.keep.size
  obtain ⟨rc, h1, h2⟩ := h.rbl
  refine ⟨he, h.keep.trans2 f fun x hx e => by have := hG0 x e; omega, ⟨rc, h1.frm f (hoff rb (Or.inl rfl)).2, h2⟩, h.ru.frm f (hoff ub (Or.inr (Or.inl rfl))).2 (fun x hx => (hoff x (Or.inr (Or.inr (Or.inr hx)))).2) (fun x hx => (hoff x (Or.inr (Or.inr (Or.inl hx)))).2), h.ub0, h.vd0, F, G', P.frm hF f (fun x hx e => hGF x e hx), p, ?_, ?_, hF0, ?_⟩
  · intro x hx e
    rcases q x hx with r | r
    · exact hGF x r e
    · have := P.lt hF x e; omega
  · intro x hx
    refine ⟨(hoff x hx).1, fun e => ?_⟩
    rcases q x e with r | r
    · exact (hoff x hx).2 r
    · have := hlt x hx; omega
  · intro x hx
    rcases q x hx with r | r
    · exact hG0 x r
    · omega

theorem CSt.made (P : Pumpw fBasal fRun fRoom fWait pa) {wA w2 w4 W5 w6 : World} {F G : Nat → Prop} {vl vdr v' : Value} (hk : KAt pa (fun x => wA.heap.size ≤ x) w2 rb pb F R vl vdr) (kA : Keep w wA) (k24 : Keep w2 w4) (hG : pa w4 G qb Q) (hGn : ∀ x, G x → w2.heap.size ≤ x)
    (hv : w4.ownsRow 0 60 3 v R.lims.length (R.lims.flatMap limC)) (hvA : ∀ x, v.ownBlock = some x → x < wA.heap.size) (f2 : Keep wA w2) (k45 : Keep w4 W5) (hu : Blk W5 ub #[.pointer (some ⟨qb, 0, none⟩), I 3, v, I R.lock, .slice none 0 0, I R.now, .bool false, .bool false, .bool false] 38) (hub : w4.heap.size ≤ ub)
    (hown : w6.ownsRow 0 100 3 v' R.doses.length (R.doses.flatMap dsC)) (hg : W5.grownBy w6 none) (hnew : v'.ownBlock = none ∨ v'.ownBlock = some W5.heap.size) : CSt pa w (w6.setCell ⟨ub, 4, none⟩ v') rb pb ub qb R Q v v' := by
  have sA := kA.size
  have s2 := f2.size
  have s4 := k24.size
  have s5 := k45.size
  have k6 : Keep W5 w6 := (grown_frm hg).mono fun x _ e => by cases e
  have hub5 := hu.lt
  have vn : ∀ x, v'.ownBlock = some x → W5.heap.size ≤ x := by
    intro x hx
    rcases hnew with e | e
    · rw [e] at hx; cases hx
    · rw [e] at hx; injection hx with hx; omega
  have fs : Frm (fun x => x = ub) w6 (w6.setCell ⟨ub, 4, none⟩ v') := Frm.setCell (S := fun x => x = ub) (Frm.refl _ _) (p := ⟨ub, 4, none⟩) rfl v'
  have k46 : Keep w4 w6 := k45.trans k6
  have bu := (k6.blk hu).set 4 v'
  have ltF := P.lt hk.pump
  have ltG := P.lt hG
  have hrb := hk.rd.head.lt
  have hlf := hk.lf
  have hlb : wA.heap.size ≤ rb := hk.lb
  refine ⟨?_, ⟨_, ((show Keep w2 w6 from k24.trans k46).blk hk.rd.head).frm fs (by show rb ≠ ub; omega), rfl⟩, ⟨bu, ?_, ?_⟩, by omega, fun x hx => by have := vn x hx; omega, F, G, ?_, ?_, ?_, ?_, ?_, ?_⟩
  · exact ((kA.trans f2).trans (k24.trans k46)).trans2 fs fun x hx e => by omega
  · exact row_frm (row_frm hv k46 (fun _ _ e => e)) fs fun x hx e => by have := hvA x hx; omega
  · exact row_frm hown fs fun x hx e => by have := vn x hx; omega
  · exact P.frm (P.frm (P.frm hk.pump k24 (fun _ _ e => e)) k46 (fun _ _ e => e)) fs fun x hx e => by have := ltF x hx; omega
  · exact P.frm (P.frm hG k46 (fun _ _ e => e)) fs fun x hx e => by have := ltG x hx; omega
  · intro x hx e
    have := hGn x hx
    have := ltF x e
    omega
  · rintro x (e | e | e | e)
    · subst e
      exact ⟨hk.fr, fun e => by have := hGn _ e; omega⟩
    · subst e
      exact ⟨fun e => by have := ltF _ e; omega, fun e => by have := ltG _ e; omega⟩
    · have := hvA x e
      exact ⟨fun e => by have : wA.heap.size ≤ x := hlf x e; omega, fun e => by have := hGn _ e; omega⟩
    · have := vn x e
      exact ⟨fun e => by have := ltF _ e; omega, fun e => by have := ltG _ e; omega⟩
  · intro x hx
    have : wA.heap.size ≤ x := hlf x hx
    omega
  · intro x hx
    have := hGn x hx
    omega

/-- all channels go on: a Run as any other -/
theorem CSt.run (h : CSt pa w wr rb pb ub qb R (qR R 3) v vd) : KGo (paX pa qb R.doses) (fun x => w.heap.size ≤ x) w wr ub (qR R 3) := by
  obtain ⟨F, G, hF, hG, hGF, hoff, hF0, hG0⟩ := h.ex
  refine ⟨h.keep.mono fun _ _ e => e.elim, qb, G, v, vd, ?_⟩
  exact ⟨h.ru, ⟨hG, rfl, List.prefix_refl _⟩, (hoff ub (Or.inr (Or.inl rfl))).2, fun x hx e => (hoff x (Or.inr (Or.inr (Or.inr e)))).2 hx, fun x hx e => (hoff x (Or.inr (Or.inr (Or.inl e)))).2 hx, h.ub0, hG0, h.vd0⟩

end

end Go.Proofs.YtpilmkipbbengaaGreatDoor

/- Continued: where the last line begins. -/
namespace Go.Proofs.YtpilmkipbbengaaGreatDoor
open Go.RowKit Go.Lib

/-- what stands ahead of the last line -/
def jhead (ds : List Ds) : List UInt8 := ds.flatMap fun d => jline d ++ [10]
theorem jtext_head (ds : List Ds) (now : Int) : jtext ds now = jhead ds ++ (61 :: 32 :: (jdig now ++ [10])) := by
  simp [jtext, jhead, jlast]
theorem jhead_pre {a b : List Ds} (h : a <+: b) : ∃ r, jhead b = jhead a ++ r := by
  obtain ⟨r, rfl⟩ := h
  exact ⟨jhead r, by simp [jhead]⟩

/-- where the last line's sign is looked for -/
structure JEq (s : List UInt8) (n from_ : Nat) : Prop where
  lo : n + 1 ≤ from_
  hi : from_ ≤ s.length
  no : ∀ i c, from_ ≤ i → s[i]? = some c → c ≠ 61

theorem jeq_start (ds : List Ds) (now : Int) : JEq (jtext ds now) (jhead ds).length (jtext ds now).length := by
  refine ⟨by rw [jtext_head]; simp, Nat.le_refl _, fun i c hi hc => ?_⟩
  have := (List.getElem?_eq_some_iff.1 hc).1
  omega

theorem jeq_at (ds : List Ds) (now : Int) : (jtext ds now)[(jhead ds).length]? = some 61 := by
  rw [jtext_head, List.getElem?_append_right (Nat.le_refl _), Nat.sub_self]
  rfl

theorem jeq_next {ds : List Ds} {now : Int} {f : Nat} {c : UInt8} (h : JEq (jtext ds now) (jhead ds).length f) (hc : (jtext ds now)[f - 1]? = some c) (hn : c ≠ 61) : JEq (jtext ds now) (jhead ds).length (f - 1) := by
  have l := h.lo
  have u := h.hi
  have hne : f ≠ (jhead ds).length + 1 := by
    intro e
    rw [e] at hc
    simp only [Nat.add_sub_cancel] at hc
    rw [jeq_at] at hc
    injection hc with hc
    exact hn hc.symm
  refine ⟨by omega, by omega, fun i d hi hd => ?_⟩
  by_cases q : f ≤ i
  · exact h.no i d q hd
  · have : i = f - 1 := by omega
    subst this
    rw [hc] at hd
    injection hd with hd
    rw [← hd]; exact hn

/-- behind the sign there is no other -/
theorem jeq_end {ds : List Ds} {now : Int} {f : Nat} (h : JEq (jtext ds now) (jhead ds).length f) (hc : (jtext ds now)[f - 1]? = some 61) : f = (jhead ds).length + 1 := by
  have l := h.lo
  have u := h.hi
  rcases Nat.lt_or_ge ((jhead ds).length + 1) f with q | q
  · exfalso
    rw [jtext_head] at hc
    rw [List.getElem?_append_right (by omega)] at hc
    have hm := List.mem_of_getElem? (show (32 :: (jdig now ++ [10]))[f - 1 - (jhead ds).length - 1]? = some 61 from by
      have e : f - 1 - (jhead ds).length = (f - 1 - (jhead ds).length - 1) + 1 := by omega
      rw [e, List.getElem?_cons_succ] at hc
      exact hc)
    simp only [List.mem_cons, List.mem_append, List.not_mem_nil, or_false] at hm
    rcases hm with hm | hm | hm
    · revert hm; decide
    · exact jdig_no (Or.inr (by decide)) hm
    · revert hm; decide
  · omega

end Go.Proofs.YtpilmkipbbengaaGreatDoor
