/- driplaw: whole. -/
import Derived.Test.YtpilmkipbbengaaGreatDoorLaw3
namespace Go.Proofs.YtpilmkipbbengaaGreatDoor
open Go.RowKit

def mk99 : Lim := ⟨-99, -99, -99⟩
theorem lim99 (n : Nat) : (List.replicate n mk99).flatMap limC = (List.replicate n (-99)).flatMap markC := by
  induction n with
  | zero => rfl
  | succ n ih => simp only [List.replicate_succ, List.flatMap_cons, ih]; rfl

theorem SeeL.frm' {S : Nat → Prop} {w w' : World} {a : Option Addr} {lims : List Lim} (h : SeeL w a lims) (f : Frm S w w') (hs : lims ≠ [] → ∀ g o, a = some ⟨g, o, none⟩ → ¬ S g) : SeeL w' a lims := by
  by_cases e : lims = []
  · exact Or.inl e
  · exact h.frm f (hs e)

/-- on the way through whole: j elements are written over -/
structure WholeSt (w wr : World) (g k cap : Nat) (ll : List Lim) (j : Nat) : Prop where
  row : wr.ownsRow 0 60 3 (.slice (some ⟨g, 0, none⟩) k cap) k ((List.replicate j mk99 ++ ll.drop j).flatMap limC)
  frm : Frm (fun x => x = g) w wr

theorem WholeSt.keep {w wr w2 : World} {g k cap : Nat} {ll : List Lim} {j : Nat} (h : WholeSt w wr g k cap ll j) (kk : Keep wr w2) : WholeSt w w2 g k cap ll j :=
  ⟨row_frm h.row kk (fun _ _ e => e), h.frm.trans2 kk (fun _ _ e => e.elim)⟩

theorem WholeSt.set {w wr : World} {g k cap : Nat} {ll : List Lim} {j : Nat} (h : WholeSt w wr g k cap ll j) {x : Lim} (hx : ll[j]? = some x) :
    WholeSt w (((wr.setCell ⟨g, j * 3, none⟩ (I (-99))).setCell ⟨g, j * 3 + 1, none⟩ (I (-99))).setCell ⟨g, j * 3 + 2, none⟩ (I (-99))) g k cap ll (j + 1) := by
  have hj : j < ll.length := (List.getElem?_eq_some_iff.1 hx).1
  have hd : ll.drop j = x :: ll.drop (j + 1) := by
    obtain ⟨lj, vj⟩ := List.getElem?_eq_some_iff.1 hx
    rw [List.drop_eq_getElem_cons lj, vj]
  have h0 := h.row
  rw [hd] at h0
  have gx : ∀ y : Lim, (List.replicate j mk99 ++ y :: ll.drop (j + 1))[j]? = some y := fun y => by rw [List.getElem?_append_right (by simp)]; simp
  have sx : ∀ y z : Lim, (List.replicate j mk99 ++ y :: ll.drop (j + 1)).set j z = List.replicate j mk99 ++ z :: ll.drop (j + 1) := fun y z => by rw [List.set_append_right _ _ (by simp)]; simp
  have r1 := row_set h0 (fun _ => rfl) (gx x) (i := 0) (by decide) (u := I (-99)) (x' := { x with ch := -99 }) rfl
  rw [sx] at r1
  have r2 := row_set r1 (fun _ => rfl) (gx _) (i := 1) (by decide) (u := I (-99)) (x' := { x with ch := -99, win := -99 }) rfl
  rw [sx] at r2
  have r3 := row_set r2 (fun _ => rfl) (gx _) (i := 2) (by decide) (u := I (-99)) (x' := mk99) rfl
  rw [sx] at r3
  have hS : (fun x => x = g) g := rfl
  refine ⟨?_, (((h.frm.setCell (S := fun x => x = g) (p := ⟨g, j * 3, none⟩) hS _).setCell (S := fun x => x = g) (p := ⟨g, j * 3 + 1, none⟩) hS _).setCell (S := fun x => x = g) (p := ⟨g, j * 3 + 2, none⟩) hS _)⟩
  rw [List.replicate_succ', List.append_assoc]
  exact r3

/-- what whole leaves -/
def WholeEnd (w : World) (wb : Nat) (vp vd vl vm : Value) (ds : List Value) (ms : List Int) (ls : List Value) (g k cap : Nat) (w' : World) : Prop :=
  ∃ vl', Lists w' wb vp vd vl' vm ds ms (ls ++ [.slice (some ⟨g, 0, none⟩) k cap]) ∧ LSep wb vp vd vl' vm ds (ls ++ [.slice (some ⟨g, 0, none⟩) k cap]) ∧ Frm (fun x => x = wb ∨ vl.ownBlock = some x ∨ x = g) w w' ∧
    (∀ x, LF wb vp vd vl' vm ds (ls ++ [.slice (some ⟨g, 0, none⟩) k cap]) x → LF wb vp vd vl vm ds ls x ∨ x = g ∨ w.heap.size ≤ x)

theorem whole_fin {w w3 W4 w4 : World} {wb : Nat} {vp vd vl vm vl' : Value} {ds : List Value} {ms : List Int} {ls : List Value} {g k cap : Nat} (hk : k ≤ 6000000000000) (hp : ∀ x, vp.ownBlock = some x → x < w.heap.size) (h : Lists w3 wb vp vd vl vm ds ms ls) (sep : LSep wb vp vd vl vm ds ls)
    (f3 : Frm (fun x => x = g) w w3) (hr : w3.ownsRow 0 60 3 (.slice (some ⟨g, 0, none⟩) k cap) k ((List.replicate k mk99).flatMap limC)) (ho : Off wb vp vd vl vm (.slice (some ⟨g, 0, none⟩) k cap))
    (k4 : Keep w3 W4) (g4 : W4.grownBy w4 vl.ownBlock) (r4 : w4.ownsRow 0 28 1 vl' (ls.length + 1) (ls ++ [.slice (some ⟨g, 0, none⟩) k cap])) (n4 : vl'.ownBlock = vl.ownBlock ∨ (vl'.ownBlock = some W4.heap.size ∧ W4.grownBy w4 none)) :
    WholeEnd w wb vp vd vl vm ds ms ls g k cap (w4.setCell ⟨wb, 2, none⟩ vl') := by
  have lwb := h.head.lt
  have s3 := f3.size
  have s4 := k4.size
  have lt3 : ∀ {T s v n xs}, w3.ownsRow 0 T s v n xs → ∀ x, v.ownBlock = some x → x < w3.heap.size := fun hr x hx => (hr.lt x hx).2
  have hp3 : ∀ x, vp.ownBlock = some x → x < w3.heap.size := fun x hx => by have := hp x hx; omega
  have d1 : ∀ {T s v n xs}, w3.ownsRow 0 T s v n xs → Dis v vl → v.ownBlock ≠ some wb → (w4.setCell ⟨wb, 2, none⟩ vl').ownsRow 0 T s v n xs := fun hr hd hb => grow_off k4 g4 hr hd hb vl'
  have bl' : vl'.ownBlock ≠ some wb := fresh_ne k4 n4 lwb sep.bl
  have off' : ∀ v, (∀ x, v.ownBlock = some x → x < w3.heap.size) → Off wb vp vd vl vm v → Off wb vp vd vl' vm v := fun v hv o => ⟨o.b, o.p, o.d, (fresh_dis k4 n4 hv o.l.symm).symm, o.m⟩
  have mlt : ∀ {T v m}, Marked w3 T v m → ∀ x, v.ownBlock = some x → x < w3.heap.size := fun ⟨_, _, hr⟩ => lt3 hr
  have mk : ∀ {T v m}, Marked w3 T v m → Off wb vp vd vl vm v → Marked (w4.setCell ⟨wb, 2, none⟩ vl') T v m := fun ⟨n, hn, hr⟩ o => ⟨n, hn, d1 hr o.l o.b⟩
  have hg : Marked w3 60 (.slice (some ⟨g, 0, none⟩) k cap) (-99) := ⟨k, hk, by rw [← lim99]; exact hr⟩
  have dlt : ∀ v ∈ ds, ∀ x, v.ownBlock = some x → x < w3.heap.size := by
    intro v hv
    obtain ⟨i, hi⟩ := List.getElem?_of_mem hv
    have hil : i < ms.length := by rw [← h.len]; exact (List.getElem?_eq_some_iff.1 hi).1
    exact mlt (h.dm i v _ hi (List.getElem?_eq_getElem hil))
  refine ⟨vl', ⟨?_, d1 h.doses sep.dl sep.bd, d1 h.marks sep.lm.symm sep.bm, ?_, h.len, fun i v m h1 h2 => mk (h.dm i v m h1 h2) (sep.ds v (List.mem_of_getElem? h1)), ?_⟩, ⟨sep.bp, sep.bd, bl', sep.bm, sep.pd, (fresh_dis k4 n4 hp3 sep.pl.symm).symm, sep.pm, (fresh_dis k4 n4 (lt3 h.doses) sep.dl.symm).symm, sep.dm, fresh_dis k4 n4 (lt3 h.marks) sep.lm, fun v hv => off' v (dlt v hv) (sep.ds v hv), ?_⟩, ?_, ?_⟩
  · have b4 := ((k4.blk h.head).frm (grown_frm g4) sep.bl).set 2 vl'
    simpa using b4
  · have := row_of_block r4 (w' := w4.setCell ⟨wb, 2, none⟩ vl') fun g hg => Below.heap_setCell _ _ _ _ fun e => bl' (by rw [hg, e])
    simpa using this
  · intro v hv
    rcases List.mem_append.1 hv with hv | hv
    · exact mk (h.lm v hv) (sep.ls v hv)
    · simp at hv; subst hv; exact mk hg ho
  · intro v hv
    rcases List.mem_append.1 hv with hv | hv
    · exact off' v (mlt (h.lm v hv)) (sep.ls v hv)
    · simp at hv; subst hv; exact off' _ (mlt hg) ho
  · refine (((f3.mono ?_).trans2 k4 (fun _ _ e => e.elim)).trans2 (grown_frm g4) ?_).setCell (Or.inl rfl) _
    · exact fun x _ e => Or.inr (Or.inr e)
    · exact fun x _ e => Or.inr (Or.inl e)
  · rintro x (e | e | e | e | e | e | ⟨v, hv, e⟩)
    · exact Or.inl (Or.inl e)
    · exact Or.inl (Or.inr (Or.inl e))
    · exact Or.inl (Or.inr (Or.inr (Or.inl e)))
    · rcases n4 with h' | ⟨h', -⟩
      · exact Or.inl (Or.inr (Or.inr (Or.inr (Or.inl (by rw [← h', e])))))
      · rw [h'] at e; injection e with e; exact Or.inr (Or.inr (by omega))
    · exact Or.inl (Or.inr (Or.inr (Or.inr (Or.inr (Or.inl e)))))
    · exact Or.inl (Or.inr (Or.inr (Or.inr (Or.inr (Or.inr (Or.inl e))))))
    · rcases List.mem_append.1 hv with hv | hv
      · exact Or.inl (Or.inr (Or.inr (Or.inr (Or.inr (Or.inr (Or.inr ⟨v, hv, e⟩))))))
      · simp at hv; subst hv; simp [Value.ownBlock] at e; exact Or.inr (Or.inl e.symm)

theorem infoSL : (Tryz.prog.info? 28).map (fun i => (i.zero, i.size, i.bytes)) = some (some (.slice none 0 0), 1, 24) := by kernel_rfl

set_option maxRecDepth 100000 in
set_option maxHeartbeats 3200000 in
theorem whole_any (wb : Nat) (vp vd vl vm : Value) (ds : List Value) (ms : List Int) (ls : List Value) (g cap : Nat) (a : Option Addr) (capl : Nat) (lims : List Lim) (w : World) (h : Lists w wb vp vd vl vm ds ms ls) (sep : LSep wb vp vd vl vm ds ls)
    (hr : w.ownsRow 0 60 3 (.slice (some ⟨g, 0, none⟩) (lims.length + 8) cap) (lims.length + 8) ((lent lims 8).flatMap limC)) (hg : ¬ LF wb vp vd vl vm ds ls g) (hs : SeeL w a lims) (ha : lims ≠ [] → ∀ g' o, a = some ⟨g', o, none⟩ → g' ≠ g) (hn : lims.length ≤ 5864062014634) (hl : ls.length ≤ 5800000000000) (hp : ∀ x, vp.ownBlock = some x → x < w.heap.size) :
    Calls Tryz.prog 71 #[.pointer (some ⟨wb, 0, none⟩), .slice (some ⟨g, 0, none⟩) (lims.length + 8) cap, .slice a lims.length capl] w fun r w' => r = .returned (.bool true) ∧ WholeEnd w wb vp vd vl vm ds ms ls g (lims.length + 8) cap w' := by
  obtain ⟨iS, hiS, hzS0, hzS1, hzS2⟩ := info_parts infoSL
  have H := hide (And.intro h (And.intro sep (And.intro hg (And.intro hs (And.intro ha (And.intro hp hr))))))
  have hll : (lent lims 8).length = lims.length + 8 := by simp [lent]
  have HLL := hide hll
  clear h sep hr hg hs ha hp hll
  go_enter Tryz.func71, Tryz.ntmps71
  go_wp2_with fail
  go_loopg [7, 8, 9] (lims.length + 8) (fun q ok i _ wr => ∃ j : Nat, q + j = lims.length + 8 ∧ ok = .bool true ∧ i = I j ∧ Hid (WholeSt w wr g (lims.length + 8) cap (lent lims 8) j))
  case atStart => exact ⟨0, by omega, rfl, rfl, ⟨by simpa using (H.out).2.2.2.2.2.2, Frm.refl _ _⟩⟩
  case round =>
    obtain ⟨j, hq, rfl, rfl, hst⟩ := hrel
    have hs := hst.out
    by_cases hj : j < lims.length + 8
    · obtain ⟨x, hx⟩ : ∃ x, (lent lims 8)[j]? = some x := ⟨_, List.getElem?_eq_getElem (by rw [HLL.out]; exact hj)⟩
      have hxl : (List.replicate j mk99 ++ (lent lims 8).drop j)[j]? = some x := by
        rw [List.getElem?_append_right (by simp)]; simp [hx]
      obtain ⟨g', cap', hv, -, hcell, hfz⟩ := row_at hs.row (fun _ => rfl) hxl (by decide)
      simp at hv
      obtain ⟨rfl, rfl⟩ := hv
      have d0 := hcell 0 (by decide)
      have d1 := hcell 1 (by decide)
      have d2 := hcell 2 (by decide)
      simp [limC] at d0 d1 d2
      have f0 := hfz (j * 3)
      have f1 := hfz (j * 3 + 1)
      have f2 := hfz (j * 3 + 2)
      have lg : g < wr.heap.size := by simpa using World.block_lt_of_cell? _ _ d0
      have nx : ∀ (wz : World), Keep wr wz → ∃ k' : Nat, k' < gk ∧ ∃ j' : Nat, k' + j' = lims.length + 8 ∧ I ((j : Int) + 1) = I j' ∧ Hid (WholeSt w (((wz.setCell ⟨g, j * 3, none⟩ (I (-99))).setCell ⟨g, j * 3 + 1, none⟩ (I (-99))).setCell ⟨g, j * 3 + 2, none⟩ (I (-99))) g (lims.length + 8) cap (lent lims 8) j') :=
        fun wz kz => ⟨gk - 1, by omega, j + 1, by omega, by simp, (hs.keep kz).set hx⟩
      have NX := hide nx
      by_cases hjl : j < lims.length
      · obtain ⟨l, hl'⟩ : ∃ l, lims[j]? = some l := ⟨_, List.getElem?_eq_getElem hjl⟩
        have hxe : x = l := by
          have := hx; rw [lent, List.getElem?_append_left hjl, hl'] at this; injection this with this; exact this.symm
        subst hxe
        have hsee := (H.out).2.2.2.1.frm' hs.frm (fun hne g' o e => (H.out).2.2.2.2.1 hne g' o e)
        rcases hsee with e | ⟨g2, o, hao, hg2, hcells⟩
        · rw [e] at hjl; simp at hjl
        obtain ⟨e0, e1, e2⟩ := hcells j x hl'
        subst hao
        clear nx hcell hfz hst hs hq hcells hx hxl hl'
        go_wp2_with fail
        go_quiet (fail)
        go_wp2_with fail
        refine (over_any _).mono ?_
        rintro e w2 ⟨rfl, k2⟩
        have kk : Keep wr w2 := (((Frm.refl _ _).alloc _).drewN _).trans k2
        have m0 : w2.cell? ⟨g, j * 3, none⟩ = some (I x.ch) := kk.cell d0 (fun e => e)
        have m1 : w2.cell? ⟨g, j * 3 + 1, none⟩ = some (I x.win) := kk.cell d1 (fun e => e)
        have m2 : w2.cell? ⟨g, j * 3 + 2, none⟩ = some (I x.cap) := kk.cell d2 (fun e => e)
        have n0 : w2.frozen? ⟨g, j * 3, none⟩ = false := kk.frozen lg f0 (fun e => e)
        have n1 : w2.frozen? ⟨g, j * 3 + 1, none⟩ = false := kk.frozen lg f1 (fun e => e)
        have n2 : w2.frozen? ⟨g, j * 3 + 2, none⟩ = false := kk.frozen lg f2 (fun e => e)
        have KK := hide kk
        clear kk k2 d0 d1 d2 f0 f1 f2
        go_wp2_with fail
        obtain ⟨k', z1, z2⟩ := NX.out w2 KK.out
        go_roundg k'
        case measure => exact z1
        case rel => obtain ⟨j', q1, q2, q3⟩ := z2; exact ⟨j', q1, rfl, q2, q3⟩
      · have hxe : x = mk77 := by
          have := hx; rw [lent, List.getElem?_append_right (by omega)] at this
          rw [List.getElem?_replicate] at this
          split at this
          · injection this with this; exact this.symm
          · cases this
        subst hxe
        clear nx hcell hfz hst hs hq hx hxl
        change wr.cell? ⟨g, j * 3, none⟩ = some (I 0) at d0
        change wr.cell? ⟨g, j * 3 + 1, none⟩ = some (I 0) at d1
        change wr.cell? ⟨g, j * 3 + 2, none⟩ = some (I (-77)) at d2
        go_wp2_with fail
        go_quiet (fail)
        go_wp2_with fail
        refine (over_any _).mono ?_
        rintro e w2 ⟨rfl, k2⟩
        have kk : Keep wr w2 := (((Frm.refl _ _).alloc _).drewN _).trans k2
        have m0 : w2.cell? ⟨g, j * 3, none⟩ = some (I 0) := kk.cell d0 (fun e => e)
        have m1 : w2.cell? ⟨g, j * 3 + 1, none⟩ = some (I 0) := kk.cell d1 (fun e => e)
        have m2 : w2.cell? ⟨g, j * 3 + 2, none⟩ = some (I (-77)) := kk.cell d2 (fun e => e)
        have n0 : w2.frozen? ⟨g, j * 3, none⟩ = false := kk.frozen lg f0 (fun e => e)
        have n1 : w2.frozen? ⟨g, j * 3 + 1, none⟩ = false := kk.frozen lg f1 (fun e => e)
        have n2 : w2.frozen? ⟨g, j * 3 + 2, none⟩ = false := kk.frozen lg f2 (fun e => e)
        have KK := hide kk
        clear kk k2 d0 d1 d2 f0 f1 f2
        go_wp2_with fail
        obtain ⟨k', z1, z2⟩ := NX.out w2 KK.out
        go_roundg k'
        case measure => exact z1
        case rel => obtain ⟨j', q1, q2, q3⟩ := z2; exact ⟨j', q1, rfl, q2, q3⟩
    · have hje : j = lims.length + 8 := by omega
      have hr3 : wr.ownsRow 0 60 3 (.slice (some ⟨g, 0, none⟩) (lims.length + 8) cap) (lims.length + 8) ((List.replicate (lims.length + 8) mk99).flatMap limC) := by
        have := hs.row
        rw [hje, List.drop_eq_nil_of_le (by rw [HLL.out]; omega)] at this
        simpa using this
      have f3 := hs.frm
      have hL3 : Lists wr wb vp vd vl vm ds ms ls := (H.out).1.frm f3 (fun x hx e => (H.out).2.2.1 (by have e' : x = g := e; rw [← e']; exact hx))
      obtain ⟨al, cl, hvl⟩ := row_slice hL3.lent
      have y2 : wr.cell? ⟨wb, 2, none⟩ = some vl := by rw [hL3.head.cell]; rfl
      have g2 := hL3.head.frozen 2
      rw [hvl] at y2
      have lw := hL3.head.lt
      have hoff : Off wb vp vd vl vm (.slice (some ⟨g, 0, none⟩) (lims.length + 8) cap) := by
        have hx : ∀ x, (Value.slice (some ⟨g, 0, none⟩) (lims.length + 8) cap).ownBlock = some x → ¬ LF wb vp vd vl vm ds ls x := fun x hx hLF => by
          simp [Value.ownBlock] at hx; subst hx; exact (H.out).2.2.1 hLF
        exact ⟨fun e => hx wb e (Or.inl rfl), fun x h1 h2 => hx x h1 (Or.inr (Or.inl h2)), fun x h1 h2 => hx x h1 (Or.inr (Or.inr (Or.inl h2))), fun x h1 h2 => hx x h1 (Or.inr (Or.inr (Or.inr (Or.inl h2)))), fun x h1 h2 => hx x h1 (Or.inr (Or.inr (Or.inr (Or.inr (Or.inl h2)))))⟩
      have FIN := hide (And.intro hL3 (And.intro f3 (And.intro hr3 hoff)))
      have HVL := hide hvl
      clear hr3 f3 hL3 hoff hs hst hq hje hvl
      go_wp2_with (at_builtin; refine wpList_append_row _ rfl (.tmp 42) (.tmp 44) 54 rfl 28 iS (.slice none 0 0) 1 24 Tryz.underlying54 hiS hzS0 hzS1 hzS2 rfl (by decide) (.slice al ls.length cl) ls.length ls rfl (by rw [← HVL.out]; exact row_frm (FIN.out).1.lent (show Keep _ _ from (Frm.refl _ _).alloc _) (fun _ _ e => e)) ⟨wr.heap.size, 0, none⟩ 1 1 [.slice (some ⟨g, 0, none⟩) (lims.length + 8) cap] rfl rfl (cell_news _ [.slice (some ⟨g, 0, none⟩) (lims.length + 8) cap] _ _ (by simp)) (by intro u hu; simp at hu; subst hu; rfl) (by unfold maxLen; omega) (by omega) ?_; intro v4 w4 hr4 hg4 hn4; rw [← HVL.out] at hg4 hn4; obtain ⟨a4, p4, hv4⟩ := row_slice hr4; subst hv4; have bb4 := ((show Keep _ _ from (Frm.refl _ _).alloc _).blk (FIN.out).1.head).frm (grown_frm hg4) (H.out).2.1.bl; have c42 : w4.cell? ⟨wb, 2, none⟩ = some (.slice al ls.length cl) := (by { rw [bb4.cell, ← HVL.out]; rfl }); have f42 := bb4.frozen 2; have FOUR := hide (And.intro hr4 (And.intro hg4 hn4)); clear hr4 hg4 hn4 bb4)
      go_ret
      exact ⟨rfl, whole_fin (by omega) (H.out).2.2.2.2.2.1 (FIN.out).1 (H.out).2.1 (FIN.out).2.1 (FIN.out).2.2.1 (FIN.out).2.2.2 (show Keep _ _ from (Frm.refl _ _).alloc _) (FOUR.out).2.1 (FOUR.out).1 (FOUR.out).2.2⟩

end Go.Proofs.YtpilmkipbbengaaGreatDoor
