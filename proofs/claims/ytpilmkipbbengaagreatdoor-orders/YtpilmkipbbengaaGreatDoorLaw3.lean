/- driplaw: lend. -/
import Derived.Test.YtpilmkipbbengaaGreatDoorLaw2
namespace Go.Proofs.YtpilmkipbbengaaGreatDoor
open Go.RowKit

def mk77 : Lim := ⟨0, 0, -77⟩
/-- what is handed in, with its marks -/
def lent (lims : List Lim) (k : Nat) : List Lim := lims ++ List.replicate k mk77

structure LendSt (w wr : World) (c lock : Int) (a : Option Addr) (n cap : Nat) (lims : List Lim) (v : Value) (k : Nat) : Prop where
  keep : Keep w wr
  box : Blk wr w.heap.size #[I c, .slice a n cap, I lock] 30
  res : Blk wr (w.heap.size + 1) #[I 0, .slice none 0 0, I 0] 30
  row : wr.ownsRow 0 60 3 v (lims.length + k) ((lent lims k).flatMap limC)
  new : ∀ x, v.ownBlock = some x → w.heap.size + 1 < x

theorem LendSt.next {w wr W w2 : World} {c lock : Int} {a : Option Addr} {n cap : Nat} {lims : List Lim} {v v' : Value} {k : Nat} (h : LendSt w wr c lock a n cap lims v k) (kW : Keep wr W) (hg : W.grownBy w2 v.ownBlock) (hn : v'.ownBlock = v.ownBlock ∨ (v'.ownBlock = some W.heap.size ∧ W.grownBy w2 none))
    (hr : w2.ownsRow 0 60 3 v' (lims.length + k + 1) ((lent lims k).flatMap limC ++ limC mk77)) : LendSt w w2 c lock a n cap lims v' (k + 1) := by
  have hs := kW.size
  have hl := h.res.lt
  refine ⟨(h.keep.trans kW).trans2 (grown_frm hg) (fun x hx e => by have := h.new x e; omega), (kW.blk h.box).frm (grown_frm hg) (fun e => by have := h.new _ e; omega), (kW.blk h.res).frm (grown_frm hg) (fun e => by have := h.new _ e; omega), ?_, ?_⟩
  · have e : (lent lims (k + 1)).flatMap limC = (lent lims k).flatMap limC ++ limC mk77 := by
      simp [lent, List.replicate_succ', List.flatMap_append]
    rw [e]; exact hr
  · intro x hx
    rcases hn with e | ⟨e, -⟩
    · rw [e] at hx; exact h.new x hx
    · rw [e] at hx; injection hx with hx; omega

def LendEnd (w : World) (c lock : Int) (lims : List Lim) (e : Ending) (w' : World) : Prop :=
  ∃ g cap, e = .returned (.tuple #[cfgV c (some ⟨g, 0, none⟩) lims.length cap lock, .slice (some ⟨g, 0, none⟩) (lims.length + 8) cap]) ∧ w'.ownsRow 0 60 3 (.slice (some ⟨g, 0, none⟩) (lims.length + 8) cap) (lims.length + 8) ((lent lims 8).flatMap limC) ∧ w.heap.size ≤ g ∧ Keep w w'

set_option maxRecDepth 100000 in
set_option maxHeartbeats 3200000 in
theorem lend_any (c : Int) (a : Option Addr) (lims : List Lim) (cap : Nat) (lock : Int) (w : World) (hs : SeeL w a lims) (hnone : a = none → lims.length = 0 ∧ cap = 0) (hn : lims.length ≤ 5864062014634) (_hcap : lims.length ≤ cap) :
    Calls Tryz.prog 69 #[cfgV c a lims.length cap lock] w fun e w' => LendEnd w c lock lims e w' := by
  obtain ⟨iL, hiL, hzL0, hzL1, hzL2⟩ := info_parts infoL
  have HS := hide (And.intro hs hnone)
  clear hs hnone
  go_enter Tryz.func69, Tryz.ntmps69
  go_upto_region 3 with (at_builtin; refine wpList_append_src _ rfl (.tmp 6) (.tmp 8) 28 rfl 60 iL (.agg #[I 0, I 0, I 0]) 3 24 Tryz.underlying28 hiL hzL0 hzL1 hzL2 rfl (by decide) (.slice none 0 0) 0 [] rfl (World.ownsRow_nil _ 0 _ _) a lims.length cap (lims.flatMap limC) rfl (flat_len limC 3 (fun _ => rfl) lims) (HS.out).2 (by exact ((HS.out).1.frm (((Frm.refl _ _).alloc _).alloc _) (fun _ _ _ e => e)).news) (limC_one lims) (by unfold maxLen; omega) (by omega) ?_; intro v0 w1 hown hgr hnew; rw [Nat.zero_add, List.nil_append] at hown; have ST0 := hide (And.intro hown (And.intro hgr hnew)); clear hown hgr hnew)
  have st0 : LendSt w w1 c lock a lims.length cap lims v0 0 := by
    obtain ⟨hown, hgr, hnew⟩ := ST0.out
    have kk : Keep w ((w.alloc (.cells #[I c, .slice a lims.length cap, I lock] 30)).alloc (.cells #[I 0, .slice none 0 0, I 0] 30)) := ((Frm.refl _ _).alloc _).alloc _
    refine ⟨kk.trans2 (grown_frm hgr) (fun x _ e => by simp [Value.ownBlock] at e), ((Blk.new _ _ _).alloc _).frm (grown_frm hgr) (by simp [Value.ownBlock]), ?_, ?_, ?_⟩
    · have := (Blk.new (w.alloc (.cells #[I c, .slice a lims.length cap, I lock] 30)) #[I 0, .slice none 0 0, I 0] 30).frm (grown_frm hgr) (by simp [Value.ownBlock])
      simpa using this
    · simpa [lent] using hown
    · intro x hx
      rcases hnew with e | ⟨e, -⟩
      · rw [e] at hx; simp [Value.ownBlock] at hx
      · rw [e] at hx; injection hx with hx; simp at hx; omega
  have HST := hide st0
  clear st0 ST0
  go_wp2_with fail
  go_loopg [4, 5] 8 (fun q v i wr => ∃ j : Nat, q + j = 8 ∧ i = I j ∧ Hid (LendSt w wr c lock a lims.length cap lims v j))
  case atStart => exact ⟨0, by omega, rfl, HST.out⟩
  case round =>
    obtain ⟨j, hq, rfl, hst⟩ := hrel
    have hs := hst.out
    have b0 : wr.cell? ⟨w.heap.size, 0, none⟩ = some (I c) := by rw [hs.box.cell]; rfl
    have b1 : wr.cell? ⟨w.heap.size, 1, none⟩ = some (.slice a lims.length cap) := by rw [hs.box.cell]; rfl
    have b2 : wr.cell? ⟨w.heap.size, 2, none⟩ = some (I lock) := by rw [hs.box.cell]; rfl
    obtain ⟨av, cv, hv⟩ := row_slice hs.row
    subst hv
    by_cases hj : j < 8
    · have HH := hide (And.intro hs hq)
      clear hs hst hq
      go_wp2_with (at_builtin; refine wpList_append_row _ rfl (.tmp 14) (.tmp 16) 28 rfl 60 iL (.agg #[I 0, I 0, I 0]) 3 24 Tryz.underlying28 hiL hzL0 hzL1 hzL2 rfl (by decide) (.slice av (lims.length + j) cv) (lims.length + j) _ rfl (row_frm (HH.out).1.row (show Keep _ _ from (Frm.refl _ _).alloc _) (fun _ _ e => e)) ⟨wr.heap.size, 0, none⟩ 1 1 [I 0, I 0, I (-77)] rfl rfl (cell_news _ [I 0, I 0, I (-77)] _ _ (by simp)) (by intro u hu; simp at hu; rcases hu with rfl | rfl <;> rfl) (by unfold maxLen; omega) (by omega) ?_; intro v' w2 hown hgr hnew)
      go_roundg (gk - 1)
      case measure => have := (HH.out).2; omega
      case rel => exact ⟨j + 1, by have := (HH.out).2; omega, by simp, LendSt.next (HH.out).1 (show Keep _ _ from (Frm.refl _ _).alloc _) hgr hnew hown⟩
    · have hje : j = 8 := by omega
      subst hje
      have r0 : wr.cell? ⟨w.heap.size + 1, 0, none⟩ = some (I 0) := by rw [hs.res.cell]; rfl
      have r1 : wr.cell? ⟨w.heap.size + 1, 1, none⟩ = some (.slice none 0 0) := by rw [hs.res.cell]; rfl
      have r2 : wr.cell? ⟨w.heap.size + 1, 2, none⟩ = some (I 0) := by rw [hs.res.cell]; rfl
      have f0 := hs.res.frozen 0
      have f1 := hs.res.frozen 1
      have f2 := hs.res.frozen 2
      obtain ⟨g, cg, hvg, -, -, hgl⟩ := row_cells hs.row (by omega)
      simp at hvg
      obtain ⟨rfl, rfl⟩ := hvg
      have hcg : lims.length + 8 ≤ cv := by
        rcases hs.row.2 with ⟨e, -⟩ | ⟨g', cap', cur, e, -, -, r3, -⟩
        · simp at e
        · simp at e; omega
      have HH := hide hs
      clear hs hst hq
      go_wp2_with fail
      go_region
      all_goals go_wp2_with fail
      have hnew := (HH.out).new g rfl
      have hS : (fun x => x = w.heap.size + 1) (w.heap.size + 1) := rfl
      have fr : Frm (fun x => x = w.heap.size + 1) wr (((wr.setCell ⟨w.heap.size + 1, 0, none⟩ (I c)).setCell ⟨w.heap.size + 1, 1, none⟩ (.slice (some ⟨g, 0, none⟩) lims.length cv)).setCell ⟨w.heap.size + 1, 2, none⟩ (I lock)).drew :=
        ((((Frm.refl (fun x => x = w.heap.size + 1) wr).setCell (p := ⟨w.heap.size + 1, 0, none⟩) hS (I c)).setCell (p := ⟨w.heap.size + 1, 1, none⟩) hS (.slice (some ⟨g, 0, none⟩) lims.length cv)).setCell (p := ⟨w.heap.size + 1, 2, none⟩) hS (I lock)).drew
      have rw' := row_frm (HH.out).row fr (fun g' hg' e => by simp [Value.ownBlock] at hg'; omega)
      have kp : Keep w _ := (HH.out).keep.trans2 fr (fun x hx e => by omega)
      have fin : LendEnd w c lock lims (.returned (.tuple #[cfgV c (some ⟨g, 0, none⟩) lims.length cv lock, .slice (some ⟨g, 0, none⟩) (lims.length + 8) cv])) (((wr.setCell ⟨w.heap.size + 1, 0, none⟩ (I c)).setCell ⟨w.heap.size + 1, 1, none⟩ (.slice (some ⟨g, 0, none⟩) lims.length cv)).setCell ⟨w.heap.size + 1, 2, none⟩ (I lock)).drew := ⟨g, cv, rfl, rw', by omega, kp⟩
      refine bodyPost_ret (v := .tuple #[.agg #[I c, .slice (some ⟨g, 0, none⟩) lims.length cv, I lock], .slice (some ⟨g, 0, none⟩) (lims.length + 8) cv]) ?_ rfl fin
      clear fin kp rw' fr hnew
      simp [results, Tryz.results69, go_sem, r0, r1, r2]

end Go.Proofs.YtpilmkipbbengaaGreatDoor
