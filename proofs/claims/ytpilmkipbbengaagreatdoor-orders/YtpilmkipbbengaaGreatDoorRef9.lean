/- The document's pump: New. -/
import Derived.Test.YtpilmkipbbengaaGreatDoorRef8
import Derived.Deep.CutRange
namespace Go.Proofs.YtpilmkipbbengaaGreatDoor
open Go.RowKit

theorem infoC : (Tryz.prog.info? 166).map (fun i => (i.zero, i.size, i.bytes)) = some (some (.agg #[I 0, I 0, .bool false, I 0]), 4, 32) := by kernel_rfl

/-- what New leaves -/
def NewEnd (w : World) (c : Int) (lims : List Lim) (lock : Int) (e : Ending) (w' : World) : Prop := Keep w w' ∧
  ((fineB c lims lock = false ∧ e = .returned (.tuple #[.pointer none, I 1])) ∨
   (fineB c lims lock = true ∧ ∃ b vl vc, e = .returned (.tuple #[.pointer (some ⟨b, 0, none⟩), I 0]) ∧ RefAt w' b (rnew c.toNat lims lock) vl (.slice none 0 0) vc (.slice none 0 0) ∧ (∀ x, RefF b vl (.slice none 0 0) vc (.slice none 0 0) x → w.heap.size ≤ x)))

/-- on the way through New -/
structure NewSt (w wx : World) (b : Nat) (c lock : Int) (a : Option Addr) (cap : Nat) (lims : List Lim) (vl vc : Value) (j : Nat) : Prop where
  keep : Keep w wx
  cfg : Blk wx w.heap.size #[I c, .slice a lims.length cap, I lock] 30
  lt : w.heap.size < b
  head : Blk wx b #[I c, vl, I lock, I 0, .slice none 0 0, vc, .slice none 0 0] 98
  lims : wx.ownsRow 0 60 3 vl lims.length (lims.flatMap limC)
  chs : wx.ownsRow 0 166 4 vc j ((List.replicate j ch0).flatMap chC)
  bl : ∀ x, vl.ownBlock = some x → b < x
  bc : ∀ x, vc.ownBlock = some x → b < x
  dis : Dis vl vc

theorem NewSt.chan {w wx W w2 : World} {b : Nat} {c lock : Int} {a : Option Addr} {cap : Nat} {lims : List Lim} {vl vc v' : Value} {j : Nat} (h : NewSt w wx b c lock a cap lims vl vc j) (k : Keep wx W) (hg : W.grownBy w2 vc.ownBlock) (hnew : v'.ownBlock = vc.ownBlock ∨ (v'.ownBlock = some W.heap.size ∧ W.grownBy w2 none))
    (hrow : w2.ownsRow 0 166 4 v' (j + 1) ((List.replicate j ch0).flatMap chC ++ chC ch0)) : NewSt w (w2.setCell ⟨b, 5, none⟩ v') b c lock a cap lims vl v' (j + 1) := by
  have hlb := h.head.lt
  have hks := k.size
  have hb : ∀ x, v'.ownBlock = some x → b < x := by
    intro x hx
    rcases hnew with e | ⟨e, -⟩
    · rw [e] at hx; exact h.bc x hx
    · rw [e] at hx; injection hx with hx; omega
  have h2 : ∀ {b' : Nat} {cs : Array Value} {T : TypeId}, Blk wx b' cs T → b' ≤ b → Blk w2 b' cs T := fun hb' hle => (k.blk hb').frm (grown_frm hg) fun e => by have := h.bc _ e; omega
  refine ⟨?_, (h2 h.cfg (by have := h.lt; omega)).other (p := ⟨b, 5, none⟩) (by have := h.lt; intro e; simp at e; omega) _, h.lt, ?_, ?_, ?_, h.bl, hb, ?_⟩
  · refine (((h.keep.trans k).trans2 (grown_frm hg) ?_)).setNew ?_ _
    · intro x hx e; have := h.bc x e; have := h.lt; omega
    · have := h.lt; show w.heap.size ≤ b; omega
  · have := (h2 h.head (Nat.le_refl _)).set 5 v'
    simpa using this
  · refine row_of_block (row_frm (row_frm h.lims k (fun _ _ e => e)) (grown_frm hg) (fun g hgv e => h.dis g hgv e)) fun g hgv => Below.heap_setCell _ _ _ _ fun e => ?_
    have := h.bl g hgv
    have e' : g = b := e
    omega
  · have := row_of_block hrow (w' := w2.setCell ⟨b, 5, none⟩ v') fun g hgv => Below.heap_setCell _ _ _ _ fun e => by have := hb g hgv; have e' : g = b := e; omega
    rw [List.replicate_succ', List.flatMap_append]
    simpa using this
  · intro x hx e
    rcases hnew with e' | ⟨e', -⟩
    · rw [e'] at e; exact h.dis x hx e
    · rw [e'] at e; injection e with e
      have := (h.lims.lt x hx).2
      omega

theorem NewSt.start {w w1 W w5 : World} {c lock : Int} {a : Option Addr} {cap : Nat} {lims : List Lim} {v5 : Value} (k1 : Keep (w.alloc (.cells #[I c, .slice a lims.length cap, I lock] 30)) w1)
    (hW : W = (w1.alloc (.cells #[I c, .slice none 0 0, I lock, I 0, .slice none 0 0, .slice none 0 0, .slice none 0 0] 98)).drew) (hg : W.grownBy w5 none) (hnew : v5.ownBlock = none ∨ (v5.ownBlock = some W.heap.size ∧ W.grownBy w5 none))
    (hrow : w5.ownsRow 0 60 3 v5 lims.length (lims.flatMap limC)) : NewSt w (w5.setCell ⟨w1.heap.size, 1, none⟩ v5) w1.heap.size c lock a cap lims v5 (.slice none 0 0) 0 := by
  have ks := k1.size
  simp at ks
  have hWs : W.heap.size = w1.heap.size + 1 := by rw [hW]; simp
  have hb : ∀ x, v5.ownBlock = some x → w1.heap.size < x := by
    intro x hx
    rcases hnew with e | ⟨e, -⟩
    · rw [e] at hx; cases hx
    · rw [e] at hx; injection hx with hx; omega
  have g2 : ∀ {b' : Nat} {cs : Array Value} {T : TypeId}, Blk W b' cs T → Blk w5 b' cs T := fun hb' => hb'.frm (grown_frm hg) (by simp)
  have kW : Keep w W := by rw [hW]; exact ((((Frm.refl _ _).alloc _).trans k1).alloc _).drew
  have cfgW : Blk W w.heap.size #[I c, .slice a lims.length cap, I lock] 30 := by rw [hW]; exact ((k1.blk (Blk.new _ _ _)).alloc _).drew
  have headW : Blk W w1.heap.size #[I c, .slice none 0 0, I lock, I 0, .slice none 0 0, .slice none 0 0, .slice none 0 0] 98 := by rw [hW]; exact (Blk.new _ _ _).drew
  refine ⟨(kW.trans2 (grown_frm hg) (fun x _ e => by simp at e)).setNew (by show w.heap.size ≤ w1.heap.size; omega) _, (g2 cfgW).other (p := ⟨w1.heap.size, 1, none⟩) (by intro e; have e' : w.heap.size = w1.heap.size := e; omega) _, by omega, ?_, ?_, by simp; exact World.ownsRow_nil .., hb, fun x hx => by simp [Value.ownBlock] at hx, fun x _ => by simp [Value.ownBlock]⟩
  · have := (g2 headW).set 1 v5
    simpa using this
  · have := row_of_block hrow (w' := w5.setCell ⟨w1.heap.size, 1, none⟩ v5) fun g hgv => Below.heap_setCell _ _ _ _ fun e => by have := hb g hgv; have e' : g = w1.heap.size := e; omega
    simpa using this

set_option maxRecDepth 100000 in
set_option maxHeartbeats 1600000 in
theorem rNew_any (c : Int) (a : Option Addr) (lims : List Lim) (cap : Nat) (lock : Int) (w : World) (hs : SeeL w a lims) (hnone : a = none → lims.length = 0 ∧ cap = 0) :
    Calls Tryz.prog 70 #[cfgV c a lims.length cap lock] w fun e w' => NewEnd w c lims lock e w' := by
  have cf := fun (W : World) (k : Keep w W) => fine_any c a lims cap lock W (hs.frm k (fun _ _ _ e => e))
  have CF := hide cf
  have HS := hide (And.intro hs hnone)
  clear cf hs hnone
  cases hf : fineB c lims lock with
  | false =>
    rw [hf] at CF
    go_enter Tryz.func70, Tryz.ntmps70
    go_wp2_with fail
    refine (CF.out _ (by exact (Frm.refl _ _).alloc _)).mono ?_
    rintro e w1 ⟨rfl, k1⟩
    go_wp2_with fail
    go_ret2
    exact ⟨((Frm.refl _ _).alloc _).trans k1, Or.inl ⟨hf, rfl⟩⟩
  | true =>
    rw [hf] at CF
    go_enter Tryz.func70, Tryz.ntmps70
    go_wp2_with fail
    refine (CF.out _ (by exact (Frm.refl _ _).alloc _)).mono ?_
    rintro e w1 ⟨rfl, k1⟩
    have bx : Blk w1 w.heap.size #[I c, .slice a lims.length cap, I lock] 30 := k1.blk (Blk.new _ _ _)
    have b0 : w1.cell? ⟨w.heap.size, 0, none⟩ = some (I c) := by rw [bx.cell]; rfl
    have b1 : w1.cell? ⟨w.heap.size, 1, none⟩ = some (.slice a lims.length cap) := by rw [bx.cell]; rfl
    have b2 : w1.cell? ⟨w.heap.size, 2, none⟩ = some (I lock) := by rw [bx.cell]; rfl
    have lx := bx.lt
    have K1 := hide (And.intro k1 bx)
    clear k1 bx
    have hcb : 1 ≤ c ∧ c ≤ 4 ∧ lims.length ≤ 6 := by
      simp [fineB, badHead] at hf
      omega
    obtain ⟨iL, hiL, hzL0, hzL1, hzL2⟩ := info_parts infoL
    obtain ⟨iC, hiC, hzC0, hzC1, hzC2⟩ := info_parts infoC
    have HF := hide hf
    clear hf
    go_wp2_with fail
    go_cut [] from 18 to 29 (fun wx => Hid (∃ vl, NewSt w wx w1.heap.size c lock a cap lims vl (.slice none 0 0) 0))
    case first =>
      go_region_law (refine step_append_src rfl (.tmp 23) (.tmp 25) 28 rfl 60 iL (.agg #[I 0, I 0, I 0]) 3 24 Tryz.underlying28 hiL hzL0 hzL1 hzL2 rfl (by decide) (.slice none 0 0) 0 [] (by simp [Act.eval]) (World.ownsRow_nil _ 0 _ _) a lims.length cap (lims.flatMap limC) (by simp [Act.eval]) (flat_len limC 3 (fun _ => rfl) lims) (HS.out).2 (by exact ((HS.out).1.frm ((((Frm.refl _ _).alloc _).trans (K1.out).1).alloc _).drew (fun _ _ _ e => e)).news) (limC_one lims) (by unfold maxLen; omega) (by omega) ?_; intro v5 w5 hown5 hgr5 hnew5; rw [Nat.zero_add, List.nil_append] at hown5; obtain ⟨a5, cp5, hv5⟩ := row_slice hown5; subst hv5; have bb5 := (show Blk _ w1.heap.size _ _ from (Blk.new w1 #[I c, .slice none 0 0, I lock, I 0, .slice none 0 0, .slice none 0 0, .slice none 0 0] 98).drew).frm (grown_frm hgr5) (by simp [Value.ownBlock]); have c51 : w5.cell? ⟨w1.heap.size, 1, none⟩ = some (.slice none 0 0) := (by { rw [bb5.cell]; rfl }); have f51 := bb5.frozen 1; have FIVE := hide (And.intro hown5 (And.intro hgr5 (And.intro hnew5 bb5))); clear hown5 hgr5 hnew5 bb5)
      all_goals (go_wp2_with fail; go_meet)
      all_goals exact ⟨_, NewSt.start (K1.out).1 rfl (FIVE.out).2.1 (FIVE.out).2.2.1 (FIVE.out).1⟩
    case rest =>
      obtain ⟨vl, hst0⟩ := hcut.out
      have HST0 := hide hst0
      clear hst0 hcut b0 b1 b2 lx K1 CF
      generalize w1.heap.size = b at *
      go_wp2_with fail
      go_loopg [6] c.toNat (fun q i wr => ∃ (j : Nat) (vc : Value), q + j = c.toNat ∧ i = I j ∧ Hid (NewSt w wr b c lock a cap lims vl vc j))
      case atStart => exact ⟨0, _, by omega, rfl, HST0.out⟩
      case round =>
        obtain ⟨j, vc, hq, rfl, hst⟩ := hrel
        have hs := hst.out
        have b0 : wr.cell? ⟨w.heap.size, 0, none⟩ = some (I c) := by rw [hs.cfg.cell]; rfl
        by_cases hj : j < c.toNat
        · obtain ⟨ac, cpc, hvc⟩ := row_slice hs.chs
          subst hvc
          have c5 : wr.cell? ⟨b, 5, none⟩ = some (.slice ac j cpc) := by rw [hs.head.cell]; rfl
          have f5 := hs.head.frozen 5
          have lb := hs.head.lt
          have hji : (j : Int) < c := by omega
          have HS2 := hide (And.intro hs hq)
          clear hs hst hq
          go_wp2_with (at_builtin; refine wpList_append_row _ rfl _ _ 95 rfl 166 iC (.agg #[I 0, I 0, .bool false, I 0]) 4 32 Tryz.underlying95 hiC hzC0 hzC1 hzC2 rfl (by decide) _ _ _ rfl (row_frm (HS2.out).1.chs (show Keep _ _ from (Frm.refl _ _).alloc _) (fun _ _ e => e)) ⟨wr.heap.size, 0, none⟩ 1 1 [I 0, I (-1), .bool false, I (-1)] rfl rfl (cell_news _ [I 0, I (-1), .bool false, I (-1)] _ _ (by simp)) (by intro u hu; simp at hu; rcases hu with rfl | rfl | rfl | rfl <;> rfl) (by unfold maxLen; omega) (by omega) ?_; intro v' w2 hown hgr hnew; obtain ⟨a5, cp5, hv5⟩ := row_slice hown; subst hv5; have bb5 := ((show Keep _ _ from (Frm.refl _ _).alloc _).blk (HS2.out).1.head).frm (grown_frm hgr) (fun e => by have := (HS2.out).1.bc _ e; omega); have c55 : w2.cell? ⟨b, 5, none⟩ = some (.slice ac j cpc) := (by { rw [bb5.cell]; rfl }); have f55 := bb5.frozen 5; have FIVE := hide (And.intro hown (And.intro hgr hnew)); clear hown hgr hnew bb5)
          go_roundg (gk - 1)
          case measure => have := (HS2.out).2; omega
          case rel => exact ⟨j + 1, _, by have := (HS2.out).2; omega, by simp, NewSt.chan (HS2.out).1 (show Keep _ _ from (Frm.refl _ _).alloc _) (FIVE.out).2.1 (FIVE.out).2.2 (FIVE.out).1⟩
        · have hje : j = c.toNat := by omega
          have hji : c ≤ (j : Int) := by omega
          have HS2 := hide (And.intro hs hje)
          clear hs hst hq hje
          go_wp2_with fail
          go_ret2
          obtain ⟨hs, rfl⟩ := HS2.out
          have hbl := hs.lt
          refine ⟨hs.keep, Or.inr ⟨HF.out, b, vl, vc, rfl, ⟨?_, hs.lims, by simpa [rnew] using World.ownsRow_nil .., by simpa [rnew] using hs.chs, by simpa [rnew] using World.ownsRow_nil .., ⟨fun e => by have := hs.bl _ e; omega, by simp [Value.ownBlock], fun e => by have := hs.bc _ e; omega, by simp [Value.ownBlock], fun x _ => by simp [Value.ownBlock], hs.dis, fun x _ => by simp [Value.ownBlock], fun x hx => by simp [Value.ownBlock] at hx, fun x hx => by simp [Value.ownBlock] at hx, fun x _ => by simp [Value.ownBlock]⟩⟩, ?_⟩⟩
          · have := hs.head
            have e1 : ((rnew c.toNat lims lock).chs.length : Int) = c := by simp [rnew]; omega
            rw [e1]; exact this
          · rintro x (e | e | e | e | e)
            · omega
            · have := hs.bl x e; omega
            · simp [Value.ownBlock] at e
            · have := hs.bc x e; omega
            · simp [Value.ownBlock] at e

end Go.Proofs.YtpilmkipbbengaaGreatDoor
