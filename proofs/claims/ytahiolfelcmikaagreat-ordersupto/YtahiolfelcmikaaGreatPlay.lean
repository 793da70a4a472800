/- driplaw: played. -/
import Derived.Test.YtahiolfelcmikaaGreatStp2
namespace Go.Proofs.YtahiolfelcmikaaGreat
open Go.RowKit

/-- a step of a script, as a program reads it -/
structure OpR where
  k : Int
  p : Int
  a : Int
  b : Int
  c : Int
  d : Int
  ch : Int
  al : Option Addr
  lims : List Lim
  cl : Nat
  lock : Int
  s : ByteArray

def OpR.cells (r : OpR) : List Value := [I r.k, I r.p, I r.a, I r.b, I r.c, I r.d, I r.ch, .slice r.al r.lims.length r.cl, I r.lock, .string r.s]

structure OpR.Ok (w : World) (r : OpR) : Prop where
  see : SeeL w r.al r.lims
  none : r.al = none → r.lims.length = 0 ∧ r.cl = 0
  cap : r.lims.length ≤ r.cl
  n : r.lims.length ≤ 10000000
  p1 : -9223372036854775808 ≤ r.p
  p2 : r.p ≤ 9223372036854775807

def ScriptAt (w : World) (al : Option Addr) (rs : List OpR) : Prop :=
  rs = [] ∨ ∃ g o, al = some ⟨g, o, none⟩ ∧ g < w.heap.size ∧ ∀ (i : Nat) (r : OpR), rs[i]? = some r → (∀ j : Nat, j < 10 → w.cell? ⟨g, o + i * 10 + j, none⟩ = r.cells[j]?) ∧ r.Ok w

/-- a world of the law, whatever its lists: behind k steps -/
def WS (pa : Rep) (B : Nat) (wb : Nat) (k : Nat) (w : World) : Prop :=
  ∃ vp vd vl vm ds ms ls ps, WSt pa B w wb vp vd vl vm ds ms ls ps ∧ ds.length ≤ 4 * k ∧ ls.length ≤ k ∧ ps.length ≤ k ∧ ∀ (j : Nat) (q : PR), ps[j]? = some q → q.rx = q.ry

theorem WS.keep {pa : Rep} {fN fB fR fO fW : FuncId} (P : Pumpy fN fB fR fO fW pa) {B wb k : Nat} {w w' : World} (h : WS pa B wb k w) (f : Keep w w') : WS pa B wb k w' := by
  obtain ⟨vp, vd, vl, vm, ds, ms, ls, ps, h1, h2⟩ := h
  exact ⟨vp, vd, vl, vm, ds, ms, ls, ps, WSt.keep P h1 f, h2⟩

theorem WS.new (pa : Rep) (B wb : Nat) (w : World) (hb : Blk w wb #[.slice none 0 0, .slice none 0 0, .slice none 0 0, .slice none 0 0] 31) (hB : B ≤ wb) : WS pa B wb 0 w := by
  refine ⟨_, _, _, _, [], [], [], [], ⟨⟨hb, World.ownsRow_nil .., World.ownsRow_nil .., World.ownsRow_nil .., rfl, by simp, by simp⟩, ?_, World.ownsRow_nil .., by simp, by simp, by simp, by simp, by simp, by simp, ?_, by simp, by have := hb.lt; omega⟩, by simp, by simp, by simp, by simp⟩
  · constructor <;> simp [Value.ownBlock, Dis]
  · intro x hx
    simp [LF, Value.ownBlock] at hx
    omega

theorem step_ws (pa : Rep) (P : Pumpy 17 34 23 27 29 pa) (B wb k : Nat) (r : OpR) (w : World) (h : WS pa B wb k w) (hk : k ≤ 10000000) (ok : r.Ok w) (h5 : r.k ≤ 5) :
    Calls Tryz.prog 6 #[.pointer (some ⟨wb, 0, none⟩), opV r.k r.p r.a r.b r.c r.d r.ch (.slice r.al r.lims.length r.cl) r.lock (.string r.s)] w fun e w' => e = .returned (.bool true) ∧ WS pa B wb (k + 1) w' ∧ Frm (fun x => B ≤ x) w w' := by
  obtain ⟨vp, vd, vl, vm, ds, ms, ls, ps, h1, h2, h3, h4, h5'⟩ := h
  refine (step_any pa P B wb vp vd vl vm ds ms ls ps r.k r.p r.a r.b r.c r.d r.ch r.al r.lims r.cl r.lock r.s w h1 h5' ok.see ok.none ok.cap ok.n (by omega) (by omega) (by omega) h5 ok.p1 ok.p2).mono ?_
  rintro e w' ⟨rfl, vp, vd, vl, vm, ds', ms, ls', ps', g1, g2, g3, g4, g5, g6⟩
  exact ⟨rfl, ⟨vp, vd, vl, vm, ds', ms, ls', ps', g1, by omega, by omega, by omega, g5⟩, g6⟩

theorem ok_nil (w : World) (k a b : Int) : OpR.Ok w ⟨k, 0, a, b, 0, 0, 0, none, [], 0, 0, ⟨#[]⟩⟩ :=
  ⟨Or.inl rfl, fun _ => ⟨rfl, rfl⟩, Nat.le_refl _, by simp, by simp, by simp⟩

theorem ok_first (w : World) (T : TypeId) : OpR.Ok (w.alloc (.cells #[I 3, I 5, I 10, I 2, I 2, I 4] T)) ⟨1, 0, 0, 0, 0, 0, 2, some ⟨w.heap.size, 0, none⟩, [⟨3, 5, 10⟩, ⟨2, 2, 4⟩], 2, 3, ⟨#[]⟩⟩ := by
  have hb := Blk.new w #[I 3, I 5, I 10, I 2, I 2, I 4] T
  refine ⟨Or.inr ⟨w.heap.size, 0, rfl, hb.lt, ?_⟩, fun e => by simp at e, Nat.le_refl _, by simp, by simp, by simp⟩
  intro i l hi
  match i, hi with
  | 0, hi => simp at hi; subst hi; exact ⟨hb.cell 0, hb.cell 1, hb.cell 2⟩
  | 1, hi => simp at hi; subst hi; exact ⟨hb.cell 3, hb.cell 4, hb.cell 5⟩
  | i + 2, hi => simp at hi

theorem OpR.Ok.frm {w w' : World} {r : OpR} (h : r.Ok w) (f : Frm (fun x => w.heap.size ≤ x) w w') : r.Ok w' := by
  refine ⟨?_, h.none, h.cap, h.n, h.p1, h.p2⟩
  rcases h.see with e | ⟨g, o, e1, e2, e3⟩
  · exact Or.inl e
  · refine Or.inr ⟨g, o, e1, Nat.lt_of_lt_of_le e2 f.size, fun i l hl => ?_⟩
    obtain ⟨a1, a2, a3⟩ := e3 i l hl
    have hg : ¬ w.heap.size ≤ g := by omega
    exact ⟨f.cell a1 hg, f.cell a2 hg, f.cell a3 hg⟩

theorem script_at {w w' : World} {al : Option Addr} {rs : List OpR} (h : ScriptAt w al rs) (f : Frm (fun x => w.heap.size ≤ x) w w') {i : Nat} {r : OpR} (hi : rs[i]? = some r) :
    ∃ g o, al = some ⟨g, o, none⟩ ∧ (∀ j : Nat, j < 10 → w'.cell? ⟨g, o + i * 10 + j, none⟩ = r.cells[j]?) ∧ r.Ok w' := by
  rcases h with e | ⟨g, o, e1, e2, e3⟩
  · subst e; simp at hi
  · obtain ⟨a1, a2⟩ := e3 i r hi
    refine ⟨g, o, e1, fun j hj => ?_, a2.frm f⟩
    have hl : j < r.cells.length := by simpa [OpR.cells] using hj
    have a3 := a1 j hj
    rw [List.getElem?_eq_getElem hl] at a3 ⊢
    exact f.cell a3 (by show ¬ w.heap.size ≤ g; omega)

theorem looks_ws {pa : Rep} {fN fB fR fO fW : FuncId} (P : Pumpy fN fB fR fO fW pa) (B wb k : Nat) (w : World) (h : WS pa B wb k w) (hk : k ≤ 10000000) :
    Calls Tryz.prog 7 #[.pointer (some ⟨wb, 0, none⟩)] w fun r w' => r = .returned (.bool true) ∧ WS pa B wb k w' ∧ Keep w w' := by
  have h' := h
  obtain ⟨vp, vd, vl, vm, ds, ms, ls, ps, h1, h2, h3, h4, h5⟩ := h
  refine (looks_any wb vp vd vl vm ds ms ls w h1.L (by omega) (by omega)).mono ?_
  rintro e w' ⟨rfl, kw⟩
  exact ⟨rfl, WS.keep P h' kw, kw⟩

theorem WS.more {pa : Rep} {B wb k : Nat} {w : World} (h : WS pa B wb k w) {m : Nat} (hm : k ≤ m) : WS pa B wb m w := by
  obtain ⟨vp, vd, vl, vm, ds, ms, ls, ps, h1, h2, h3, h4, h5⟩ := h
  exact ⟨vp, vd, vl, vm, ds, ms, ls, ps, h1, by omega, by omega, by omega, h5⟩

set_option maxRecDepth 100000 in
set_option maxHeartbeats 3200000 in
theorem played_any (pa : Rep) (P : Pumpy 17 34 23 27 29 pa) (al : Option Addr) (rs : List OpR) (cap : Nat) (w : World)
    (h : ScriptAt w al rs) (hn : rs.length ≤ 1000000) :
    Calls Tryz.prog 5 #[.slice al rs.length cap, I 5] w fun r w' => r = .returned (.bool true) ∧ Frm (fun x => w.heap.size ≤ x) w w' := by
  have H := hide h
  clear h
  go_enter Tryz.func5, Tryz.ntmps5
  go_wp2_with fail
  refine (step_ws pa P w.heap.size w.heap.size 0 ⟨1, 0, 0, 0, 0, 0, 2, some ⟨w.heap.size + 1, 0, none⟩, [⟨3, 5, 10⟩, ⟨2, 2, 4⟩], 2, 3, ⟨#[]⟩⟩ _ (WS.new pa _ _ _ ((Blk.new _ _ _).alloc _) (Nat.le_refl _)) (by omega) (by simpa using ok_first (w.alloc (.cells #[.slice none 0 0, .slice none 0 0, .slice none 0 0, .slice none 0 0] 31)) _) (by simp)).mono ?_
  rintro e w1 ⟨rfl, s1, f1⟩
  have S1 := hide (And.intro s1 f1)
  clear s1 f1
  go_wp2_with fail
  refine (step_ws pa P w.heap.size w.heap.size 1 ⟨2, 0, 0, 3, 0, 0, 0, none, [], 0, 0, ⟨#[]⟩⟩ _ (S1.out).1 (by omega) (ok_nil _ _ _ _) (by simp)).mono ?_
  rintro e w2 ⟨rfl, s2, f2⟩
  have S2 := hide (And.intro s2 f2)
  clear s2 f2
  go_wp2_with fail
  refine (step_ws pa P w.heap.size w.heap.size 2 ⟨2, 0, 1, 3, 0, 0, 0, none, [], 0, 0, ⟨#[]⟩⟩ _ (S2.out).1 (by omega) (ok_nil _ _ _ _) (by simp)).mono ?_
  rintro e w3 ⟨rfl, s3, f3⟩
  have S3 := hide (And.intro s3 f3)
  clear s3 f3
  go_wp2_with fail
  refine (step_ws pa P w.heap.size w.heap.size 3 ⟨3, 0, 3, 0, 0, 0, 0, none, [], 0, 0, ⟨#[]⟩⟩ _ (S3.out).1 (by omega) (ok_nil _ _ _ _) (by simp)).mono ?_
  rintro e w4 ⟨rfl, s4, f4⟩
  have S4 := hide (And.intro s4 ((((S1.out).2.trans (S2.out).2).trans (S3.out).2).trans f4))
  clear s4 f4 S1 S2 S3
  go_wp2_with fail
  go_loopg [6, 7] rs.length (fun q ok i wr => ∃ j : Nat, q + j = rs.length ∧ i = I j ∧ ok = .bool true ∧ Hid (WS pa w.heap.size w.heap.size (4 + j) wr ∧ Frm (fun x => w.heap.size ≤ x) w wr))
  case atStart => exact ⟨0, by omega, rfl, rfl, hide ⟨(S4.out).1, (((Frm.refl _ _).alloc _).alloc _).trans (S4.out).2⟩⟩
  case round =>
    obtain ⟨j, hq, rfl, rfl, hk⟩ := hrel
    by_cases hj : j < rs.length
    · obtain ⟨r, hr⟩ : ∃ r, rs[j]? = some r := ⟨_, List.getElem?_eq_getElem hj⟩
      obtain ⟨g, o, rfl, hc, ok⟩ := script_at H.out (hk.out).2 hr
      have c0 := (hc 0 (by decide)).trans (show _ = some (I r.k) from rfl)
      have c1 := (hc 1 (by decide)).trans (show _ = some (I r.p) from rfl)
      have c2 := (hc 2 (by decide)).trans (show _ = some (I r.a) from rfl)
      have c3 := (hc 3 (by decide)).trans (show _ = some (I r.b) from rfl)
      have c4 := (hc 4 (by decide)).trans (show _ = some (I r.c) from rfl)
      have c5 := (hc 5 (by decide)).trans (show _ = some (I r.d) from rfl)
      have c6 := (hc 6 (by decide)).trans (show _ = some (I r.ch) from rfl)
      have c7 := (hc 7 (by decide)).trans (show _ = some (Value.slice r.al r.lims.length r.cl) from rfl)
      have c8 := (hc 8 (by decide)).trans (show _ = some (I r.lock) from rfl)
      have c9 := (hc 9 (by decide)).trans (show _ = some (Value.string r.s) from rfl)
      simp only [Nat.add_zero] at c0
      have HK := hide (And.intro hk.out (And.intro hq (And.intro ok hn)))
      clear hk hq hc ok hr hn
      by_cases h5 : r.k ≤ 5
      · have hb : 4 + j + 1 ≤ 10000000 := by have := (HK.out).2.2.2; omega
        have HB := hide hb
        have H5 := hide h5
        go_wp2_with fail
        refine (step_ws pa P w.heap.size w.heap.size (4 + j) r _ (HK.out).1.1 (by have := HB.out; omega) (HK.out).2.2.1 H5.out).mono ?_
        rintro e w5 ⟨rfl, s5, f5⟩
        have S5 := hide (And.intro s5 f5)
        clear s5 f5
        go_wp2_with fail
        refine (looks_ws P w.heap.size w.heap.size (4 + j + 1) _ (S5.out).1 HB.out).mono ?_
        rintro e w6 ⟨rfl, s6, k6⟩
        have S6 := hide (And.intro s6 k6)
        clear s6 k6
        go_wp2_with fail
        go_roundg (gk - 1)
        case measure => have := (HK.out).2.1; omega
        case rel => exact ⟨j + 1, by have := (HK.out).2.1; omega, by simp, rfl, hide ⟨(S6.out).1, ((HK.out).1.2.trans (S5.out).2).trans ((S6.out).2.mono (fun _ _ e => e.elim))⟩⟩
      · have hb : 4 + j ≤ 10000000 := by have := (HK.out).2.2.2; omega
        have HB := hide hb
        go_wp2_with fail
        refine (looks_ws P w.heap.size w.heap.size (4 + j) _ (HK.out).1.1 HB.out).mono ?_
        rintro e w6 ⟨rfl, s6, k6⟩
        have S6 := hide (And.intro s6 k6)
        clear s6 k6
        go_wp2_with fail
        go_roundg (gk - 1)
        case measure => have := (HK.out).2.1; omega
        case rel => exact ⟨j + 1, by have := (HK.out).2.1; omega, by simp, rfl, hide ⟨(S6.out).1.more (by omega), (HK.out).1.2.trans ((S6.out).2.mono (fun _ _ e => e.elim))⟩⟩
    · have HK := hide (And.intro hk.out hq)
      clear hk hq
      go_wp2_with fail
      go_ret
      exact ⟨rfl, (HK.out).1.2⟩

end Go.Proofs.YtahiolfelcmikaaGreat
