/- The pump of the program in memory (no orders yet). -/
import Derived.Test.YtahiolfelcmikaaGreatDpure
import Derived.Test.YtahiolfelcmikaaGreatAgd
namespace Go.Proofs.YtahiolfelcmikaaGreat
open Go.RowKit

/-- a window's block, its ring's, what it is -/
abbrev Wd := Nat × Nat × Win

/-- the windows' list: the blocks of each window, and what it is -/
structure WsAt (w : World) (vw : Value) (ws : List Wd) : Prop where
  row : w.ownsRow 0 95 1 vw ws.length (ws.flatMap fun x => [ptr x.1 0])
  each : ∀ (i : Nat) (x : Wd), ws[i]? = some x → WinAt w x.1 x.2.1 x.2.2
  dis : ∀ (i j : Nat) (x y : Wd), ws[i]? = some x → ws[j]? = some y → i ≠ j → x.1 ≠ y.1 ∧ x.1 ≠ y.2.1 ∧ x.2.1 ≠ y.1 ∧ x.2.1 ≠ y.2.1
  out : ∀ (i : Nat) (x : Wd), ws[i]? = some x → vw.ownBlock ≠ some x.1 ∧ vw.ownBlock ≠ some x.2.1

def WsF (vw : Value) (ws : List Wd) : Nat → Prop := fun b => vw.ownBlock = some b ∨ ∃ (i : Nat) (x : Wd), ws[i]? = some x ∧ (b = x.1 ∨ b = x.2.1)

theorem WsAt.lt {w : World} {vw : Value} {ws : List Wd} (h : WsAt w vw ws) : ∀ b, WsF vw ws b → b < w.heap.size := by
  rintro b (e | ⟨i, x, hi, rfl | rfl⟩)
  · exact (h.row.lt b e).2
  · exact (h.each i x hi).own.lt
  · exact (h.each i x hi).ring.lt

theorem WinAt.frm {S : Nat → Prop} {w w' : World} {b rb : Nat} {W : Win} (h : WinAt w b rb W) (f : Frm S w w') (h1 : ¬ S b) (h2 : ¬ S rb) : WinAt w' b rb W := ⟨h.own.frm f h1, h.ring.frm f h2, h.ne⟩

theorem WsAt.frm {S : Nat → Prop} {w w' : World} {vw : Value} {ws : List Wd} (h : WsAt w vw ws) (f : Frm S w w') (hs : ∀ b, WsF vw ws b → ¬ S b) : WsAt w' vw ws :=
  ⟨row_frm h.row f fun g hg => hs g (Or.inl hg), fun i x hi => (h.each i x hi).frm f (hs _ (Or.inr ⟨i, x, hi, Or.inl rfl⟩)) (hs _ (Or.inr ⟨i, x, hi, Or.inr rfl⟩)), h.dis, h.out⟩

/-- one window has turned -/
theorem WsAt.turn {w w' : World} {vw : Value} {ws : List Wd} (h : WsAt w vw ws) {i : Nat} {x : Wd} (hi : ws[i]? = some x) {W' : Win} (f : Frm (fun b => b = x.1 ∨ b = x.2.1) w w') (hw : WinAt w' x.1 x.2.1 W') :
    WsAt w' vw (ws.set i (x.1, x.2.1, W')) := by
  have hli : i < ws.length := (List.getElem?_eq_some_iff.1 hi).1
  have key : ∀ (j : Nat) (y : Wd), (ws.set i (x.1, x.2.1, W'))[j]? = some y → ∃ z : Wd, ws[j]? = some z ∧ y.1 = z.1 ∧ y.2.1 = z.2.1 := by
    intro j y hy
    by_cases e : i = j
    · subst e
      rw [List.getElem?_set_self hli] at hy; simp at hy; subst hy
      exact ⟨x, hi, rfl, rfl⟩
    · rw [List.getElem?_set_ne e] at hy
      exact ⟨y, hy, rfl, rfl⟩
  have ho := h.out i x hi
  refine ⟨?_, ?_, ?_, ?_⟩
  · have hr : w'.ownsRow 0 95 1 vw ws.length (ws.flatMap fun x => [ptr x.1 0]) := row_frm h.row f fun g hg => by
      rintro (e | e)
      · exact ho.1 (by rw [hg, e])
      · exact ho.2 (by rw [hg, e])
    have e : (ws.set i (x.1, x.2.1, W')).flatMap (fun x => [ptr x.1 0]) = ws.flatMap fun x => [ptr x.1 0] := by
      simp only [← List.map_eq_flatMap]
      apply List.ext_getElem?
      intro j
      simp only [List.getElem?_map]
      by_cases e : i = j
      · subst e; rw [List.getElem?_set_self hli, hi]; rfl
      · rw [List.getElem?_set_ne e]
    rw [e, List.length_set]; exact hr
  · intro j y hy
    by_cases e : i = j
    · subst e
      rw [List.getElem?_set_self hli] at hy; simp at hy; subst hy
      exact hw
    · rw [List.getElem?_set_ne e] at hy
      have d := h.dis j i y x hy hi (Ne.symm e)
      refine (h.each j y hy).frm f ?_ ?_
      · rintro (e | e)
        · exact d.1 e
        · exact d.2.1 e
      · rintro (e | e)
        · exact d.2.2.1 e
        · exact d.2.2.2 e
  · intro j k y z hy hz hne
    obtain ⟨y', h1, h2, h3⟩ := key j y hy
    obtain ⟨z', h4, h5, h6⟩ := key k z hz
    rw [h2, h3, h5, h6]
    exact h.dis j k y' z' h1 h4 hne
  · intro j y hy
    obtain ⟨y', h1, h2, h3⟩ := key j y hy
    rw [h2, h3]
    exact h.out j y' h1

theorem WsF.set {vw : Value} {ws : List Wd} {i : Nat} {x : Wd} (hi : ws[i]? = some x) (W' : Win) (b : Nat) : WsF vw (ws.set i (x.1, x.2.1, W')) b ↔ WsF vw ws b := by
  have hli : i < ws.length := (List.getElem?_eq_some_iff.1 hi).1
  constructor
  · rintro (e | ⟨j, y, hy, e⟩)
    · exact Or.inl e
    · by_cases q : i = j
      · subst q; rw [List.getElem?_set_self hli] at hy; simp at hy; subst hy
        exact Or.inr ⟨i, x, hi, e⟩
      · rw [List.getElem?_set_ne q] at hy; exact Or.inr ⟨j, y, hy, e⟩
  · rintro (e | ⟨j, y, hy, e⟩)
    · exact Or.inl e
    · by_cases q : i = j
      · subst q; rw [hi] at hy; simp at hy; subst hy
        exact Or.inr ⟨i, _, List.getElem?_set_self hli, e⟩
      · exact Or.inr ⟨j, y, by rw [List.getElem?_set_ne q]; exact hy, e⟩

/-- all windows with the limits -/
def Fits (ws : List Wd) (lims : List Lim) (ds : List Ds) (now : Int) : Prop :=
  ws.length = lims.length ∧ ∀ (i : Nat) (x : Wd) (l : Lim), ws[i]? = some x → lims[i]? = some l → Fit x.2.2 l ds now

/-- a channel: its rate, the entry that ends it (and the cell in which the closure has its channel) -/
structure DCh where
  rate : Int
  ent : Option (Ent × Nat)

def endV : Option (Ent × Nat) → Value
  | none => .pointer none
  | some x => ptr x.1.blk 0
def dchC (c : DCh) : List Value := [I c.rate, endV c.ent, .slice none 0 0, .bool false, I 0]

structure DSt where
  now : Int
  lock : Int
  chs : List DCh
  ws : List Wd
  num : Int
  eb : Option Nat
  es : List Ent

def dCells (now lock : Int) (vc vw sl : Value) (num : Int) : Array Value := #[I now, I lock, vc, vw, sl, I num, .slice none 0 0, I 0]
abbrev CsF (vc : Value) : Nat → Prop := fun x => vc.ownBlock = some x
/-- the closures' cells -/
def KsF (chs : List DCh) : Nat → Prop := fun x => ∃ (k : Nat) (c : DCh) (e : Ent), chs[k]? = some c ∧ c.ent = some (e, x)
def entsOf (chs : List DCh) : List Ent := chs.filterMap fun c => c.ent.map (·.1)

structure DSep (b : Nat) (eb : Option Nat) (es : List Ent) (vc vw : Value) (chs : List DCh) (ws : List Wd) : Prop where
  ac : ∀ x, AgF b eb es x → ¬ CsF vc x
  av : ∀ x, AgF b eb es x → ¬ WsF vw ws x
  ak : ∀ x, AgF b eb es x → ¬ KsF chs x
  cv : ∀ x, CsF vc x → ¬ WsF vw ws x
  ck : ∀ x, CsF vc x → ¬ KsF chs x
  vk : ∀ x, WsF vw ws x → ¬ KsF chs x

/-- what the entry of channel k does -/
def EndAt (w : World) (vc : Value) (k : Nat) (e : Ent) (cb : Nat) : Prop :=
  e.act = .func (.func 61) #[] #[ptr cb 0] ∧ ∃ g n cap, vc = .slice (some ⟨g, 0, none⟩) n cap ∧ Blk w cb #[ptr g (k * 5)] 113

structure DAt (w : World) (b : Nat) (D : DSt) (vc vw : Value) : Prop where
  ag : ∃ sl, AgAt w b 4 (dCells D.now D.lock vc vw sl D.num) 94 D.eb D.es
  heap : HeapN D.es.length D.es
  chs : w.ownsRow 0 116 5 vc D.chs.length (D.chs.flatMap dchC)
  ws : WsAt w vw D.ws
  ends : ∀ (k : Nat) (c : DCh) (e : Ent) (cb : Nat), D.chs[k]? = some c → c.ent = some (e, cb) → EndAt w vc k e cb
  perm : D.es.Perm (entsOf D.chs)
  sep : DSep b D.eb D.es vc vw D.chs D.ws

def DF (b : Nat) (D : DSt) (vc vw : Value) : Nat → Prop := fun x => AgF b D.eb D.es x ∨ CsF vc x ∨ WsF vw D.ws x ∨ KsF D.chs x

theorem DAt.lt {w : World} {b : Nat} {D : DSt} {vc vw : Value} (h : DAt w b D vc vw) : ∀ x, DF b D vc vw x → x < w.heap.size := by
  rintro x (e | e | e | ⟨k, c, e, h1, h2⟩)
  · obtain ⟨sl, ha⟩ := h.ag; exact ha.lt x e
  · exact (h.chs.lt x e).2
  · exact h.ws.lt x e
  · obtain ⟨_, g, n, cap, _, hb⟩ := h.ends k c e x h1 h2
    exact hb.lt

theorem EndAt.frm {S : Nat → Prop} {w w' : World} {vc : Value} {k : Nat} {e : Ent} {cb : Nat} (h : EndAt w vc k e cb) (f : Frm S w w') (hs : ¬ S cb) : EndAt w' vc k e cb := by
  obtain ⟨h1, g, n, cap, h2, h3⟩ := h
  exact ⟨h1, g, n, cap, h2, h3.frm f hs⟩

theorem DAt.frm {S : Nat → Prop} {w w' : World} {b : Nat} {D : DSt} {vc vw : Value} (h : DAt w b D vc vw) (f : Frm S w w') (hs : ∀ x, DF b D vc vw x → ¬ S x) : DAt w' b D vc vw := by
  obtain ⟨sl, ha⟩ := h.ag
  exact ⟨⟨sl, ha.frm f fun x hx => hs x (Or.inl hx)⟩, h.heap, row_frm h.chs f fun g hg => hs g (Or.inr (Or.inl hg)), h.ws.frm f fun x hx => hs x (Or.inr (Or.inr (Or.inl hx))),
    fun k c e cb h1 h2 => (h.ends k c e cb h1 h2).frm f (hs cb (Or.inr (Or.inr (Or.inr ⟨k, c, e, h1, h2⟩)))), h.perm, h.sep⟩

theorem DAt.keep {w w' : World} {b : Nat} {D : DSt} {vc vw : Value} (h : DAt w b D vc vw) (k : Keep w w') : DAt w' b D vc vw := h.frm k fun _ _ e => e

end Go.Proofs.YtahiolfelcmikaaGreat
