/- What is due: a rate ends, an entry goes, an entry comes. -/
import Derived.Test.YtahiolfelcmikaaGreatDgive
namespace Go.Proofs.YtahiolfelcmikaaGreat
open Go.RowKit

theorem ents_mem {chs : List DCh} {x : Ent} (h : x ∈ entsOf chs) : ∃ (k : Nat) (c : DCh) (cb : Nat), chs[k]? = some c ∧ c.ent = some (x, cb) := by
  obtain ⟨c, hc, he⟩ := List.mem_filterMap.1 h
  obtain ⟨k, hk⟩ := List.getElem?_of_mem hc
  cases hh : c.ent with
  | none => rw [hh] at he; simp at he
  | some y => rw [hh] at he; simp at he; exact ⟨k, c, y.2, hk, by rw [hh, ← he]⟩

theorem ents_out {x : Ent} {cb : Nat} (r : Int) : ∀ (chs : List DCh) (k : Nat) (c : DCh), chs[k]? = some c → c.ent = some (x, cb) → (entsOf chs).Perm (x :: entsOf (chs.set k ⟨r, none⟩)) := by
  intro chs
  induction chs with
  | nil => intro k c h; simp at h
  | cons a chs ih =>
    intro k c h he
    cases k with
    | zero =>
      simp at h; subst h
      simp [entsOf, he]
    | succ k =>
      simp at h
      have := ih k c h he
      simp only [List.set_cons_succ]
      unfold entsOf at this ⊢
      rw [List.filterMap_cons, List.filterMap_cons]
      cases a.ent with
      | none => simpa using this
      | some y => simpa using (this.cons y.1).trans (List.Perm.swap x y.1 _)

theorem ents_same (r : Int) : ∀ (chs : List DCh) (k : Nat) (c : DCh), chs[k]? = some c → c.ent = none → entsOf (chs.set k ⟨r, none⟩) = entsOf chs := by
  intro chs
  induction chs with
  | nil => intro k c h; simp at h
  | cons a chs ih =>
    intro k c h he
    cases k with
    | zero =>
      simp at h; subst h
      simp [entsOf, he]
    | succ k =>
      simp at h
      have := ih k c h he
      simp only [List.set_cons_succ]
      unfold entsOf at this ⊢
      rw [List.filterMap_cons, List.filterMap_cons, this]

theorem ents_in {x : Ent} {cb : Nat} (r : Int) : ∀ (chs : List DCh) (k : Nat) (c : DCh), chs[k]? = some c → c.ent = none → (entsOf (chs.set k ⟨r, some (x, cb)⟩)).Perm (x :: entsOf chs) := by
  intro chs
  induction chs with
  | nil => intro k c h; simp at h
  | cons a chs ih =>
    intro k c h he
    cases k with
    | zero =>
      simp at h; subst h
      simp [entsOf, he]
    | succ k =>
      simp at h
      have := ih k c h he
      simp only [List.set_cons_succ]
      unfold entsOf at this ⊢
      rw [List.filterMap_cons, List.filterMap_cons]
      cases a.ent with
      | none => simpa using this
      | some y => simpa using (this.cons y.1).trans (List.Perm.swap x y.1 _)

/-- a channel's cells, written -/
theorem chs_set {w : World} {vc : Value} {chs : List DCh} {n g cap k i : Nat} (h : w.ownsRow 0 116 5 vc n (chs.flatMap dchC)) (hv : vc = .slice (some ⟨g, 0, none⟩) n cap) {c c' : DCh} (hc : chs[k]? = some c) (hi : i < 5) {u : Value} (hf : dchC c' = (dchC c).set i u) :
    (w.setCell ⟨g, k * 5 + i, none⟩ u).ownsRow 0 116 5 vc n ((chs.set k c').flatMap dchC) := by
  subst hv
  exact row_set h (fun _ => rfl) hc hi hf

theorem AgF_sub {b : Nat} {eb : Option Nat} {es es' : List Ent} (h : ∀ e ∈ es', e ∈ es) {x : Nat} (hx : AgF b eb es' x) : AgF b eb es x := by
  rcases hx with e | e | ⟨e, he, rfl⟩
  · exact Or.inl e
  · exact Or.inr (Or.inl e)
  · exact Or.inr (Or.inr ⟨e, h e he, rfl⟩)

theorem KsF_out {chs : List DCh} {k : Nat} {r : Int} {x : Nat} (h : KsF (chs.set k ⟨r, none⟩) x) : KsF chs x := by
  obtain ⟨j, c, e, h1, h2⟩ := h
  by_cases q : k = j
  · subst q
    rw [List.getElem?_set] at h1
    split at h1
    · split at h1
      · simp at h1; subst h1; simp at h2
      · simp at h1
    · exact ⟨_, c, e, h1, h2⟩
  · rw [List.getElem?_set_ne q] at h1
    exact ⟨j, c, e, h1, h2⟩

/-- the channel's entry is out (or there was none), and its cells are written -/
theorem DAt.out {w w1 : World} {b : Nat} {D : DSt} {vc vw sl : Value} (h : DAt w b D vc vw) {k g cap : Nat} {c : DCh} (hk : D.chs[k]? = some c) (hv : vc = .slice (some ⟨g, 0, none⟩) D.chs.length cap) {es' : List Ent} (r : Int)
    (ag : AgAt w1 b 4 (dCells D.now D.lock vc vw sl D.num) 94 D.eb es') (hp : HeapN es'.length es') (sub : ∀ e ∈ es', e ∈ D.es) (pm : es'.Perm (entsOf (D.chs.set k ⟨r, none⟩))) (fr : Frm (AgF b D.eb D.es) w w1) :
    DAt ((w1.setCell ⟨g, k * 5, none⟩ (I r)).setCell ⟨g, k * 5 + 1, none⟩ (.pointer none)) b { D with chs := D.chs.set k ⟨r, none⟩, es := es' } vc vw ∧
      Frm (DF b D vc vw) w ((w1.setCell ⟨g, k * 5, none⟩ (I r)).setCell ⟨g, k * 5 + 1, none⟩ (.pointer none)) ∧ ∀ x, DF b { D with chs := D.chs.set k ⟨r, none⟩, es := es' } vc vw x → DF b D vc vw x := by
  have hvb : CsF vc g := by rw [hv]; rfl
  have hkl : k < D.chs.length := (List.getElem?_eq_some_iff.1 hk).1
  have f2 : Frm (CsF vc) w1 ((w1.setCell ⟨g, k * 5, none⟩ (I r)).setCell ⟨g, k * 5 + 1, none⟩ (.pointer none)) :=
    ((Frm.refl (CsF vc) w1).setCell (p := ⟨g, k * 5, none⟩) hvb (I r)).setCell (p := ⟨g, k * 5 + 1, none⟩) hvb (.pointer none)
  have s := h.sep
  refine ⟨⟨⟨sl, ag.frm f2 fun x hx => s.ac x (AgF_sub sub hx)⟩, hp, ?_, ?_, ?_, pm, ?_⟩, ?_, ?_⟩
  · have h1 : w1.ownsRow 0 116 5 vc D.chs.length (D.chs.flatMap dchC) := row_frm h.chs fr fun x hx he => s.ac x he hx
    have h2 := chs_set (i := 0) h1 hv hk (by omega) (c' := ⟨r, c.ent⟩) (u := I r) rfl
    have h3 := chs_set (i := 1) (c := ⟨r, c.ent⟩) h2 hv (k := k) (by rw [List.getElem?_set_self hkl]) (by omega) (c' := ⟨r, none⟩) (u := .pointer none) rfl
    rw [List.set_set] at h3
    simpa using h3
  · exact (h.ws.frm fr fun x hx he => s.av x he hx).frm f2 fun x hx he => s.cv x he hx
  · intro j d e cb h1 h2
    by_cases q : k = j
    · subst q; rw [List.getElem?_set_self hkl] at h1; simp at h1; subst h1; simp at h2
    · rw [List.getElem?_set_ne q] at h1
      have hK : KsF D.chs cb := ⟨j, d, e, h1, h2⟩
      exact ((h.ends j d e cb h1 h2).frm fr fun he => s.ak cb he hK).frm f2 fun he => s.ck cb he hK
  · exact ⟨fun x hx => s.ac x (AgF_sub sub hx), fun x hx => s.av x (AgF_sub sub hx), fun x hx hK => s.ak x (AgF_sub sub hx) (KsF_out hK), s.cv, fun x hx hK => s.ck x hx (KsF_out hK), fun x hx hK => s.vk x hx (KsF_out hK)⟩
  · exact (fr.mono fun x _ hx => Or.inl hx).trans (f2.mono fun x _ hx => Or.inr (Or.inl hx))
  · rintro x (e | e | e | e)
    · exact Or.inl (AgF_sub sub e)
    · exact Or.inr (Or.inl e)
    · exact Or.inr (Or.inr (Or.inl e))
    · exact Or.inr (Or.inr (Or.inr (KsF_out e)))

theorem dCells_sl (now lock : Int) (vc vw sl sl' : Value) (num : Int) : (dCells now lock vc vw sl num).setIfInBounds 4 sl' = dCells now lock vc vw sl' num := by simp [dCells]
theorem dCells_num (now lock : Int) (vc vw sl : Value) (num num' : Int) : (dCells now lock vc vw sl num).setIfInBounds 5 (I num') = dCells now lock vc vw sl num' := by simp [dCells]
theorem dCells_now (now lock : Int) (vc vw sl : Value) (num now' : Int) : (dCells now lock vc vw sl num).setIfInBounds 0 (I now') = dCells now' lock vc vw sl num := by simp [dCells]

/-- an entry has come for the channel -/
theorem DAt.come {w w1 : World} {b : Nat} {D : DSt} {vc vw sl : Value} (h : DAt w b D vc vw) {k g cap cb : Nat} {c : DCh} (hk : D.chs[k]? = some c) (hn : c.ent = none) (hv : vc = .slice (some ⟨g, 0, none⟩) D.chs.length cap) (hcb : Blk w cb #[ptr g (k * 5)] 113) (hno : ¬ DF b D vc vw cb)
    {es' : List Ent} {eb' : Option Nat} {x : Ent} {num : Int} (ha : x.act = .func (.func 61) #[] #[ptr cb 0]) (hx : w.heap.size ≤ x.blk) (heb : eb' = D.eb ∨ ∃ q, eb' = some q ∧ w.heap.size ≤ q)
    (ag : AgAt w1 b 4 (dCells D.now D.lock vc vw sl num) 94 eb' es') (hp : HeapN es'.length es') (pm : es'.Perm (x :: D.es)) (fr : Frm (AgF b D.eb D.es) w w1) :
    DAt (w1.setCell ⟨g, k * 5 + 1, none⟩ (ptr x.blk 0)) b { D with chs := D.chs.set k ⟨c.rate, some (x, cb)⟩, es := es', eb := eb', num := num } vc vw ∧
      Frm (DF b D vc vw) w (w1.setCell ⟨g, k * 5 + 1, none⟩ (ptr x.blk 0)) ∧ ∀ y, DF b { D with chs := D.chs.set k ⟨c.rate, some (x, cb)⟩, es := es', eb := eb', num := num } vc vw y → DF b D vc vw y ∨ y = cb ∨ w.heap.size ≤ y := by
  have hvb : CsF vc g := by rw [hv]; rfl
  have hkl : k < D.chs.length := (List.getElem?_eq_some_iff.1 hk).1
  have f2 : Frm (CsF vc) w1 (w1.setCell ⟨g, k * 5 + 1, none⟩ (ptr x.blk 0)) := (Frm.refl (CsF vc) w1).setCell (p := ⟨g, k * 5 + 1, none⟩) hvb (ptr x.blk 0)
  have s := h.sep
  have hlt := h.lt
  have agf : ∀ y, AgF b eb' es' y → AgF b D.eb D.es y ∨ w.heap.size ≤ y := by
    rintro y (e | e | ⟨e, he, rfl⟩)
    · exact Or.inl (Or.inl e)
    · rcases heb with q | ⟨q, e1, e2⟩
      · exact Or.inl (Or.inr (Or.inl (by rw [← q]; exact e)))
      · rw [e1] at e; injection e with e; exact Or.inr (by omega)
    · rcases List.mem_cons.1 (pm.mem_iff.1 he) with rfl | h'
      · exact Or.inr hx
      · exact Or.inl (Or.inr (Or.inr ⟨e, h', rfl⟩))
  have ksf : ∀ y, KsF (D.chs.set k ⟨c.rate, some (x, cb)⟩) y → KsF D.chs y ∨ y = cb := by
    rintro y ⟨j, d, e, h1, h2⟩
    by_cases q : k = j
    · subst q; rw [List.getElem?_set_self hkl] at h1; simp at h1; subst h1; simp at h2; exact Or.inr h2.2.symm
    · rw [List.getElem?_set_ne q] at h1; exact Or.inl ⟨j, d, e, h1, h2⟩
  have hcl := hcb.lt
  refine ⟨⟨⟨sl, ag.frm f2 ?_⟩, hp, ?_, ?_, ?_, ?_, ?_⟩, ?_, ?_⟩
  · intro y hy hc'
    rcases agf y hy with e | e
    · exact s.ac y e hc'
    · have := hlt y (Or.inr (Or.inl hc')); omega
  · have h1 : w1.ownsRow 0 116 5 vc D.chs.length (D.chs.flatMap dchC) := row_frm h.chs fr fun y hy he => s.ac y he hy
    have h2 := chs_set (i := 1) h1 hv hk (by omega) (c' := ⟨c.rate, some (x, cb)⟩) (u := ptr x.blk 0) rfl
    simpa using h2
  · exact (h.ws.frm fr fun y hy he => s.av y he hy).frm f2 fun y hy he => s.cv y he hy
  · intro j d e cb' h1 h2
    by_cases q : k = j
    · subst q; rw [List.getElem?_set_self hkl] at h1; simp at h1; subst h1; simp at h2
      obtain ⟨rfl, rfl⟩ := h2
      refine ⟨ha, g, _, cap, hv, (hcb.frm fr fun he => hno (Or.inl he)).frm f2 fun he => hno (Or.inr (Or.inl he))⟩
    · rw [List.getElem?_set_ne q] at h1
      have hK : KsF D.chs cb' := ⟨j, d, e, h1, h2⟩
      exact ((h.ends j d e cb' h1 h2).frm fr fun he => s.ak cb' he hK).frm f2 fun he => s.ck cb' he hK
  · exact pm.trans (((h.perm.cons x)).trans (ents_in c.rate D.chs k c hk hn).symm)
  · refine ⟨?_, ?_, ?_, s.cv, ?_, ?_⟩
    · intro y hy hc'
      rcases agf y hy with e | e
      · exact s.ac y e hc'
      · have := hlt y (Or.inr (Or.inl hc')); omega
    · intro y hy hc'
      rcases agf y hy with e | e
      · exact s.av y e hc'
      · have := hlt y (Or.inr (Or.inr (Or.inl hc'))); omega
    · intro y hy hc'
      rcases agf y hy with e | e <;> rcases ksf y hc' with e' | e'
      · exact s.ak y e e'
      · subst e'; exact hno (Or.inl e)
      · have := hlt y (Or.inr (Or.inr (Or.inr e'))); omega
      · omega
    · intro y hy hc'
      rcases ksf y hc' with e' | e'
      · exact s.ck y hy e'
      · subst e'; exact hno (Or.inr (Or.inl hy))
    · intro y hy hc'
      rcases ksf y hc' with e' | e'
      · exact s.vk y hy e'
      · subst e'; exact hno (Or.inr (Or.inr (Or.inl hy)))
  · exact (fr.mono fun y _ hy => Or.inl hy).trans (f2.mono fun y _ hy => Or.inr (Or.inl hy))
  · rintro y (e | e | e | e)
    · rcases agf y e with e | e
      · exact Or.inl (Or.inl e)
      · exact Or.inr (Or.inr e)
    · exact Or.inl (Or.inr (Or.inl e))
    · exact Or.inl (Or.inr (Or.inr (Or.inl e)))
    · rcases ksf y e with e | e
      · exact Or.inl (Or.inr (Or.inr (Or.inr e)))
      · exact Or.inr (Or.inl e)

end Go.Proofs.YtahiolfelcmikaaGreat
