/- The pump of the program in memory, whole: this part: its agenda, channels, windows. -/
import Derived.Test.YtpilmkipbbengaaGreatDoorDM
import Derived.Test.YtpilmkipbbengaaGreatDoorSl2
namespace Go.Proofs.YtpilmkipbbengaaGreatDoor
open Go.RowKit

/-- the closures' cells -/
def GKsF (chs : List GCh) : Nat → Prop := fun x => ∃ (k : Nat) (c : GCh) (e : Ent), chs[k]? = some c ∧ c.ent = some (e, x)

def gents (chs : List GCh) : List Ent := chs.filterMap fun c => c.ent.map (·.1)

structure GSep (b : Nat) (eb : Option Nat) (es : List Ent) (vc vw : Value) (chs : List GCh) (ws : List Wd) : Prop where
  ac : ∀ x, AgF b eb es x → ¬ CsF vc x
  av : ∀ x, AgF b eb es x → ¬ WsF vw ws x
  ak : ∀ x, AgF b eb es x → ¬ GKsF chs x
  cv : ∀ x, CsF vc x → ¬ WsF vw ws x
  ck : ∀ x, CsF vc x → ¬ GKsF chs x
  vk : ∀ x, WsF vw ws x → ¬ GKsF chs x

structure GAt (w : World) (b : Nat) (D : GSt) (vc vw : Value) : Prop where
  ag : ∃ sl, AgAt w b 4 (gCells D.now D.lock vc vw sl D.num D.vo D.nv) 75 D.eb D.es
  heap : HeapN D.es.length D.es
  chs : w.ownsRow 0 127 5 vc D.chs.length (D.chs.flatMap gchC)
  ws : WsAt w vw D.ws
  ends : ∀ (k : Nat) (c : GCh) (e : Ent) (cb : Nat), D.chs[k]? = some c → c.ent = some (e, cb) → EndAt w vc k e cb
  perm : D.es.Perm (gents D.chs ++ D.xt)
  sep : GSep b D.eb D.es vc vw D.chs D.ws

def GF (b : Nat) (D : GSt) (vc vw : Value) : Nat → Prop := fun x => AgF b D.eb D.es x ∨ CsF vc x ∨ WsF vw D.ws x ∨ GKsF D.chs x

theorem GAt.lt {w : World} {b : Nat} {D : GSt} {vc vw : Value} (h : GAt w b D vc vw) : ∀ x, GF b D vc vw x → x < w.heap.size := by
  rintro x (e | e | e | ⟨k, c, e, h1, h2⟩)
  · obtain ⟨sl, ha⟩ := h.ag; exact ha.lt x e
  · exact (h.chs.lt x e).2
  · exact h.ws.lt x e
  · obtain ⟨_, g, n, cap, _, hb⟩ := h.ends k c e x h1 h2
    exact hb.lt

theorem GAt.frm {S : Nat → Prop} {w w' : World} {b : Nat} {D : GSt} {vc vw : Value} (h : GAt w b D vc vw) (f : Frm S w w') (hs : ∀ x, GF b D vc vw x → ¬ S x) : GAt w' b D vc vw := by
  obtain ⟨sl, ha⟩ := h.ag
  exact ⟨⟨sl, ha.frm f fun x hx => hs x (Or.inl hx)⟩, h.heap, row_frm h.chs f fun g hg => hs g (Or.inr (Or.inl hg)), h.ws.frm f fun x hx => hs x (Or.inr (Or.inr (Or.inl hx))),
    fun k c e cb h1 h2 => (h.ends k c e cb h1 h2).frm f (hs cb (Or.inr (Or.inr (Or.inr ⟨k, c, e, h1, h2⟩)))), h.perm, h.sep⟩

theorem GAt.keep {w w' : World} {b : Nat} {D : GSt} {vc vw : Value} (h : GAt w b D vc vw) (k : Keep w w') : GAt w' b D vc vw := h.frm k fun _ _ e => e

/-- the blocks that calls write -/
def GW (b : Nat) (D : GSt) (vc vw : Value) : Nat → Prop := fun x => AgF b D.eb D.es x ∨ CsF vc x ∨ WsF vw D.ws x

/-- a block's type -/
def HasT (w : World) (x : Nat) (T : TypeId) : Prop := ∃ c, Blk w x c T

theorem HasT.uniq {w : World} {x : Nat} {T T' : TypeId} (h : HasT w x T) (k : HasT w x T') : T = T' := by
  obtain ⟨c, h⟩ := h
  obtain ⟨c', k⟩ := k
  unfold Blk at h k
  rw [h] at k
  injection k with k
  injection k

theorem row_ty {w : World} {e : TypeId} {size n : Nat} {v : Value} {xs : List Value} (h : w.ownsRow 0 e size v n xs) {x : Nat} (hx : v.ownBlock = some x) : HasT w x e := by
  rcases h.2 with ⟨rfl, -⟩ | ⟨g, cap, cur, rfl, -, h2, -⟩
  · cases hx
  · injection hx with hx
    exact ⟨cur, by rw [← hx]; exact h2⟩

theorem AgAt.ty {w : World} {hb ho : Nat} {c : Array Value} {T : TypeId} {eb : Option Nat} {es : List Ent} (h : AgAt w hb ho c T eb es) {x : Nat} (hx : AgF hb eb es x) : HasT w x T ∨ HasT w x 125 ∨ HasT w x 162 := by
  rcases hx with rfl | e | ⟨e, he, rfl⟩
  · exact Or.inl ⟨_, h.head⟩
  · obtain ⟨sl, -, h2, h3⟩ := h.row
    exact Or.inr (Or.inl (row_ty h2 (by rw [h3, e])))
  · obtain ⟨i, hi⟩ := List.getElem?_of_mem he
    exact Or.inr (Or.inr ⟨_, h.ent i e hi⟩)

theorem WsAt.ty {w : World} {vw : Value} {ws : List Wd} (h : WsAt w vw ws) {x : Nat} (hx : WsF vw ws x) : HasT w x 114 ∨ HasT w x 153 ∨ HasT w x 3 := by
  rcases hx with e | ⟨i, y, hy, rfl | rfl⟩
  · exact Or.inl (row_ty h.row e)
  · exact Or.inr (Or.inl ⟨_, (h.each i y hy).own⟩)
  · exact Or.inr (Or.inr ⟨_, (h.each i y hy).ring⟩)

/-- blocks of these types are not the orders' -/
def GTy (T : TypeId) : Prop := T = 75 ∨ T = 125 ∨ T = 162 ∨ T = 127 ∨ T = 114 ∨ T = 153 ∨ T = 3

theorem GTy.no {T : TypeId} (h : GTy T) : T ≠ 148 ∧ T ≠ 149 ∧ T ≠ 130 ∧ T ≠ 34 := by
  rcases h with rfl | rfl | rfl | rfl | rfl | rfl | rfl <;> decide

theorem GAt.ty {w : World} {b : Nat} {D : GSt} {vc vw : Value} (h : GAt w b D vc vw) {x : Nat} (hx : GW b D vc vw x) : ∃ T, HasT w x T ∧ GTy T := by
  obtain ⟨sl, ag⟩ := h.ag
  rcases hx with e | e | e
  · rcases ag.ty e with q | q | q
    · exact ⟨_, q, Or.inl rfl⟩
    · exact ⟨_, q, Or.inr (Or.inl rfl)⟩
    · exact ⟨_, q, Or.inr (Or.inr (Or.inl rfl))⟩
  · exact ⟨_, row_ty h.chs e, Or.inr (Or.inr (Or.inr (Or.inl rfl)))⟩
  · rcases h.ws.ty e with q | q | q
    · exact ⟨_, q, Or.inr (Or.inr (Or.inr (Or.inr (Or.inl rfl))))⟩
    · exact ⟨_, q, Or.inr (Or.inr (Or.inr (Or.inr (Or.inr (Or.inl rfl)))))⟩
    · exact ⟨_, q, Or.inr (Or.inr (Or.inr (Or.inr (Or.inr (Or.inr rfl)))))⟩

end Go.Proofs.YtpilmkipbbengaaGreatDoor

/- An entry goes, an entry comes; cells of a channel, of the pump. -/
namespace Go.Proofs.YtpilmkipbbengaaGreatDoor
open Go.RowKit

theorem gents_mem {chs : List GCh} {x : Ent} (h : x ∈ gents chs) : ∃ (k : Nat) (c : GCh) (cb : Nat), chs[k]? = some c ∧ c.ent = some (x, cb) := by
  obtain ⟨c, hc, he⟩ := List.mem_filterMap.1 h
  obtain ⟨k, hk⟩ := List.getElem?_of_mem hc
  cases hh : c.ent with
  | none => rw [hh] at he; simp at he
  | some y => rw [hh] at he; simp at he; exact ⟨k, c, y.2, hk, by rw [hh, ← he]⟩

theorem gents_out {x : Ent} {cb : Nat} (d : GCh) (hd : d.ent = none) : ∀ (chs : List GCh) (k : Nat) (c : GCh), chs[k]? = some c → c.ent = some (x, cb) → (gents chs).Perm (x :: gents (chs.set k d)) := by
  intro chs
  induction chs with
  | nil => intro k c h; simp at h
  | cons a chs ih =>
    intro k c h he
    cases k with
    | zero =>
      simp at h; subst h
      simp [gents, he, hd]
    | succ k =>
      simp at h
      have := ih k c h he
      simp only [List.set_cons_succ]
      unfold gents at this ⊢
      rw [List.filterMap_cons, List.filterMap_cons]
      cases a.ent with
      | none => simpa using this
      | some y => simpa using (this.cons y.1).trans (List.Perm.swap x y.1 _)

theorem gents_same (d : GCh) (hd : d.ent = none) : ∀ (chs : List GCh) (k : Nat) (c : GCh), chs[k]? = some c → c.ent = none → gents (chs.set k d) = gents chs := by
  intro chs
  induction chs with
  | nil => intro k c h; simp at h
  | cons a chs ih =>
    intro k c h he
    cases k with
    | zero =>
      simp at h; subst h
      simp [gents, he, hd]
    | succ k =>
      simp at h
      have := ih k c h he
      simp only [List.set_cons_succ]
      unfold gents at this ⊢
      rw [List.filterMap_cons, List.filterMap_cons, this]

theorem gents_in {x : Ent} {cb : Nat} (d : GCh) (hd : d.ent = some (x, cb)) : ∀ (chs : List GCh) (k : Nat) (c : GCh), chs[k]? = some c → c.ent = none → (gents (chs.set k d)).Perm (x :: gents chs) := by
  intro chs
  induction chs with
  | nil => intro k c h; simp at h
  | cons a chs ih =>
    intro k c h he
    cases k with
    | zero =>
      simp at h; subst h
      simp [gents, he, hd]
    | succ k =>
      simp at h
      have := ih k c h he
      simp only [List.set_cons_succ]
      unfold gents at this ⊢
      rw [List.filterMap_cons, List.filterMap_cons]
      cases a.ent with
      | none => simpa using this
      | some y => simpa using (this.cons y.1).trans (List.Perm.swap x y.1 _)

/-- a channel's cells, written -/
theorem gchs_set {w : World} {vc : Value} {chs : List GCh} {n g cap k i : Nat} (h : w.ownsRow 0 127 5 vc n (chs.flatMap gchC)) (hv : vc = .slice (some ⟨g, 0, none⟩) n cap) {c c' : GCh} (hc : chs[k]? = some c) (hi : i < 5) {u : Value} (hf : gchC c' = (gchC c).set i u) :
    (w.setCell ⟨g, k * 5 + i, none⟩ u).ownsRow 0 127 5 vc n ((chs.set k c').flatMap gchC) := by
  subst hv
  exact row_set h (fun _ => rfl) hc hi hf

theorem AgF_sub2 {b : Nat} {eb : Option Nat} {es es' : List Ent} (h : ∀ e ∈ es', e ∈ es) {x : Nat} (hx : AgF b eb es' x) : AgF b eb es x := by
  rcases hx with e | e | ⟨e, he, rfl⟩
  · exact Or.inl e
  · exact Or.inr (Or.inl e)
  · exact Or.inr (Or.inr ⟨e, h e he, rfl⟩)

theorem GKsF_out {chs : List GCh} {k : Nat} {d : GCh} (hd : d.ent = none) {x : Nat} (h : GKsF (chs.set k d) x) : GKsF chs x := by
  obtain ⟨j, c, e, h1, h2⟩ := h
  by_cases q : k = j
  · subst q
    rw [List.getElem?_set] at h1
    split at h1
    · split at h1
      · simp at h1; subst h1; rw [hd] at h2; cases h2
      · simp at h1
    · exact ⟨_, c, e, h1, h2⟩
  · rw [List.getElem?_set_ne q] at h1
    exact ⟨j, c, e, h1, h2⟩

theorem GW_GF {b : Nat} {D : GSt} {vc vw : Value} {x : Nat} (h : GW b D vc vw x) : GF b D vc vw x := by
  rcases h with e | e | e
  · exact Or.inl e
  · exact Or.inr (Or.inl e)
  · exact Or.inr (Or.inr (Or.inl e))

/-- one cell of a channel is written (not its end) -/
theorem GAt.setCh {w : World} {b : Nat} {D : GSt} {vc vw : Value} (h : GAt w b D vc vw) {k g cap i : Nat} {c c' : GCh} (hk : D.chs[k]? = some c) (hv : vc = .slice (some ⟨g, 0, none⟩) D.chs.length cap) (hi : i < 5) (he : c'.ent = c.ent) {u : Value} (hf : gchC c' = (gchC c).set i u) :
    GAt (w.setCell ⟨g, k * 5 + i, none⟩ u) b { D with chs := D.chs.set k c' } vc vw ∧ Frm (CsF vc) w (w.setCell ⟨g, k * 5 + i, none⟩ u) := by
  have hvb : CsF vc g := by rw [hv]; rfl
  have hkl : k < D.chs.length := (List.getElem?_eq_some_iff.1 hk).1
  have f2 : Frm (CsF vc) w (w.setCell ⟨g, k * 5 + i, none⟩ u) := (Frm.refl (CsF vc) w).setCell (p := ⟨g, k * 5 + i, none⟩) hvb u
  have s := h.sep
  obtain ⟨sl, ag⟩ := h.ag
  have key : ∀ (j : Nat) (d : GCh), (D.chs.set k c')[j]? = some d → ∃ d0, D.chs[j]? = some d0 ∧ d.ent = d0.ent := by
    intro j d hd
    by_cases q : k = j
    · subst q; rw [List.getElem?_set_self hkl] at hd; simp at hd; subst hd; exact ⟨c, hk, he⟩
    · rw [List.getElem?_set_ne q] at hd; exact ⟨d, hd, rfl⟩
  have ks : ∀ x, GKsF (D.chs.set k c') x → GKsF D.chs x := by
    rintro x ⟨j, d, e, h1, h2⟩
    obtain ⟨d0, q1, q2⟩ := key j d h1
    exact ⟨j, d0, e, q1, by rw [← q2]; exact h2⟩
  have ge : gents (D.chs.set k c') = gents D.chs := by
    have e1 : ∀ l : List GCh, gents l = (l.map (·.ent)).filterMap fun o => o.map (·.1) := fun l => by unfold gents; rw [List.filterMap_map]; rfl
    rw [e1, e1, List.map_set, he]
    congr 1
    apply List.ext_getElem?
    intro j
    rw [List.getElem?_set]
    split
    · rename_i q; subst q
      simp [hk]
      have := (List.getElem?_eq_some_iff.1 hk).2
      simp [hkl]
    · rfl
  refine ⟨⟨⟨sl, ag.frm f2 fun x hx => s.ac x hx⟩, h.heap, ?_, h.ws.frm f2 fun x hx e => s.cv x e hx, ?_, by rw [ge]; exact h.perm, ⟨s.ac, s.av, fun x hx e => s.ak x hx (ks x e), s.cv, fun x hx e => s.ck x hx (ks x e), fun x hx e => s.vk x hx (ks x e)⟩⟩, f2⟩
  · have := gchs_set (i := i) h.chs hv hk hi hf
    simpa using this
  · intro j d e cb h1 h2
    obtain ⟨d0, q1, q2⟩ := key j d h1
    rw [q2] at h2
    exact (h.ends j d0 e cb q1 h2).frm f2 fun e' => s.ck cb e' ⟨j, d0, e, q1, h2⟩

/-- a cell of the pump is written (not its agenda's) -/
theorem GAt.setHead {w : World} {b : Nat} {D D' : GSt} {vc vw : Value} (h : GAt w b D vc vw) (i : Nat) (hi : i ≠ 4) (u : Value) (hc : ∀ sl, (gCells D.now D.lock vc vw sl D.num D.vo D.nv).setIfInBounds i u = gCells D'.now D'.lock vc vw sl D'.num D'.vo D'.nv)
    (h1 : D'.chs = D.chs) (h2 : D'.ws = D.ws) (h3 : D'.eb = D.eb) (h4 : D'.es = D.es) (h5 : D'.xt = D.xt) :
    GAt (w.setCell ⟨b, i, none⟩ u) b D' vc vw ∧ Frm (fun x => x = b) w (w.setCell ⟨b, i, none⟩ u) := by
  obtain ⟨sl, ag⟩ := h.ag
  have hb : AgF b D.eb D.es b := Or.inl rfl
  have f : Frm (fun x => x = b) w (w.setCell ⟨b, i, none⟩ u) := (Frm.refl (fun x => x = b) w).setCell (p := ⟨b, i, none⟩) rfl u
  have s := h.sep
  refine ⟨⟨⟨sl, ?_⟩, by rw [h4]; exact h.heap, by rw [h1]; exact row_frm h.chs f fun x hx e => s.ac b hb (e ▸ hx), by rw [h2]; exact h.ws.frm f fun x hx e => s.av b hb (e ▸ hx), ?_, by rw [h4, h1, h5]; exact h.perm, by rw [h1, h2, h3, h4]; exact s⟩, f⟩
  · have := ag.setHead i hi u
    rw [hc] at this
    rw [h3, h4]; exact this
  · rw [h1]
    exact fun k c e cb q1 q2 => (h.ends k c e cb q1 q2).frm f fun e => s.ak b hb (e ▸ ⟨k, c, _, q1, q2⟩)

/-- one of the other entries is out -/
theorem GAt.pop {w w1 : World} {b : Nat} {D : GSt} {vc vw sl : Value} (h : GAt w b D vc vw) {es' xt' : List Ent} (ag : AgAt w1 b 4 (gCells D.now D.lock vc vw sl D.num D.vo D.nv) 75 D.eb es') (hp : HeapN es'.length es') (sub : ∀ e ∈ es', e ∈ D.es) (pm : es'.Perm (gents D.chs ++ xt')) (fr : Frm (AgF b D.eb D.es) w w1) :
    GAt w1 b { D with es := es', xt := xt' } vc vw := by
  have s := h.sep
  exact ⟨⟨sl, ag⟩, hp, row_frm h.chs fr fun x hx he => s.ac x he hx, h.ws.frm fr fun x hx he => s.av x he hx, fun j d e cb h1 h2 => (h.ends j d e cb h1 h2).frm fr fun he => s.ak cb he ⟨j, d, e, h1, h2⟩, pm,
    ⟨fun x hx => s.ac x (AgF_sub2 sub hx), fun x hx => s.av x (AgF_sub2 sub hx), fun x hx => s.ak x (AgF_sub2 sub hx), s.cv, s.ck, s.vk⟩⟩

/-- another entry has come -/
theorem GAt.put {w w1 : World} {b : Nat} {D : GSt} {vc vw sl : Value} (h : GAt w b D vc vw) {es' xt' : List Ent} {eb' : Option Nat} {num : Int} (agn : ∀ y, AgF b eb' es' y → AgF b D.eb D.es y ∨ w.heap.size ≤ y) (ag : AgAt w1 b 4 (gCells D.now D.lock vc vw sl num D.vo D.nv) 75 eb' es') (hp : HeapN es'.length es')
    (pm : es'.Perm (gents D.chs ++ xt')) (fr : Frm (AgF b D.eb D.es) w w1) : GAt w1 b { D with es := es', xt := xt', eb := eb', num := num } vc vw := by
  have s := h.sep
  have hlt := h.lt
  refine ⟨⟨sl, ag⟩, hp, row_frm h.chs fr fun x hx he => s.ac x he hx, h.ws.frm fr fun x hx he => s.av x he hx, fun j d e cb h1 h2 => (h.ends j d e cb h1 h2).frm fr fun he => s.ak cb he ⟨j, d, e, h1, h2⟩, pm, ?_⟩
  refine ⟨?_, ?_, ?_, s.cv, s.ck, s.vk⟩
  · intro y hy hc
    rcases agn y hy with e | e
    · exact s.ac y e hc
    · have := hlt y (Or.inr (Or.inl hc)); omega
  · intro y hy hc
    rcases agn y hy with e | e
    · exact s.av y e hc
    · have := hlt y (Or.inr (Or.inr (Or.inl hc))); omega
  · intro y hy hc
    rcases agn y hy with e | e
    · exact s.ak y e hc
    · have := hlt y (Or.inr (Or.inr (Or.inr hc))); omega

/-- the windows have turned -/
theorem GAt.turned {w wr : World} {b : Nat} {D : GSt} {vc vw : Value} {ws' : List Wd} (h : GAt w b D vc vw) (lie : WsAt wr vw ws') (foot : ∀ x, WsF vw ws' x ↔ WsF vw D.ws x) (f : Frm (WsF vw D.ws) w wr) : GAt wr b { D with ws := ws' } vc vw := by
  obtain ⟨sl, ag⟩ := h.ag
  have s := h.sep
  exact ⟨⟨sl, ag.frm f fun x hx => s.av x hx⟩, h.heap, row_frm h.chs f fun x hx => s.cv x hx, lie, fun k c e cb h1 h2 => (h.ends k c e cb h1 h2).frm f fun e => s.vk cb e ⟨k, c, _, h1, h2⟩, h.perm,
    ⟨s.ac, fun x hx e => s.av x hx ((foot x).1 e), s.ak, fun x hx e => s.cv x hx ((foot x).1 e), s.ck, fun x hx => s.vk x ((foot x).1 hx)⟩⟩

theorem gCells_sl (now : Int) (lock : Lk) (vc vw sl sl' : Value) (num : Int) (vo : Value) (nv : Int) : (gCells now lock vc vw sl num vo nv).setIfInBounds 4 sl' = gCells now lock vc vw sl' num vo nv := by simp [gCells]
theorem gCells_num (now : Int) (lock : Lk) (vc vw sl : Value) (num num' : Int) (vo : Value) (nv : Int) : (gCells now lock vc vw sl num vo nv).setIfInBounds 5 (I num') = gCells now lock vc vw sl num' vo nv := by simp [gCells]

end Go.Proofs.YtpilmkipbbengaaGreatDoor

/- A channel's entry goes, comes. -/
namespace Go.Proofs.YtpilmkipbbengaaGreatDoor
open Go.RowKit

/-- the channel's entry is out (or there was none), and its cells are written -/
theorem GAt.out {w w1 : World} {b : Nat} {D : GSt} {vc vw sl : Value} (h : GAt w b D vc vw) {k g cap : Nat} {c : GCh} (hk : D.chs[k]? = some c) (hv : vc = .slice (some ⟨g, 0, none⟩) D.chs.length cap) {es' : List Ent} (r : Int)
    (ag : AgAt w1 b 4 (gCells D.now D.lock vc vw sl D.num D.vo D.nv) 75 D.eb es') (hp : HeapN es'.length es') (sub : ∀ e ∈ es', e ∈ D.es) (pm : es'.Perm (gents (D.chs.set k { c with rate := r, ent := none }) ++ D.xt)) (fr : Frm (AgF b D.eb D.es) w w1) :
    GAt ((w1.setCell ⟨g, k * 5, none⟩ (I r)).setCell ⟨g, k * 5 + 1, none⟩ (.pointer none)) b { D with chs := D.chs.set k { c with rate := r, ent := none }, es := es' } vc vw ∧
      Frm (GW b D vc vw) w ((w1.setCell ⟨g, k * 5, none⟩ (I r)).setCell ⟨g, k * 5 + 1, none⟩ (.pointer none)) ∧ ∀ x, GF b { D with chs := D.chs.set k { c with rate := r, ent := none }, es := es' } vc vw x → GF b D vc vw x := by
  have hvb : CsF vc g := by rw [hv]; rfl
  have hkl : k < D.chs.length := (List.getElem?_eq_some_iff.1 hk).1
  have f2 : Frm (CsF vc) w1 ((w1.setCell ⟨g, k * 5, none⟩ (I r)).setCell ⟨g, k * 5 + 1, none⟩ (.pointer none)) :=
    ((Frm.refl (CsF vc) w1).setCell (p := ⟨g, k * 5, none⟩) hvb (I r)).setCell (p := ⟨g, k * 5 + 1, none⟩) hvb (.pointer none)
  have s := h.sep
  refine ⟨⟨⟨sl, ag.frm f2 fun x hx => s.ac x (AgF_sub2 sub hx)⟩, hp, ?_, ?_, ?_, pm, ?_⟩, ?_, ?_⟩
  · have h1 : w1.ownsRow 0 127 5 vc D.chs.length (D.chs.flatMap gchC) := row_frm h.chs fr fun x hx he => s.ac x he hx
    have h2 := gchs_set (i := 0) h1 hv hk (by omega) (c' := { c with rate := r }) (u := I r) rfl
    have h3 := gchs_set (i := 1) (c := { c with rate := r }) h2 hv (k := k) (by rw [List.getElem?_set_self hkl]) (by omega) (c' := { c with rate := r, ent := none }) (u := .pointer none) rfl
    rw [List.set_set] at h3
    simpa using h3
  · exact (h.ws.frm fr fun x hx he => s.av x he hx).frm f2 fun x hx he => s.cv x he hx
  · intro j d e cb h1 h2
    by_cases q : k = j
    · subst q; rw [List.getElem?_set_self hkl] at h1; simp at h1; subst h1; simp at h2
    · rw [List.getElem?_set_ne q] at h1
      have hK : GKsF D.chs cb := ⟨j, d, e, h1, h2⟩
      exact ((h.ends j d e cb h1 h2).frm fr fun he => s.ak cb he hK).frm f2 fun he => s.ck cb he hK
  · exact ⟨fun x hx => s.ac x (AgF_sub2 sub hx), fun x hx => s.av x (AgF_sub2 sub hx), fun x hx hK => s.ak x (AgF_sub2 sub hx) (GKsF_out rfl hK), s.cv, fun x hx hK => s.ck x hx (GKsF_out rfl hK), fun x hx hK => s.vk x hx (GKsF_out rfl hK)⟩
  · exact (fr.mono fun x _ hx => Or.inl hx).trans (f2.mono fun x _ hx => Or.inr (Or.inl hx))
  · rintro x (e | e | e | e)
    · exact Or.inl (AgF_sub2 sub e)
    · exact Or.inr (Or.inl e)
    · exact Or.inr (Or.inr (Or.inl e))
    · exact Or.inr (Or.inr (Or.inr (GKsF_out rfl e)))

/-- an entry has come for the channel -/
theorem GAt.come {w w1 : World} {b : Nat} {D : GSt} {vc vw sl : Value} (h : GAt w b D vc vw) {k g cap cb : Nat} {c : GCh} (hk : D.chs[k]? = some c) (hn : c.ent = none) (hv : vc = .slice (some ⟨g, 0, none⟩) D.chs.length cap) (hcb : Blk w cb #[ptr g (k * 5)] 130) (hno : ¬ GF b D vc vw cb)
    {es' : List Ent} {eb' : Option Nat} {x : Ent} {num : Int} (ha : x.act = .func (.func 65) #[] #[ptr cb 0]) (hx : w.heap.size ≤ x.blk) (heb : eb' = D.eb ∨ ∃ q, eb' = some q ∧ w.heap.size ≤ q)
    (ag : AgAt w1 b 4 (gCells D.now D.lock vc vw sl num D.vo D.nv) 75 eb' es') (hp : HeapN es'.length es') (pm : es'.Perm (x :: D.es)) (fr : Frm (AgF b D.eb D.es) w w1) :
    GAt (w1.setCell ⟨g, k * 5 + 1, none⟩ (ptr x.blk 0)) b { D with chs := D.chs.set k { c with ent := some (x, cb) }, es := es', eb := eb', num := num } vc vw ∧
      Frm (GW b D vc vw) w (w1.setCell ⟨g, k * 5 + 1, none⟩ (ptr x.blk 0)) ∧ ∀ y, GF b { D with chs := D.chs.set k { c with ent := some (x, cb) }, es := es', eb := eb', num := num } vc vw y → GF b D vc vw y ∨ y = cb ∨ w.heap.size ≤ y := by
  have hvb : CsF vc g := by rw [hv]; rfl
  have hkl : k < D.chs.length := (List.getElem?_eq_some_iff.1 hk).1
  have f2 : Frm (CsF vc) w1 (w1.setCell ⟨g, k * 5 + 1, none⟩ (ptr x.blk 0)) := (Frm.refl (CsF vc) w1).setCell (p := ⟨g, k * 5 + 1, none⟩) hvb (ptr x.blk 0)
  have s := h.sep
  have hlt := h.lt
  have agf : ∀ y, AgF b eb' es' y → AgF b D.eb D.es y ∨ w.heap.size ≤ y := by
    rintro y (e | e | ⟨e, he, rfl⟩)
    · exact Or.inl (Or.inl e)
    · rcases heb with q | ⟨q, e1, e2⟩
      · exact Or.inl (Or.inr (Or.inl (by rw [← q]; exact e)))
      · rw [e1] at e; injection e with e; exact Or.inr (by omega)
    · rcases List.mem_cons.1 (pm.mem_iff.1 he) with rfl | h'
      · exact Or.inr hx
      · exact Or.inl (Or.inr (Or.inr ⟨e, h', rfl⟩))
  have ksf : ∀ y, GKsF (D.chs.set k { c with ent := some (x, cb) }) y → GKsF D.chs y ∨ y = cb := by
    rintro y ⟨j, d, e, h1, h2⟩
    by_cases q : k = j
    · subst q; rw [List.getElem?_set_self hkl] at h1; simp at h1; subst h1; simp at h2; exact Or.inr h2.2.symm
    · rw [List.getElem?_set_ne q] at h1; exact Or.inl ⟨j, d, e, h1, h2⟩
  have hcl := hcb.lt
  refine ⟨⟨⟨sl, ag.frm f2 ?_⟩, hp, ?_, ?_, ?_, ?_, ?_⟩, ?_, ?_⟩
  · intro y hy hc'
    rcases agf y hy with e | e
    · exact s.ac y e hc'
    · have := hlt y (Or.inr (Or.inl hc')); omega
  · have h1 : w1.ownsRow 0 127 5 vc D.chs.length (D.chs.flatMap gchC) := row_frm h.chs fr fun y hy he => s.ac y he hy
    have h2 := gchs_set (i := 1) h1 hv hk (by omega) (c' := { c with ent := some (x, cb) }) (u := ptr x.blk 0) rfl
    simpa using h2
  · exact (h.ws.frm fr fun y hy he => s.av y he hy).frm f2 fun y hy he => s.cv y he hy
  · intro j d e cb' h1 h2
    by_cases q : k = j
    · subst q; rw [List.getElem?_set_self hkl] at h1; simp at h1; subst h1; simp at h2
      obtain ⟨rfl, rfl⟩ := h2
      refine ⟨ha, g, _, cap, hv, (hcb.frm fr fun he => hno (Or.inl he)).frm f2 fun he => hno (Or.inr (Or.inl he))⟩
    · rw [List.getElem?_set_ne q] at h1
      have hK : GKsF D.chs cb' := ⟨j, d, e, h1, h2⟩
      exact ((h.ends j d e cb' h1 h2).frm fr fun he => s.ak cb' he hK).frm f2 fun he => s.ck cb' he hK
  · exact pm.trans ((h.perm.cons x).trans ((gents_in (cb := cb) { c with ent := some (x, cb) } rfl D.chs k c hk hn).symm.append_right D.xt))
  · refine ⟨?_, ?_, ?_, s.cv, ?_, ?_⟩
    · intro y hy hc'
      rcases agf y hy with e | e
      · exact s.ac y e hc'
      · have := hlt y (Or.inr (Or.inl hc')); omega
    · intro y hy hc'
      rcases agf y hy with e | e
      · exact s.av y e hc'
      · have := hlt y (Or.inr (Or.inr (Or.inl hc'))); omega
    · intro y hy hc'
      rcases agf y hy with e | e <;> rcases ksf y hc' with e' | e'
      · exact s.ak y e e'
      · subst e'; exact hno (Or.inl e)
      · have := hlt y (Or.inr (Or.inr (Or.inr e'))); omega
      · omega
    · intro y hy hc'
      rcases ksf y hc' with e' | e'
      · exact s.ck y hy e'
      · subst e'; exact hno (Or.inr (Or.inl hy))
    · intro y hy hc'
      rcases ksf y hc' with e' | e'
      · exact s.vk y hy e'
      · subst e'; exact hno (Or.inr (Or.inr (Or.inl hy)))
  · exact (fr.mono fun y _ hy => Or.inl hy).trans (f2.mono fun y _ hy => Or.inr (Or.inl hy))
  · rintro y (e | e | e | e)
    · rcases agf y e with e | e
      · exact Or.inl (Or.inl e)
      · exact Or.inr (Or.inr e)
    · exact Or.inl (Or.inr (Or.inl e))
    · exact Or.inl (Or.inr (Or.inr (Or.inl e)))
    · rcases ksf y e with e | e
      · exact Or.inl (Or.inr (Or.inr (Or.inr e)))
      · exact Or.inr (Or.inl e)

end Go.Proofs.YtpilmkipbbengaaGreatDoor

/- The orders of the program's pump in memory. -/
namespace Go.Proofs.YtpilmkipbbengaaGreatDoor
open Go.RowKit

/-- an order: its block; what it is; the entry with which it begins (and its cells), the one with which it ends -/
structure OrdD where
  blk : Nat
  rest : Int
  start : Int
  stop : Int
  ch : Nat
  beg : Option (Ent × Nat × Nat)
  fin : Option (Ent × Nat × Nat × Nat)

def OrdD.on (o : OrdD) (k : Nat) : Bool := o.ch == k && o.beg.isNone && o.fin.isSome
/-- the orders of a channel whose ticks go by -/
def going (ods : List OrdD) (k : Nat) : List OrdD := ods.filter fun o => o.on k
def begsOf (ods : List OrdD) : List Ent := ods.filterMap fun o => o.beg.map (·.1)
def finsOf (ods : List OrdD) : List Ent := ods.filterMap fun o => o.fin.map (·.1)

def ChCell (w : World) (vc : Value) (k cc : Nat) : Prop := ∃ g n cap, vc = .slice (some ⟨g, 0, none⟩) n cap ∧ Blk w cc #[ptr g (k * 5)] 130

structure OAt (w : World) (b : Nat) (vc : Value) (sos : List Value) (vo : Value) (xt : List Ent) (nv : Int) (ods : List OrdD) : Prop where
  ords : ∀ (j : Nat) (o : OrdD), ods[j]? = some o → Blk w o.blk #[I ((j : Int) + 1), I o.rest, I o.stop] 148
  dup : ∀ (i j : Nat) (o p : OrdD), ods[i]? = some o → ods[j]? = some p → o.blk = p.blk → i = j
  vor : w.ownsRow 0 149 1 vo ods.length (ods.flatMap fun o => [pt o.blk])
  so : ∀ (k : Nat) (s : Value), sos[k]? = some s → w.ownsRow 0 149 1 s (going ods k).length ((going ods k).flatMap fun o => [pt o.blk])
  begs : ∀ (j : Nat) (o : OrdD) (e : Ent) (cc oc : Nat), ods[j]? = some o → o.beg = some (e, cc, oc) → e.tick = o.start ∧ e.act = .func (.func 101) #[] #[ptr cc 0, ptr oc 0] ∧ ChCell w vc o.ch cc ∧ Blk w oc #[pt o.blk] 149
  fins : ∀ (j : Nat) (o : OrdD) (e : Ent) (cc oc pc : Nat), ods[j]? = some o → o.fin = some (e, cc, oc, pc) → e.tick = o.stop ∧ e.act = .func (.func 103) #[] #[ptr cc 0, ptr oc 0, ptr pc 0] ∧ ChCell w vc o.ch cc ∧ Blk w oc #[pt o.blk] 149 ∧ Blk w pc #[ptr b 0] 34
  xtp : xt.Perm (begsOf ods ++ finsOf ods)
  ss : ∀ (k l : Nat) (s t : Value), sos[k]? = some s → sos[l]? = some t → k ≠ l → Dis s t
  sv : ∀ (k : Nat) (s : Value), sos[k]? = some s → Dis s vo
  bo : ∀ (j : Nat) (o : OrdD) (e : Ent) (cc oc : Nat), ods[j]? = some o → o.beg = some (e, cc, oc) → (∀ (k : Nat) (s : Value), sos[k]? = some s → s.ownBlock ≠ some oc) ∧ vo.ownBlock ≠ some oc
  fo : ∀ (j : Nat) (o : OrdD) (e : Ent) (cc oc pc : Nat), ods[j]? = some o → o.fin = some (e, cc, oc, pc) → (∀ (k : Nat) (s : Value), sos[k]? = some s → s.ownBlock ≠ some oc) ∧ vo.ownBlock ≠ some oc
  chn : ∀ (j : Nat) (o : OrdD), ods[j]? = some o → o.ch < sos.length
  bf : ∀ (j : Nat) (o : OrdD), ods[j]? = some o → o.beg ≠ none → o.fin ≠ none
  lt : ∀ (j : Nat) (o : OrdD), ods[j]? = some o → o.start < o.stop
  cnt : nv = ((finsOf ods).length : Int)

def OTy (T : TypeId) : Prop := T = 148 ∨ T = 149 ∨ T = 130 ∨ T = 34
theorem GTy.noO {T : TypeId} (h : GTy T) (k : OTy T) : False := by
  have := h.no
  rcases k with e | e | e | e
  · exact this.1 e
  · exact this.2.1 e
  · exact this.2.2.1 e
  · exact this.2.2.2 e

theorem OAt.frm {S : Nat → Prop} {w w' : World} {b : Nat} {vc : Value} {sos : List Value} {vo : Value} {xt : List Ent} {nv : Int} {ods : List OrdD} (h : OAt w b vc sos vo xt nv ods) (f : Frm S w w') (hs : ∀ x T, HasT w x T → OTy T → ¬ S x) : OAt w' b vc sos vo xt nv ods := by
  have hb : ∀ {x : Nat} {c : Array Value} {T : TypeId}, Blk w x c T → OTy T → Blk w' x c T := fun hx ht => hx.frm f (hs _ _ ⟨_, hx⟩ ht)
  have o1 : OTy 148 := Or.inl rfl
  have o2 : OTy 149 := Or.inr (Or.inl rfl)
  have o3 : OTy 130 := Or.inr (Or.inr (Or.inl rfl))
  have o4 : OTy 34 := Or.inr (Or.inr (Or.inr rfl))
  have hc : ∀ {k cc : Nat}, ChCell w vc k cc → ChCell w' vc k cc := by
    rintro k cc ⟨g, n, cap, e, hq⟩
    exact ⟨g, n, cap, e, hb hq o3⟩
  have hr : ∀ {v : Value} {n : Nat} {xs : List Value}, w.ownsRow 0 149 1 v n xs → w'.ownsRow 0 149 1 v n xs := fun hq => row_frm hq f fun g hg => hs _ _ (row_ty hq hg) o2
  refine ⟨fun j o hj => hb (h.ords j o hj) o1, h.dup, hr h.vor, fun k s hk => hr (h.so k s hk), ?_, ?_, h.xtp, h.ss, h.sv, h.bo, h.fo, h.chn, h.bf, h.lt, h.cnt⟩
  · intro j o e cc oc hj he
    obtain ⟨q1, q2, q3, q4⟩ := h.begs j o e cc oc hj he
    exact ⟨q1, q2, hc q3, hb q4 o2⟩
  · intro j o e cc oc pc hj he
    obtain ⟨q1, q2, q3, q4, q5⟩ := h.fins j o e cc oc pc hj he
    exact ⟨q1, q2, hc q3, hb q4 o2, hb q5 o4⟩

/-- what the pump's other part writes is not the orders' -/
theorem OAt.frmG {w w' : World} {b : Nat} {D : GSt} {vc vw : Value} {sos : List Value} {vo : Value} {xt : List Ent} {nv : Int} {ods : List OrdD} (h : OAt w b vc sos vo xt nv ods) (g : GAt w b D vc vw) (f : Frm (GW b D vc vw) w w') : OAt w' b vc sos vo xt nv ods :=
  h.frm f fun x T hT ho hx => by
    obtain ⟨T', q1, q2⟩ := g.ty hx
    have e := hT.uniq q1
    subst e
    exact q2.noO ho

theorem OAt.keep {w w' : World} {b : Nat} {vc : Value} {sos : List Value} {vo : Value} {xt : List Ent} {nv : Int} {ods : List OrdD} (h : OAt w b vc sos vo xt nv ods) (k : Keep w w') : OAt w' b vc sos vo xt nv ods := h.frm k fun _ _ _ _ e => e

def OF (sos : List Value) (vo : Value) (ods : List OrdD) : Nat → Prop := fun x => (∃ (j : Nat) (o : OrdD), ods[j]? = some o ∧ (x = o.blk ∨ (∃ e cc oc, o.beg = some (e, cc, oc) ∧ (x = cc ∨ x = oc)) ∨ (∃ e cc oc pc, o.fin = some (e, cc, oc, pc) ∧ (x = cc ∨ x = oc ∨ x = pc)))) ∨ vo.ownBlock = some x ∨ ∃ (k : Nat) (s : Value), sos[k]? = some s ∧ s.ownBlock = some x

theorem OAt.hasT {w : World} {b : Nat} {vc : Value} {sos : List Value} {vo : Value} {xt : List Ent} {nv : Int} {ods : List OrdD} (h : OAt w b vc sos vo xt nv ods) {x : Nat} (hx : OF sos vo ods x) : ∃ T, HasT w x T ∧ OTy T := by
  rcases hx with ⟨j, o, hj, rfl | ⟨e, cc, oc, he, q⟩ | ⟨e, cc, oc, pc, he, q⟩⟩ | e | ⟨k, s, hk, e⟩
  · exact ⟨_, ⟨_, h.ords j o hj⟩, Or.inl rfl⟩
  · obtain ⟨-, -, ⟨g, n, cap, -, b3⟩, b4⟩ := h.begs j o e cc oc hj he
    rcases q with rfl | rfl
    · exact ⟨_, ⟨_, b3⟩, Or.inr (Or.inr (Or.inl rfl))⟩
    · exact ⟨_, ⟨_, b4⟩, Or.inr (Or.inl rfl)⟩
  · obtain ⟨-, -, ⟨g, n, cap, -, b3⟩, b4, b5⟩ := h.fins j o e cc oc pc hj he
    rcases q with rfl | rfl | rfl
    · exact ⟨_, ⟨_, b3⟩, Or.inr (Or.inr (Or.inl rfl))⟩
    · exact ⟨_, ⟨_, b4⟩, Or.inr (Or.inl rfl)⟩
    · exact ⟨_, ⟨_, b5⟩, Or.inr (Or.inr (Or.inr rfl))⟩
  · exact ⟨_, row_ty h.vor e, Or.inr (Or.inl rfl)⟩
  · exact ⟨_, row_ty (h.so k s hk) e, Or.inr (Or.inl rfl)⟩

theorem HasT.lt {w : World} {x : Nat} {T : TypeId} (h : HasT w x T) : x < w.heap.size := by
  obtain ⟨c, h⟩ := h
  exact h.lt

theorem going_set (ods : List OrdD) (j k : Nat) (o o' : OrdD) (hj : ods[j]? = some o) (hb : o'.blk = o.blk) (he : o'.on k = o.on k) : (going (ods.set j o') k).flatMap (fun o => [pt o.blk]) = (going ods k).flatMap fun o => [pt o.blk] := by
  induction ods generalizing j with
  | nil => simp at hj
  | cons a l ih =>
    cases j with
    | zero =>
      simp at hj; subst hj
      simp only [List.set_cons_zero, going, List.filter_cons, he]
      split
      · simp [hb]
      · rfl
    | succ j =>
      simp at hj
      have := ih j hj
      simp only [List.set_cons_succ, going, List.filter_cons] at this ⊢
      split
      · simpa using this
      · simpa using this

theorem fm_len {α : Type} (f : α → Value) (l : List α) : (l.flatMap fun o => [f o]).length = l.length := by
  induction l with
  | nil => rfl
  | cons a l ih => simp [ih]

theorem going_len_set (ods : List OrdD) (j k : Nat) (o o' : OrdD) (hj : ods[j]? = some o) (hb : o'.blk = o.blk) (he : o'.on k = o.on k) : (going (ods.set j o') k).length = (going ods k).length := by
  have := congrArg List.length (going_set ods j k o o' hj hb he)
  rw [fm_len, fm_len] at this
  exact this

/-- an order's rest is written -/
theorem OAt.setRest {w : World} {b : Nat} {vc : Value} {sos : List Value} {vo : Value} {xt : List Ent} {nv : Int} {ods : List OrdD} (h : OAt w b vc sos vo xt nv ods) {j : Nat} {o : OrdD} (hj : ods[j]? = some o) (r : Int) :
    OAt (w.setCell ⟨o.blk, 1, none⟩ (I r)) b vc sos vo xt nv (ods.set j { o with rest := r }) ∧ Frm (fun x => x = o.blk) w (w.setCell ⟨o.blk, 1, none⟩ (I r)) := by
  have hl : j < ods.length := (List.getElem?_eq_some_iff.1 hj).1
  have f : Frm (fun x => x = o.blk) w (w.setCell ⟨o.blk, 1, none⟩ (I r)) := (Frm.refl (fun x => x = o.blk) w).setCell (p := ⟨o.blk, 1, none⟩) rfl (I r)
  have ho : HasT w o.blk 148 := ⟨_, h.ords j o hj⟩
  have hb : ∀ {x : Nat} {c : Array Value} {T : TypeId}, Blk w x c T → T ≠ 148 → Blk (w.setCell ⟨o.blk, 1, none⟩ (I r)) x c T := fun hx ht => hx.frm f fun e => ht (by
    have := (HasT.uniq ⟨_, hx⟩ (e ▸ ho)); exact this)
  have hr : ∀ {v : Value} {n : Nat} {xs : List Value}, w.ownsRow 0 149 1 v n xs → (w.setCell ⟨o.blk, 1, none⟩ (I r)).ownsRow 0 149 1 v n xs := fun hq => row_frm hq f fun g hg e => by
    have := (row_ty hq hg).uniq (e ▸ ho); revert this; decide
  have key : ∀ (i : Nat) (p : OrdD), (ods.set j { o with rest := r })[i]? = some p → ∃ p0, ods[i]? = some p0 ∧ p.blk = p0.blk ∧ p.start = p0.start ∧ p.stop = p0.stop ∧ p.ch = p0.ch ∧ p.beg = p0.beg ∧ p.fin = p0.fin := by
    intro i p hp
    by_cases q : j = i
    · subst q; rw [List.getElem?_set_self hl] at hp; simp at hp; subst hp; exact ⟨o, hj, rfl, rfl, rfl, rfl, rfl, rfl⟩
    · rw [List.getElem?_set_ne q] at hp; exact ⟨p, hp, rfl, rfl, rfl, rfl, rfl, rfl⟩
  have fm : ∀ {β : Type} (g : OrdD → Option β), g { o with rest := r } = g o → (ods.set j { o with rest := r }).filterMap g = ods.filterMap g := by
    intro β g hg
    have e : ods.set j { o with rest := r } = ods.set j { o with rest := r } := rfl
    clear e
    have : ∀ (l : List OrdD) (i : Nat), l[i]? = some o → (l.set i { o with rest := r }).filterMap g = l.filterMap g := by
      intro l
      induction l with
      | nil => intro i hi; simp at hi
      | cons a l ih =>
        intro i hi
        cases i with
        | zero => simp at hi; subst hi; simp [List.filterMap_cons, hg]
        | succ i => simp at hi; simp [List.filterMap_cons, ih i hi]
    exact this ods j hj
  refine ⟨⟨?_, ?_, ?_, ?_, ?_, ?_, ?_, h.ss, h.sv, ?_, ?_, ?_, ?_, ?_, ?_⟩, f⟩
  · intro i p hp
    by_cases q : j = i
    · subst q
      rw [List.getElem?_set_self hl] at hp; simp at hp; subst hp
      have := (h.ords j o hj).set 1 (I r)
      simpa using this
    · rw [List.getElem?_set_ne q] at hp
      exact (h.ords i p hp).frm f fun e => q (h.dup j i o p hj hp e.symm)
  · intro i i' p p' hp hp' e
    obtain ⟨p0, a1, a2, -⟩ := key i p hp
    obtain ⟨p0', b1, b2, -⟩ := key i' p' hp'
    exact h.dup i i' p0 p0' a1 b1 (by rw [← a2, ← b2]; exact e)
  · have e1 : (ods.set j { o with rest := r }).flatMap (fun o => [pt o.blk]) = ods.flatMap fun o => [pt o.blk] := by
      simp only [← List.map_eq_flatMap]
      rw [List.map_set]
      apply List.ext_getElem?
      intro i
      rw [List.getElem?_set]
      split
      · rename_i q; subst q
        simp [hl]
        have := (List.getElem?_eq_some_iff.1 hj).2
        simp [this]
      · rfl
    rw [e1, List.length_set]
    exact hr h.vor
  · intro k s hk
    rw [going_set ods j k o { o with rest := r } hj rfl rfl, going_len_set ods j k o { o with rest := r } hj rfl rfl]
    exact hr (h.so k s hk)
  · intro i p e cc oc hp he
    obtain ⟨p0, a1, a2, a3, a4, a5, a6, a7⟩ := key i p hp
    obtain ⟨q1, q2, ⟨g, n, cap, q3, q3'⟩, q4⟩ := h.begs i p0 e cc oc a1 (by rw [← a6]; exact he)
    exact ⟨by rw [a3]; exact q1, q2, ⟨g, n, cap, q3, by rw [a5]; exact hb q3' (by decide)⟩, by rw [a2]; exact hb q4 (by decide)⟩
  · intro i p e cc oc pc hp he
    obtain ⟨p0, a1, a2, a3, a4, a5, a6, a7⟩ := key i p hp
    obtain ⟨q1, q2, ⟨g, n, cap, q3, q3'⟩, q4, q5⟩ := h.fins i p0 e cc oc pc a1 (by rw [← a7]; exact he)
    exact ⟨by rw [a4]; exact q1, q2, ⟨g, n, cap, q3, by rw [a5]; exact hb q3' (by decide)⟩, by rw [a2]; exact hb q4 (by decide), hb q5 (by decide)⟩
  · unfold begsOf finsOf
    rw [fm _ rfl, fm _ rfl]
    exact h.xtp
  · intro i p e cc oc hp he
    obtain ⟨p0, a1, -, -, -, -, a6, -⟩ := key i p hp
    exact h.bo i p0 e cc oc a1 (by rw [← a6]; exact he)
  · intro i p e cc oc pc hp he
    obtain ⟨p0, a1, -, -, -, -, -, a7⟩ := key i p hp
    exact h.fo i p0 e cc oc pc a1 (by rw [← a7]; exact he)
  · intro i p hp
    obtain ⟨p0, a1, -, -, -, a5, -, -⟩ := key i p hp
    rw [a5]; exact h.chn i p0 a1
  · intro i p hp
    obtain ⟨p0, a1, -, -, -, -, a6, a7⟩ := key i p hp
    rw [a6, a7]; exact h.bf i p0 a1
  · intro i p hp
    obtain ⟨p0, a1, -, a3, a4, -⟩ := key i p hp
    rw [a3, a4]; exact h.lt i p0 a1
  · unfold finsOf
    rw [fm _ rfl]
    exact h.cnt

end Go.Proofs.YtpilmkipbbengaaGreatDoor

/- part, wants, share. -/
namespace Go.Proofs.YtpilmkipbbengaaGreatDoor
open Go.RowKit

def pD (now : Int) (o : OrdD) : Int := (o.rest + (o.stop - now) - 1) / (o.stop - now)

theorem pD_bd {now : Int} {o : OrdD} (h0 : 0 ≤ o.rest) (hs : now < o.stop) : 0 ≤ pD now o ∧ pD now o ≤ o.rest := by
  unfold pD
  have hL : 0 < o.stop - now := by omega
  refine ⟨Int.ediv_nonneg (by omega) (by omega), ?_⟩
  by_cases hz : o.rest = 0
  · rw [hz, Int.ediv_eq_zero_of_lt (by omega) (by omega)]
    exact Int.le_refl _
  · have h7 : o.rest + (o.stop - now) - 1 ≤ o.rest * (o.stop - now) := by
      have : 0 ≤ (o.rest - 1) * ((o.stop - now) - 1) := Int.mul_nonneg (by omega) (by omega)
      rw [Int.sub_mul, Int.mul_sub] at this
      omega
    have h8 := Int.ediv_le_ediv hL h7
    rwa [Int.mul_ediv_cancel _ (by omega)] at h8

set_option maxRecDepth 100000 in
set_option maxHeartbeats 800000 in
theorem opart_any (x : Nat) (num rest stop now : Int) (w : World) (hb : Blk w x #[I num, I rest, I stop] 148) (r0 : 0 ≤ rest) (r1 : rest ≤ 1000) (s0 : now < stop) (s1 : stop ≤ 2000) (n0 : 0 ≤ now) :
    Calls Tryz.prog 120 #[pt x, I now] w fun e w' => e = .returned (I ((rest + (stop - now) - 1) / (stop - now))) ∧ w' = w := by
  have c1 : w.cell? ⟨x, 1, none⟩ = some (I rest) := by rw [hb.cell]; rfl
  have c2 : w.cell? ⟨x, 2, none⟩ = some (I stop) := by rw [hb.cell]; rfl
  clear hb
  go_enter Tryz.func120, Tryz.ntmps120
  go_wp2
  go_ret
  exact ⟨rfl, rfl⟩

/-- orders that may be asked for a part -/
structure OFine (now : Int) (ods : List OrdD) : Prop where
  n0 : 0 ≤ now
  len : ods.length ≤ 3300
  rest0 : ∀ o ∈ ods, 0 ≤ o.rest
  rest1 : ∀ o ∈ ods, o.rest ≤ 1000
  stop1 : ∀ o ∈ ods, o.stop ≤ 2000
  on : ∀ o ∈ ods, ∀ k, o.on k = true → now < o.stop

def psum (now : Int) (l : List OrdD) : Int := (l.map (pD now)).sum
theorem psum_snoc (now : Int) (l : List OrdD) (o : OrdD) : psum now (l ++ [o]) = psum now l + pD now o := by simp [psum]
theorem psum_bd {now : Int} (l : List OrdD) (h : ∀ o ∈ l, 0 ≤ pD now o ∧ pD now o ≤ 1000) : 0 ≤ psum now l ∧ psum now l ≤ 1000 * l.length := by
  induction l with
  | nil => simp [psum]
  | cons o l ih =>
    have h1 := h o (by simp)
    have h2 := ih fun x hx => h x (List.mem_cons_of_mem _ hx)
    simp only [psum, List.map_cons, List.sum_cons, List.length_cons] at h2 ⊢
    omega

theorem going_mem {ods : List OrdD} {k : Nat} {o : OrdD} (h : o ∈ going ods k) : o ∈ ods ∧ o.on k = true := List.mem_filter.1 h

theorem OFine.pd {now : Int} {ods : List OrdD} (f : OFine now ods) {k : Nat} {o : OrdD} (h : o ∈ going ods k) : 0 ≤ pD now o ∧ pD now o ≤ 1000 := by
  obtain ⟨h1, h2⟩ := going_mem h
  have := pD_bd (f.rest0 o h1) (f.on o h1 k h2)
  have := f.rest1 o h1
  omega

theorem going_le (ods : List OrdD) (k : Nat) : (going ods k).length ≤ ods.length := List.length_filter_le _ _

set_option maxRecDepth 100000 in
set_option maxHeartbeats 1600000 in
theorem wants_any (b : Nat) (vc : Value) (sos : List Value) (vo : Value) (xt : List Ent) (nv : Int) (ods : List OrdD) (g k : Nat) (r now _free : Int) (rests : Bool) (s : Value) (w : World) (h : OAt w b vc sos vo xt nv ods) (f : OFine now ods) (hs : sos[k]? = some s)
    (c0 : w.cell? ⟨g, k * 5, none⟩ = some (I r)) (c2 : w.cell? ⟨g, k * 5 + 2, none⟩ = some s) (c3 : w.cell? ⟨g, k * 5 + 3, none⟩ = some (.bool rests)) (r0 : 0 ≤ r) (r1 : r ≤ 1000) :
    Calls Tryz.prog 114 #[ptr g (k * 5), I now] w fun e w' => e = .returned (I (if rests = true then 0 else r + psum now (going ods k))) ∧ ∃ n, w' = w.drewN n := by
  have hso := h.so k s hs
  obtain ⟨sa, sc, rfl⟩ := row_slice hso
  have hgl : (going ods k).length ≤ 3300 := Nat.le_trans (going_le ods k) f.len
  cases rests with
  | true =>
    clear h f hs hso
    go_enter Tryz.func114, Tryz.ntmps114
    go_wp2_with fail
    go_ret
    exact ⟨rfl, 0, rfl⟩
  | false =>
    have H := hide (And.intro h (And.intro f hso))
    clear h f hs hso
    go_enter Tryz.func114, Tryz.ntmps114
    go_wp2_with fail
    go_loopg [5, 7, 21] (going ods k).length (fun q a _ i wr => ∃ j : Nat, q + j = (going ods k).length ∧ i = I j ∧ a = I (r + psum now ((going ods k).take j)) ∧ Hid (∃ m, wr = w.drewN m))
    case atStart => exact ⟨0, by omega, rfl, by simp [psum], 0, rfl⟩
    case round =>
      obtain ⟨j, hq, rfl, rfl, hd⟩ := hrel
      by_cases hj : j < (going ods k).length
      · obtain ⟨o, ho⟩ : ∃ o, (going ods k)[j]? = some o := ⟨_, List.getElem?_eq_getElem hj⟩
        have hom := List.mem_of_getElem? ho
        obtain ⟨hm, hon⟩ := going_mem hom
        obtain ⟨i, hi⟩ := List.getElem?_of_mem hm
        have hoW : OAt wr b vc sos vo xt nv ods := by obtain ⟨m, rfl⟩ := hd.out; exact (H.out).1.keep ((Frm.refl _ _).drewN m)
        have hsoW : wr.ownsRow 0 149 1 (.slice sa (going ods k).length sc) (going ods k).length ((going ods k).flatMap fun o => [pt o.blk]) := by obtain ⟨m, rfl⟩ := hd.out; exact row_frm (H.out).2.2 ((Frm.refl (fun _ => False) _).drewN m) fun _ _ e => e
        obtain ⟨g', cap', hv, -, hcell, -⟩ := row_at hsoW (fun _ => rfl) ho (by decide)
        injection hv with hv1 hv2 hv3
        subst hv1
        have d0 := hcell 0 (by decide)
        simp at d0
        have fo := (H.out).2.1
        have PA := hide (opart_any o.blk _ o.rest o.stop now wr (hoW.ords i o hi) (fo.rest0 o hm) (fo.rest1 o hm) (fo.on o hm k hon) (fo.stop1 o hm) fo.n0)
        have hsn := psum_snoc now ((going ods k).take j) o
        rw [← take_snoc' ho] at hsn
        have hpd := fo.pd hom
        have hbd := psum_bd ((going ods k).take j) fun x hx => fo.pd (List.mem_of_mem_take hx)
        have htl : ((going ods k).take j).length ≤ 3300 := by simp; omega
        have hpe : (o.rest + (o.stop - now) - 1) / (o.stop - now) = pD now o := rfl
        rw [hpe] at PA
        generalize psum now ((going ods k).take j) = P at *
        generalize pD now o = Q at *
        have HS := hide (And.intro hsn hq)
        clear hsn hq hoW hsoW hcell hv2 hv3 ho hom hm hon hi fo hpe
        go_wp2_with fail
        refine (PA.out).mono ?_
        rintro e w1 ⟨rfl, hw⟩
        have hw' := hw.symm
        subst hw'
        go_wp2_with fail
        go_roundg (gk - 1)
        case measure => have := (HS.out).2; omega
        case rel => exact ⟨j + 1, by have := (HS.out).2; omega, by simp, by rw [(HS.out).1]; congr 1; omega, hd.out⟩
      · have hje : j = (going ods k).length := by omega
        have HK := hide hje
        clear hq hje
        go_wp2_with fail
        go_ret
        exact ⟨ret_int (by rw [HK.out, List.take_length]), hd.out⟩

end Go.Proofs.YtpilmkipbbengaaGreatDoor
