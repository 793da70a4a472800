/- A tick passes: the windows, and what is due. -/
import Derived.Test.YtahiolfelcmikaaGreatDmov
namespace Go.Proofs.YtahiolfelcmikaaGreat
open Go.RowKit

set_option maxRecDepth 100000 in
set_option maxHeartbeats 800000 in
theorem basalEnd_any (cb g o : Nat) (u v : Value) (w : World) (hcb : w.cell? ⟨cb, 0, none⟩ = some (ptr g o)) (c0 : w.cell? ⟨g, o, none⟩ = some u) (c1 : w.cell? ⟨g, o + 1, none⟩ = some v) (f0 : w.frozen? ⟨g, o, none⟩ = false) (f1 : w.frozen? ⟨g, o + 1, none⟩ = false) (ne : cb ≠ g) :
    Calls Tryz.prog 61 #[ptr cb 0] w fun e w' => e = .returned (.tuple #[]) ∧ ∃ n, w' = ((w.setCell ⟨g, o, none⟩ (I 0)).setCell ⟨g, o + 1, none⟩ (.pointer none)).drewN n := by
  go_enter Tryz.func61, Tryz.ntmps61
  go_wp2
  go_region
  go_wp2
  go_end0
  exact ⟨rfl, 1, rfl⟩

theorem call_basalEnd (args : Array Value) (w : World) : (callFunc 61 args).run Tryz.prog w = .ok (.enter 61 args) w := by
  kernel_rfl

theorem AgAt.unique {w : World} {hb ho : Nat} {c c' : Array Value} {T T' : TypeId} {eb eb' : Option Nat} {es es' : List Ent} (h : AgAt w hb ho c T eb es) (k : AgAt w hb ho c' T' eb' es') : es = es' := by
  have hc : c = c' := by
    have h1 : w.heap[hb]? = some (.cells c T (0, 0)) := h.head
    have h2 : w.heap[hb]? = some (.cells c' T' (0, 0)) := k.head
    rw [h1] at h2; injection h2 with h2; injection h2
  subst hc
  obtain ⟨sl, a1, a2, a3⟩ := h.row
  obtain ⟨sl', b1, b2, b3⟩ := k.row
  rw [a1] at b1; injection b1 with b1; subst b1
  obtain ⟨p, cp, e1⟩ := row_slice a2
  obtain ⟨p', cp', e2⟩ := row_slice b2
  rw [e1] at e2; injection e2 with e2 e3 e4
  have hpt : ∀ l : List Ent, ptrs l = l.flatMap fun e => [ptr e.blk 0] := fun l => by simp [ptrs, List.map_eq_flatMap]
  rw [hpt] at a2 b2
  apply List.ext_getElem?
  intro i
  by_cases hi : i < es.length
  · have hi' : i < es'.length := by omega
    have x1 := List.getElem?_eq_getElem hi
    have x2 := List.getElem?_eq_getElem hi'
    obtain ⟨g, q, v1, -, v2, -⟩ := row_at a2 (fun _ => rfl) x1 (by decide)
    obtain ⟨g', q', v3, -, v4, -⟩ := row_at b2 (fun _ => rfl) x2 (by decide)
    rw [v1] at v3; injection v3 with v3 v5 v6; injection v3 with v3; injection v3 with v3
    have y1 := v2 0 (by decide)
    have y2 := v4 0 (by decide)
    subst v3
    rw [y1] at y2
    simp at y2
    have z1 : w.heap[es[i].blk]? = some (.cells (entCells es[i] i) 138 (0, 0)) := h.ent i _ x1
    have z2 : w.heap[es'[i].blk]? = some (.cells (entCells es'[i] i) 138 (0, 0)) := k.ent i _ x2
    rw [y2, z2] at z1
    injection z1 with z1; injection z1 with z1
    rw [x1, x2]
    simp [entCells] at z1
    congr 1
    cases hh : es[i] with
    | mk a1 a2 a3 a4 =>
      cases hh2 : es'[i] with
      | mk b1 b2 b3 b4 =>
        rw [hh, hh2] at y2 z1
        simp at y2 z1
        obtain ⟨z1, z2, z3⟩ := z1
        rw [y2, z1, z2, z3]
  · rw [List.getElem?_eq_none (by omega), List.getElem?_eq_none (by omega)]

/-- on the way through what is due -/
def RInv (w0 : World) (b : Nat) (D0 : DSt) (vc vw : Value) (t : Int) (W : World) (n : Nat) : Prop :=
  ∃ D : DSt, DAt W b D vc vw ∧ D.es.length = n ∧ D.now = D0.now ∧ D.lock = D0.lock ∧ D.ws = D0.ws ∧ D.num = D0.num ∧ D.chs.length = D0.chs.length ∧
    (∀ (k : Nat) (d : DCh), D.chs[k]? = some d → ∃ d0, D0.chs[k]? = some d0 ∧ (d = d0 ∨ (d = ⟨0, none⟩ ∧ ∃ e cb, d0.ent = some (e, cb) ∧ e.tick ≤ t))) ∧
    (∀ x, DF b D vc vw x → DF b D0 vc vw x) ∧ Frm (DF b D0 vc vw) w0 W

theorem ents_len (chs : List DCh) : (entsOf chs).length ≤ chs.length := List.length_filterMap_le _ _

theorem rinv_due (w0 : World) (b : Nat) (D0 : DSt) (vc vw : Value) (t : Int) (hc : D0.chs.length ≤ 4) (w : World) (n : Nat) (h : RInv w0 b D0 vc vw t w n) :
    ∃ c T eb es, Due (RInv w0 b D0 vc vw t) b 4 t w n c T eb es := by
  obtain ⟨D, h, hn, h1, h2, h3, h4, h5, h6, h7, h8⟩ := h
  obtain ⟨sl, ag⟩ := h.ag
  have hlen : D.es.length ≤ 4 := by
    have := h.perm.length_eq
    have := ents_len D.chs
    omega
  refine ⟨_, 94, D.eb, D.es, ag, h.heap, by omega, ?_⟩
  intro hne htick
  have hl0 : 0 < D.es.length := List.length_pos_iff.2 hne
  have hx0 := ix_some hl0
  generalize hxx : ix D.es 0 = x at *
  have hxm : x ∈ D.es := List.mem_of_getElem? hx0
  obtain ⟨k, c, cb, hk, hent⟩ := ents_mem (h.perm.mem_iff.1 hxm)
  obtain ⟨hact, g, nn, cap, hv, hbcb⟩ := h.ends k c x cb hk hent
  have hnn : nn = D.chs.length := by
    obtain ⟨a, cp, e⟩ := row_slice h.chs
    rw [hv] at e; injection e
  subst hnn
  refine ⟨61, #[ptr cb 0], hact, call_basalEnd, ?_⟩
  rintro w1 ⟨-, sl', es', p, ag', pm, hp', hbx, hlp, fr⟩
  rw [dCells_sl] at ag'
  have hK : KsF D.chs cb := ⟨k, c, x, hk, hent⟩
  have hcb1 : Blk w1 cb #[ptr g (k * 5)] 113 := hbcb.frm fr fun he => h.sep.ak cb he hK
  have hr1 : w1.ownsRow 0 116 5 vc D.chs.length (D.chs.flatMap dchC) := row_frm h.chs fr fun y hy he => h.sep.ac y he hy
  obtain ⟨g', cap', v1, -, v2, v3⟩ := row_at hr1 (fun _ => rfl) hk (by decide)
  rw [hv] at v1; injection v1 with v1 v5 v6; injection v1 with v1; injection v1 with v1
  subst v1
  have d0 := v2 0 (by decide)
  have d1 := v2 1 (by decide)
  have hcg : cb ≠ g := fun e => h.sep.ck g (by rw [hv]; rfl) (e ▸ hK)
  refine (basalEnd_any cb g (k * 5) _ _ w1 (by rw [hcb1.cell]; rfl) d0 d1 (v3 _) (v3 _) hcg).mono ?_
  rintro e w2 ⟨rfl, m, rfl⟩
  have pm' : es'.Perm (entsOf (D.chs.set k ⟨0, none⟩)) := by
    have q1 : (x :: es').Perm (x :: entsOf (D.chs.set k ⟨0, none⟩)) := (pm.symm.trans h.perm).trans (ents_out 0 D.chs k c hk hent)
    exact q1.cons_inv
  have sub : ∀ e ∈ es', e ∈ D.es := fun e he => pm.mem_iff.2 (List.mem_cons_of_mem _ he)
  obtain ⟨o1, o2, o3⟩ := h.out hk hv 0 ag' hp' sub pm' fr
  refine ⟨rfl, es'.length, by have := pm.length_eq; simp at this; omega, { D with chs := D.chs.set k ⟨0, none⟩, es := es' }, o1.keep ((Frm.refl _ _).drewN _), rfl, h1, h2, h3, h4, by simpa using h5, ?_, fun y hy => h7 y (o3 y hy), ?_⟩
  · intro j d hd
    have hd : (D.chs.set k ⟨0, none⟩)[j]? = some d := hd
    by_cases q : k = j
    · subst q
      have hkl : k < D.chs.length := (List.getElem?_eq_some_iff.1 hk).1
      rw [List.getElem?_set_self hkl] at hd; simp at hd; subst hd
      obtain ⟨d0, e1, e2⟩ := h6 k c hk
      refine ⟨d0, e1, Or.inr ⟨rfl, ?_⟩⟩
      rcases e2 with rfl | ⟨rfl, -⟩
      · exact ⟨x, cb, hent, htick⟩
      · simp at hent
    · rw [List.getElem?_set_ne q] at hd
      exact h6 j d hd
  · exact (h8.trans (o2.mono fun y _ hy => h7 y hy)).drewN m

theorem DAt.setNow {w : World} {b : Nat} {D : DSt} {vc vw : Value} (h : DAt w b D vc vw) (n : Int) : DAt (w.setCell ⟨b, 0, none⟩ (I n)) b { D with now := n } vc vw ∧ Frm (DF b D vc vw) w (w.setCell ⟨b, 0, none⟩ (I n)) := by
  obtain ⟨sl, ag⟩ := h.ag
  have hb : AgF b D.eb D.es b := Or.inl rfl
  have f : Frm (fun x => x = b) w (w.setCell ⟨b, 0, none⟩ (I n)) := (Frm.refl (fun x => x = b) w).setCell (p := ⟨b, 0, none⟩) rfl (I n)
  have s := h.sep
  refine ⟨⟨⟨sl, ?_⟩, h.heap, row_frm h.chs f fun x hx e => s.ac b hb (e ▸ hx), h.ws.frm f fun x hx e => s.av b hb (e ▸ hx), fun k c e cb h1 h2 => (h.ends k c e cb h1 h2).frm f fun e => s.ak b hb (e ▸ ⟨k, c, _, h1, h2⟩), h.perm, s⟩, f.mono fun x _ e => Or.inl (Or.inl e)⟩
  have := ag.setHead 0 (by omega) (I n)
  rwa [dCells_now] at this

/-- the windows have turned -/
theorem DAt.turned {w wr : World} {b : Nat} {D : DSt} {vc vw : Value} {ws' : List Wd} (h : DAt w b D vc vw) (lie : WsAt wr vw ws') (foot : ∀ x, WsF vw ws' x ↔ WsF vw D.ws x) (f : Frm (WsF vw D.ws) w wr) : DAt wr b { D with ws := ws' } vc vw := by
  obtain ⟨sl, ag⟩ := h.ag
  have s := h.sep
  exact ⟨⟨sl, ag.frm f fun x hx => s.av x hx⟩, h.heap, row_frm h.chs f fun x hx => s.cv x hx, lie, fun k c e cb h1 h2 => (h.ends k c e cb h1 h2).frm f fun e => s.vk cb e ⟨k, c, _, h1, h2⟩, h.perm,
    ⟨s.ac, fun x hx e => s.av x hx ((foot x).1 e), s.ak, fun x hx e => s.cv x hx ((foot x).1 e), s.ck, fun x hx => s.vk x ((foot x).1 hx)⟩⟩

end Go.Proofs.YtahiolfelcmikaaGreat
