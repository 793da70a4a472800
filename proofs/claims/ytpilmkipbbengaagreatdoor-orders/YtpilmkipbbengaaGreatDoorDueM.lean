/- What is due, with orders. -/
import Derived.Test.YtpilmkipbbengaaGreatDoorObM
import Derived.Test.YtpilmkipbbengaaGreatDoorDM
import Derived.Test.YtpilmkipbbengaaGreatDoorMach2
namespace Go.Proofs.YtpilmkipbbengaaGreatDoor
open Go.RowKit

theorem fm_out {β : Type} (g : OrdD → Option β) : ∀ (l : List OrdD) (j : Nat) (o o' : OrdD) (e : β), l[j]? = some o → g o = some e → g o' = none → (l.filterMap g).Perm (e :: (l.set j o').filterMap g) := by
  intro l
  induction l with
  | nil => intro j o o' e h; simp at h
  | cons a l ih =>
    intro j o o' e h h1 h2
    cases j with
    | zero => simp at h; subst h; simp [h1, h2]
    | succ j =>
      simp at h
      have := ih j o o' e h h1 h2
      simp only [List.set_cons_succ, List.filterMap_cons]
      cases g a with
      | none => exact this
      | some y => exact (this.cons y).trans (List.Perm.swap e y _)
theorem fm_same {β : Type} (g : OrdD → Option β) : ∀ (l : List OrdD) (j : Nat) (o o' : OrdD), l[j]? = some o → g o' = g o → (l.set j o').filterMap g = l.filterMap g := by
  intro l
  induction l with
  | nil => intro j o o' h; simp at h
  | cons a l ih =>
    intro j o o' h h1
    cases j with
    | zero => simp at h; subst h; simp [List.filterMap_cons, h1]
    | succ j => simp at h; simp only [List.set_cons_succ, List.filterMap_cons, ih j o o' h h1]
theorem fm_mem {g : OrdD → Option Ent} {l : List OrdD} {x : Ent} (h : x ∈ l.filterMap g) : ∃ (j : Nat) (o : OrdD), l[j]? = some o ∧ g o = some x := by
  obtain ⟨o, ho, he⟩ := List.mem_filterMap.1 h
  obtain ⟨j, hj⟩ := List.getElem?_of_mem ho
  exact ⟨j, o, hj, he⟩

theorem set_parts (ods : List OrdD) (j k : Nat) (o o' : OrdD) (hj : ods[j]? = some o) : going (ods.set j o') k = going (ods.take j) k ++ (going [o'] k ++ going (ods.drop (j + 1)) k) := by
  have hl : j < ods.length := (List.getElem?_eq_some_iff.1 hj).1
  have := going_split (ods.set j o') k j o' (List.getElem?_set_self hl)
  rw [List.take_set_of_le (by omega), List.drop_set_of_lt (by omega)] at this
  exact this

theorem begun_list (ods : List OrdD) (j k : Nat) (o o' : OrdD) (hj : ods[j]? = some o) (h0 : o.on k = false) (h1 : o'.on k = true) (hb : o'.blk = o.blk) :
    (going (ods.set j o') k).flatMap (fun o => [pt o.blk]) = ins ((going ods k).flatMap fun o => [pt o.blk]) (place ods k j) (pt o.blk) ∧ (going (ods.set j o') k).length = (going ods k).length + 1 := by
  have e1 := set_parts ods j k o o' hj
  have e2 := going_split ods k j o hj
  have g1 : going [o'] k = [o'] := by simp [going, h1]
  have g0 : going [o] k = [] := by simp [going, h0]
  rw [g1] at e1
  rw [g0] at e2
  have hl : ((going (ods.take j) k).flatMap fun o => [pt o.blk]).length = place ods k j := by rw [fm_len]; rfl
  constructor
  · rw [e1, e2, ins, ← hl]
    simp [hb]
  · rw [e1, e2]; simp; omega

theorem fm_map (l : List OrdD) : l.flatMap (fun o => [pt o.blk]) = (l.map (·.blk)).map pt := by
  induction l with
  | nil => rfl
  | cons a l ih => simp [ih]

theorem ended_list (ods : List OrdD) (j k : Nat) (o o' : OrdD) (hj : ods[j]? = some o) (h0 : o.on k = true) (h1 : o'.on k = false) :
    (((going ods k).map (·.blk)).eraseIdx (place ods k j)).map pt = (going (ods.set j o') k).flatMap (fun o => [pt o.blk]) ∧ (going (ods.set j o') k).length = (going ods k).length - 1 := by
  have e1 := set_parts ods j k o o' hj
  have e2 := going_split ods k j o hj
  have g1 : going [o'] k = [] := by simp [going, h1]
  have g0 : going [o] k = [o] := by simp [going, h0]
  rw [g1] at e1
  rw [g0] at e2
  constructor
  · rw [e1, e2]
    have hl : ((going (ods.take j) k).map (·.blk)).length = place ods k j := by simp [place]
    simp only [List.map_append, List.map_cons, List.map_nil, List.nil_append, List.flatMap_append]
    rw [List.eraseIdx_append_of_length_le (by omega), ← hl, fm_map, fm_map]
    simp
  · rw [e1, e2]; simp

def OSame (t : Int) (ods0 ods : List OrdD) : Prop := ods.length = ods0.length ∧ ∀ (j : Nat) (o : OrdD), ods[j]? = some o → ∃ o0, ods0[j]? = some o0 ∧ o.blk = o0.blk ∧ o.rest = o0.rest ∧ o.start = o0.start ∧ o.stop = o0.stop ∧ o.ch = o0.ch ∧ (o.beg = o0.beg ∨ (o.beg = none ∧ o.start ≤ t)) ∧ (o.fin = o0.fin ∨ (o.fin = none ∧ o.stop ≤ t))
def CSame (t : Int) (chs0 chs : List GCh) : Prop := chs.length = chs0.length ∧ ∀ (k : Nat) (d : GCh), chs[k]? = some d → ∃ d0, chs0[k]? = some d0 ∧ d.rests = d0.rests ∧ d.free = d0.free ∧ ((d.rate = d0.rate ∧ d.ent = d0.ent) ∨ (d.rate = 0 ∧ d.ent = none ∧ ∃ e cb, d0.ent = some (e, cb) ∧ e.tick ≤ t))

theorem OSame.refl (t : Int) (ods : List OrdD) : OSame t ods ods := ⟨rfl, fun _ o h => ⟨o, h, rfl, rfl, rfl, rfl, rfl, Or.inl rfl, Or.inl rfl⟩⟩
theorem CSame.refl (t : Int) (chs : List GCh) : CSame t chs chs := ⟨rfl, fun _ d h => ⟨d, h, rfl, rfl, Or.inl ⟨rfl, rfl⟩⟩⟩

theorem OSame.set {t : Int} {ods0 ods : List OrdD} (h : OSame t ods0 ods) {j : Nat} {o o' : OrdD} (hj : ods[j]? = some o) (e1 : o'.blk = o.blk) (e2 : o'.rest = o.rest) (e3 : o'.start = o.start) (e4 : o'.stop = o.stop) (e5 : o'.ch = o.ch)
    (hb : o'.beg = o.beg ∨ (o'.beg = none ∧ o'.start ≤ t)) (hf : o'.fin = o.fin ∨ (o'.fin = none ∧ o'.stop ≤ t)) : OSame t ods0 (ods.set j o') := by
  have hl : j < ods.length := (List.getElem?_eq_some_iff.1 hj).1
  refine ⟨by rw [List.length_set]; exact h.1, fun i p hp => ?_⟩
  by_cases q : j = i
  · subst q; rw [List.getElem?_set_self hl] at hp; simp at hp; subst hp
    obtain ⟨o0, a1, a2, a3, a4, a5, a6, a7, a8⟩ := h.2 j o hj
    refine ⟨o0, a1, by rw [e1, a2], by rw [e2, a3], by rw [e3, a4], by rw [e4, a5], by rw [e5, a6], ?_, ?_⟩
    · rcases hb with hb | hb
      · rw [hb, e3]; exact a7
      · exact Or.inr hb
    · rcases hf with hf | hf
      · rw [hf, e4]; exact a8
      · exact Or.inr hf
  · rw [List.getElem?_set_ne q] at hp; exact h.2 i p hp

theorem CSame.set {t : Int} {chs0 chs : List GCh} (h : CSame t chs0 chs) {k : Nat} {c c' : GCh} (hk : chs[k]? = some c) (e1 : c'.rests = c.rests) (e2 : c'.free = c.free) (hc : (c'.rate = c.rate ∧ c'.ent = c.ent) ∨ (c'.rate = 0 ∧ c'.ent = none ∧ ∃ e cb, c.ent = some (e, cb) ∧ e.tick ≤ t)) : CSame t chs0 (chs.set k c') := by
  have hl : k < chs.length := (List.getElem?_eq_some_iff.1 hk).1
  refine ⟨by rw [List.length_set]; exact h.1, fun i p hp => ?_⟩
  by_cases q : k = i
  · subst q; rw [List.getElem?_set_self hl] at hp; simp at hp; subst hp
    obtain ⟨d0, a1, a2, a3, a4⟩ := h.2 k c hk
    refine ⟨d0, a1, by rw [e1, a2], by rw [e2, a3], ?_⟩
    rcases hc with ⟨q1, q2⟩ | ⟨q1, q2, e, cb, q3, q4⟩
    · rw [q1, q2]; exact a4
    · rcases a4 with ⟨r1, r2⟩ | ⟨r1, r2, -⟩
      · exact Or.inr ⟨q1, q2, e, cb, by rw [← r2]; exact q3, q4⟩
      · rw [r2] at q3; cases q3
  · rw [List.getElem?_set_ne q] at hp; exact h.2 i p hp

/-- on the way through what is due -/
structure PSt (w0 : World) (b : Nat) (D0 : GSt) (ods0 : List OrdD) (vc vw : Value) (t : Int) (W : World) (D : GSt) (ods : List OrdD) : Prop where
  lie : PAt W b D vc vw ods
  now : D.now = D0.now
  lock : D.lock = D0.lock
  ws : D.ws = D0.ws
  num : D.num = D0.num
  vo : D.vo = D0.vo
  eb : D.eb = D0.eb
  chs : CSame t D0.chs D.chs
  osm : OSame t ods0 ods
  foot : ∀ x, PF b D vc vw ods x → PF b D0 vc vw ods0 x ∨ w0.heap.size ≤ x
  frm : Frm (PF b D0 vc vw ods0) w0 W

def PInv (w0 : World) (b : Nat) (D0 : GSt) (ods0 : List OrdD) (vc vw : Value) (t : Int) (W : World) (n : Nat) : Prop := ∃ D ods, PSt w0 b D0 ods0 vc vw t W D ods ∧ D.es.length = n

theorem call_takeBegin (args : Array Value) (w : World) : (callFunc 101 args).run Tryz.prog w = .ok (.enter 101 args) w := by kernel_rfl
theorem call_takeEnd (args : Array Value) (w : World) : (callFunc 103 args).run Tryz.prog w = .ok (.enter 103 args) w := by kernel_rfl

/-- the frame, one step on -/
theorem PSt.frame {w0 W W2 : World} {b : Nat} {D0 D : GSt} {ods0 ods : List OrdD} {vc vw : Value} {t : Int} (h : PSt w0 b D0 ods0 vc vw t W D ods) {T : Nat → Prop} (f : Frm T W W2) (hT : ∀ x, T x → PF b D vc vw ods x) : Frm (PF b D0 vc vw ods0) w0 W2 :=
  h.frm.trans2 f fun x hx e => by
    rcases h.foot x (hT x e) with q | q
    · exact q
    · omega

theorem gents_len (chs : List GCh) : (gents chs).length ≤ chs.length := List.length_filterMap_le _ _

/-- a rate ends -/
theorem due_rate {w0 W : World} {b : Nat} {D0 D : GSt} {ods0 ods : List OrdD} {vc vw : Value} {t : Int} (h : PSt w0 b D0 ods0 vc vw t W D ods) {x : Ent} (hx : x ∈ gents D.chs) (ht : x.tick ≤ t) :
    ∃ f caps, x.act = .func (.func f) #[] caps ∧ (∀ args w, (callFunc f args).run Tryz.prog w = .ok (.enter f args) w) ∧
      ∀ sl w1, PopEnd W b 4 (gCells D.now D.lock vc vw sl D.num D.vo D.nv) 75 D.eb D.es x (.returned (.iface 125 (ptr x.blk 0))) w1 → Calls Tryz.prog f caps w1 fun e w2 => e = .returned (.tuple #[]) ∧ ∃ n', n' < D.es.length ∧ PInv w0 b D0 ods0 vc vw t w2 n' := by
  obtain ⟨k, c, cb, hk, hent⟩ := gents_mem hx
  obtain ⟨hact, g, nn, cap, hv, hbcb⟩ := h.lie.g.ends k c x cb hk hent
  have hnn : nn = D.chs.length := by
    obtain ⟨a, cp, e⟩ := row_slice h.lie.g.chs
    rw [hv] at e; injection e
  subst hnn
  refine ⟨65, #[ptr cb 0], hact, call_basalEnd, ?_⟩
  rintro sl w1 ⟨-, sl', es', p, ag', pm, hp', hbx, hlp, fr⟩
  rw [gCells_sl] at ag'
  have hK : GKsF D.chs cb := ⟨k, c, x, hk, hent⟩
  have s := h.lie.g.sep
  have hcb1 : Blk w1 cb #[ptr g (k * 5)] 130 := hbcb.frm fr fun he => s.ak cb he hK
  have hr1 : w1.ownsRow 0 127 5 vc D.chs.length (D.chs.flatMap gchC) := row_frm h.lie.g.chs fr fun y hy he => s.ac y he hy
  obtain ⟨g', cap', v1, -, v2, v3⟩ := row_at hr1 (fun _ => rfl) hk (by decide)
  rw [hv] at v1; injection v1 with v1 v5 v6; injection v1 with v1; injection v1 with v1
  subst v1
  have hcg : cb ≠ g := fun e => s.ck g (by rw [hv]; rfl) (e ▸ hK)
  refine (basalEnd_any cb g (k * 5) _ _ w1 (by rw [hcb1.cell]; rfl) (v2 0 (by decide)) (v2 1 (by decide)) (v3 _) (v3 _) hcg).mono ?_
  rintro e w2 ⟨rfl, m, rfl⟩
  have pm' : es'.Perm (gents (D.chs.set k { c with rate := 0, ent := none }) ++ D.xt) := by
    have q1 : (x :: es').Perm (x :: (gents (D.chs.set k { c with rate := 0, ent := none }) ++ D.xt)) := (pm.symm.trans h.lie.g.perm).trans ((gents_out (cb := cb) { c with rate := 0, ent := none } rfl D.chs k c hk hent).append_right D.xt)
    exact q1.cons_inv
  have sub : ∀ e ∈ es', e ∈ D.es := fun e he => pm.mem_iff.2 (List.mem_cons_of_mem _ he)
  obtain ⟨o1, o2, o3⟩ := h.lie.g.out hk hv 0 ag' hp' sub pm' fr
  have oo := h.lie.o.frmG h.lie.g o2
  have hss : sosOf (D.chs.set k { c with rate := 0, ent := none }) = sosOf D.chs := sosOf_same D.chs k c { c with rate := 0, ent := none } hk rfl
  refine ⟨rfl, es'.length, by have := pm.length_eq; simp at this; omega, { D with chs := D.chs.set k { c with rate := 0, ent := none }, es := es' }, ods, ⟨⟨o1.keep ((Frm.refl _ _).drewN _), ?_⟩, h.now, h.lock, h.ws, h.num, h.vo, h.eb, h.chs.set hk rfl rfl (Or.inr ⟨rfl, rfl, x, cb, hent, ht⟩), h.osm, ?_, (h.frame o2 fun y hy => Or.inl (GW_GF hy)).drewN m⟩, rfl⟩
  · have := oo.keep ((Frm.refl (fun _ => False) ((w1.setCell ⟨g, k * 5, none⟩ (I 0)).setCell ⟨g, k * 5 + 1, none⟩ (.pointer none))).drewN m)
    show OAt _ b vc (sosOf (D.chs.set k { c with rate := 0, ent := none })) D.vo D.xt D.nv ods
    rw [hss]; exact this
  · rintro y (e | e)
    · exact h.foot y (Or.inl (o3 y e))
    · have e' : OF (sosOf (D.chs.set k { c with rate := 0, ent := none })) D.vo ods y := e
      rw [hss] at e'
      exact h.foot y (Or.inr e')

end Go.Proofs.YtpilmkipbbengaaGreatDoor

/- What is due: an order begins, an order is over; all of it. -/
namespace Go.Proofs.YtpilmkipbbengaaGreatDoor
open Go.RowKit

theorem OAt.frmA {w w1 : World} {b : Nat} {D : GSt} {vc vw : Value} {sos : List Value} {vo : Value} {xt : List Ent} {nv : Int} {ods : List OrdD} (h : OAt w b vc sos vo xt nv ods) (g : GAt w b D vc vw) (f : Frm (AgF b D.eb D.es) w w1) : OAt w1 b vc sos vo xt nv ods :=
  h.frmG g (f.mono fun _ _ e => Or.inl e)

theorem chan_of {w : World} {b : Nat} {D : GSt} {vc : Value} {xt : List Ent} {nv : Int} {ods : List OrdD} (h : OAt w b vc (sosOf D.chs) D.vo xt nv ods) {j : Nat} {o : OrdD} (hj : ods[j]? = some o) : ∃ c, D.chs[o.ch]? = some c := by
  have := h.chn j o hj
  simp [sosOf] at this
  exact ⟨_, List.getElem?_eq_getElem this⟩

theorem OF_turn {chs : List GCh} {vo : Value} {ods : List OrdD} {j k : Nat} {o o' : OrdD} {c : GCh} {v' : Value} {N : Nat} (hj : ods[j]? = some o) (hc : chs[k]? = some c) (e1 : o'.blk = o.blk) (hb : o'.beg = o.beg ∨ o'.beg = none) (hf : o'.fin = o.fin ∨ o'.fin = none) (hn : v'.ownBlock = c.so.ownBlock ∨ ∃ q, v'.ownBlock = some q ∧ N ≤ q) {x : Nat}
    (hx : OF (sosOf (chs.set k { c with so := v' })) vo (ods.set j o') x) : OF (sosOf chs) vo ods x ∨ N ≤ x := by
  have hl : j < ods.length := (List.getElem?_eq_some_iff.1 hj).1
  rw [sosOf_set _ _ _ _ hc] at hx
  have hkl : k < (sosOf chs).length := by have := (List.getElem?_eq_some_iff.1 hc).1; simpa [sosOf] using this
  rcases hx with ⟨i, p, hp, hh⟩ | e | ⟨l, s, hs, e⟩
  · by_cases q : j = i
    · subst q; rw [List.getElem?_set_self hl] at hp; simp at hp; subst hp
      rcases hh with hh | ⟨e, cc, oc, he, hh⟩ | ⟨e, cc, oc, pc, he, hh⟩
      · exact Or.inl (Or.inl ⟨j, o, hj, Or.inl (by rw [← e1]; exact hh)⟩)
      · rcases hb with hb | hb
        · exact Or.inl (Or.inl ⟨j, o, hj, Or.inr (Or.inl ⟨e, cc, oc, by rw [← hb]; exact he, hh⟩)⟩)
        · rw [hb] at he; cases he
      · rcases hf with hf | hf
        · exact Or.inl (Or.inl ⟨j, o, hj, Or.inr (Or.inr ⟨e, cc, oc, pc, by rw [← hf]; exact he, hh⟩)⟩)
        · rw [hf] at he; cases he
    · rw [List.getElem?_set_ne q] at hp; exact Or.inl (Or.inl ⟨i, p, hp, hh⟩)
  · exact Or.inl (Or.inr (Or.inl e))
  · by_cases q : k = l
    · subst q; rw [List.getElem?_set_self hkl] at hs; simp at hs; subst hs
      rcases hn with e' | ⟨q, e', hq⟩
      · exact Or.inl (Or.inr (Or.inr ⟨k, c.so, sosOf_get hc, by rw [← e']; exact e⟩))
      · rw [e'] at e; injection e with e; exact Or.inr (by omega)
    · rw [List.getElem?_set_ne q] at hs; exact Or.inl (Or.inr (Or.inr ⟨l, s, hs, e⟩))

theorem due_begin {w0 W : World} {b : Nat} {D0 D : GSt} {ods0 ods : List OrdD} {vc vw : Value} {t : Int} (h : PSt w0 b D0 ods0 vc vw t W D ods) (hlen : ods.length ≤ 3300) {x : Ent} (hx : x ∈ begsOf ods) (ht : x.tick ≤ t) :
    ∃ f caps, x.act = .func (.func f) #[] caps ∧ (∀ args w, (callFunc f args).run Tryz.prog w = .ok (.enter f args) w) ∧
      ∀ sl w1, PopEnd W b 4 (gCells D.now D.lock vc vw sl D.num D.vo D.nv) 75 D.eb D.es x (.returned (.iface 125 (ptr x.blk 0))) w1 → Calls Tryz.prog f caps w1 fun e w2 => e = .returned (.tuple #[]) ∧ ∃ n', n' < D.es.length ∧ PInv w0 b D0 ods0 vc vw t w2 n' := by
  obtain ⟨j, o, hj, hbx⟩ := fm_mem hx
  obtain ⟨⟨x', cc, oc⟩, hbeg, hxx⟩ : ∃ y, o.beg = some y ∧ y.1 = x := by
    cases hh : o.beg with
    | none => rw [hh] at hbx; simp at hbx
    | some y => rw [hh] at hbx; simp at hbx; exact ⟨y, rfl, hbx⟩
  simp at hxx
  subst hxx
  obtain ⟨htk, hact, ⟨g, nn, cap, hv, hbcc⟩, hboc⟩ := h.lie.o.begs j o x' cc oc hj hbeg
  have hnn : nn = D.chs.length := by
    obtain ⟨a, cp, e⟩ := row_slice h.lie.g.chs
    rw [hv] at e; injection e
  subst hnn
  refine ⟨101, #[ptr cc 0, ptr oc 0], hact, call_takeBegin, ?_⟩
  rintro sl w1 ⟨-, sl', es', p, ag', pm, hp', hbx', hlp, fr⟩
  rw [gCells_sl] at ag'
  have sub : ∀ e ∈ es', e ∈ D.es := fun e he => pm.mem_iff.2 (List.mem_cons_of_mem _ he)
  have hfin := h.lie.o.bf j o hj (by rw [hbeg]; simp)
  obtain ⟨c, hc⟩ := chan_of h.lie.o hj
  have o1 : OAt w1 b vc (sosOf D.chs) D.vo D.xt D.nv ods := h.lie.o.frmA h.lie.g fr
  have pb := fm_out (fun o : OrdD => o.beg.map (·.1)) ods j o { o with beg := none } x' hj (by rw [hbeg]; rfl) rfl
  have pf := fm_same (fun o : OrdD => o.fin.map (·.1)) ods j o { o with beg := none } hj rfl
  have pmx : es'.Perm (gents D.chs ++ (begsOf (ods.set j { o with beg := none }) ++ finsOf (ods.set j { o with beg := none }))) := by
    have q0 : (begsOf ods ++ finsOf ods).Perm (x' :: (begsOf (ods.set j { o with beg := none }) ++ finsOf (ods.set j { o with beg := none }))) := by
      unfold begsOf finsOf; rw [pf]; exact pb.append_right _
    have q1 : (x' :: es').Perm (x' :: (gents D.chs ++ (begsOf (ods.set j { o with beg := none }) ++ finsOf (ods.set j { o with beg := none })))) :=
      ((pm.symm.trans h.lie.g.perm).trans ((h.lie.o.xtp.trans q0).append_left (gents D.chs))).trans List.perm_middle
    exact q1.cons_inv
  have g1 := h.lie.g.pop ag' hp' sub pmx fr
  obtain ⟨g', cap', hv', -, -, c2, -, -, hfz, hgt⟩ := g1.chan (k := o.ch) (c := c) hc
  have hv'' := hv'
  rw [hv] at hv''; injection hv'' with v1 v5 v6; injection v1 with v1; injection v1 with v1
  subst v1
  have hon : o.on o.ch = false := by simp [OrdD.on, hbeg]
  have hbcc1 : Blk w1 cc #[ptr g (o.ch * 5)] 130 := by
    have := o1.begs j o x' cc oc hj hbeg
    obtain ⟨-, -, ⟨g2, n2, cap2, hv2, hb2⟩, -⟩ := this
    rw [hv] at hv2; injection hv2 with w1 w5 w6; injection w1 with w1; injection w1 with w1
    rw [w1]; exact hb2
  have hboc1 := (o1.begs j o x' cc oc hj hbeg).2.2.2
  have hbg := begin_any b vc (sosOf D.chs) D.vo D.xt D.nv ods g o.ch j o c.so w1 o1 hlen hj hon (sosOf_get hc) c2 (hfz _) hgt
  refine (takeBegin_call cc oc g (o.ch * 5) o.blk w1 _ (by rw [hbcc1.cell]; rfl) (by rw [hboc1.cell]; rfl) hbg).mono ?_
  rintro e w2 ⟨rfl, w2', v', r1, r2, r3, r4⟩
  have on1 : ({ o with beg := none } : OrdD).on o.ch = true := by
    simp only [OrdD.on, beq_self_eq_true, Bool.true_and, Option.isNone_none]
    cases hh : o.fin with
    | none => exact absurd hh hfin
    | some y => rfl
  obtain ⟨l1, l2⟩ := begun_list ods j o.ch o { o with beg := none } hj hon on1 rfl
  obtain ⟨q1, q2, q3⟩ := PAt.turned (nv' := D.nv) g1 o1 (o' := { o with beg := none }) hj rfl hc hv' rfl rfl rfl rfl rfl (Or.inr rfl) (Or.inl rfl) (fun _ => hfin) r3 (by rw [l1, l2]; exact r1) r2 r4 (List.Perm.refl _) (by have := h.lie.o.cnt; rw [this]; unfold finsOf; rw [pf])
  refine ⟨rfl, es'.length, by have := pm.length_eq; simp at this; omega, _, _, ⟨⟨q1, q2⟩, h.now, h.lock, h.ws, h.num, h.vo, h.eb, h.chs.set hc rfl rfl (Or.inl ⟨rfl, rfl⟩), h.osm.set hj rfl rfl rfl rfl rfl (Or.inr ⟨rfl, by rw [← htk]; exact ht⟩) (Or.inl rfl), ?_, ?_⟩, rfl⟩
  · have hsz : w0.heap.size ≤ w1.heap.size := Nat.le_trans h.frm.size fr.size
    rintro y (e | e)
    · refine h.foot y (Or.inl ?_)
      rcases e with e | e | e | ⟨k', c', e', h1, h2⟩
      · exact Or.inl (AgF_sub2 sub e)
      · exact Or.inr (Or.inl e)
      · exact Or.inr (Or.inr (Or.inl e))
      · refine Or.inr (Or.inr (Or.inr ?_))
        have h1 : (D.chs.set o.ch { c with so := v' })[k']? = some c' := h1
        by_cases q : o.ch = k'
        · have hcl : o.ch < D.chs.length := (List.getElem?_eq_some_iff.1 hc).1
          rw [← q, List.getElem?_set_self hcl] at h1; simp at h1; subst h1
          exact ⟨o.ch, c, e', hc, h2⟩
        · rw [List.getElem?_set_ne q] at h1; exact ⟨k', c', e', h1, h2⟩
    · have e' : OF (sosOf (D.chs.set o.ch { c with so := v' })) D.vo (ods.set j { o with beg := none }) y := e
      rcases OF_turn (N := w1.heap.size) (o' := { o with beg := none }) hj hc rfl (Or.inr rfl) (Or.inl rfl) r2 e' with e | e
      · exact h.foot y (Or.inr e)
      · exact Or.inr (by omega)
  · refine (h.frame fr fun y hy => Or.inl (Or.inl hy)).trans2 q3 fun y hy e => ?_
    have : PF b D vc vw ods y := by
      rcases e with e | e
      · exact Or.inr (Or.inr (Or.inr ⟨o.ch, c.so, sosOf_get hc, e⟩))
      · exact Or.inl (Or.inr (Or.inl e))
    rcases h.foot y this with q | q
    · exact q
    · omega

end Go.Proofs.YtpilmkipbbengaaGreatDoor

/- What is due: an order is over; all of it. -/
namespace Go.Proofs.YtpilmkipbbengaaGreatDoor
open Go.RowKit

theorem fins_len (ods : List OrdD) : (finsOf ods).length ≤ ods.length := List.length_filterMap_le _ _
theorem begs_len (ods : List OrdD) : (begsOf ods).length ≤ ods.length := List.length_filterMap_le _ _

theorem due_end {w0 W : World} {b : Nat} {D0 D : GSt} {ods0 ods : List OrdD} {vc vw : Value} {t : Int} (h : PSt w0 b D0 ods0 vc vw t W D ods) (hlen : ods.length ≤ 3300) {x : Ent} (hx : x ∈ finsOf ods) (ht : x.tick ≤ t) (hmin : ∀ e ∈ D.es, x.tick ≤ e.tick) :
    ∃ f caps, x.act = .func (.func f) #[] caps ∧ (∀ args w, (callFunc f args).run Tryz.prog w = .ok (.enter f args) w) ∧
      ∀ sl w1, PopEnd W b 4 (gCells D.now D.lock vc vw sl D.num D.vo D.nv) 75 D.eb D.es x (.returned (.iface 125 (ptr x.blk 0))) w1 → Calls Tryz.prog f caps w1 fun e w2 => e = .returned (.tuple #[]) ∧ ∃ n', n' < D.es.length ∧ PInv w0 b D0 ods0 vc vw t w2 n' := by
  obtain ⟨j, o, hj, hbx⟩ := fm_mem hx
  obtain ⟨⟨x', cc, oc, pc⟩, hfin, hxx⟩ : ∃ y, o.fin = some y ∧ y.1 = x := by
    cases hh : o.fin with
    | none => rw [hh] at hbx; simp at hbx
    | some y => rw [hh] at hbx; simp at hbx; exact ⟨y, rfl, hbx⟩
  simp at hxx
  subst hxx
  obtain ⟨htk, hact, ⟨g, nn, cap, hv, hbcc⟩, hboc, hbpc⟩ := h.lie.o.fins j o x' cc oc pc hj hfin
  have hnn : nn = D.chs.length := by
    obtain ⟨a, cp, e⟩ := row_slice h.lie.g.chs
    rw [hv] at e; injection e
  subst hnn
  have hbeg : o.beg = none := by
    cases hh : o.beg with
    | none => rfl
    | some y =>
      exfalso
      obtain ⟨e, cc', oc'⟩ := y
      have q1 := (h.lie.o.begs j o e cc' oc' hj hh).1
      have hm : e ∈ begsOf ods := List.mem_filterMap.2 ⟨o, List.mem_of_getElem? hj, by rw [hh]; rfl⟩
      have hm' : e ∈ D.es := h.lie.g.perm.mem_iff.2 (List.mem_append_right _ (h.lie.o.xtp.mem_iff.2 (List.mem_append_left _ hm)))
      have := hmin e hm'
      have := h.lie.o.lt j o hj
      omega
  refine ⟨103, #[ptr cc 0, ptr oc 0, ptr pc 0], hact, call_takeEnd, ?_⟩
  rintro sl w1 ⟨-, sl', es', p, ag', pm, hp', hbx', hlp, fr⟩
  rw [gCells_sl] at ag'
  have sub : ∀ e ∈ es', e ∈ D.es := fun e he => pm.mem_iff.2 (List.mem_cons_of_mem _ he)
  obtain ⟨c, hc⟩ := chan_of h.lie.o hj
  have o1 : OAt w1 b vc (sosOf D.chs) D.vo D.xt D.nv ods := h.lie.o.frmA h.lie.g fr
  have pf := fm_out (fun o : OrdD => o.fin.map (·.1)) ods j o { o with fin := none } x' hj (by rw [hfin]; rfl) rfl
  have pb := fm_same (fun o : OrdD => o.beg.map (·.1)) ods j o { o with fin := none } hj rfl
  have pmx : es'.Perm (gents D.chs ++ (begsOf (ods.set j { o with fin := none }) ++ finsOf (ods.set j { o with fin := none }))) := by
    have q0 : (begsOf ods ++ finsOf ods).Perm (x' :: (begsOf (ods.set j { o with fin := none }) ++ finsOf (ods.set j { o with fin := none }))) := by
      unfold begsOf finsOf; rw [pb]; exact (pf.append_left _).trans List.perm_middle
    have q1 : (x' :: es').Perm (x' :: (gents D.chs ++ (begsOf (ods.set j { o with fin := none }) ++ finsOf (ods.set j { o with fin := none })))) :=
      ((pm.symm.trans h.lie.g.perm).trans ((h.lie.o.xtp.trans q0).append_left (gents D.chs))).trans List.perm_middle
    exact q1.cons_inv
  have g1 := h.lie.g.pop ag' hp' sub pmx fr
  obtain ⟨g', cap', hv', -, -, c2, -, -, hfz, hgt⟩ := g1.chan (k := o.ch) (c := c) hc
  have hv'' := hv'
  rw [hv] at hv''; injection hv'' with v1 v5 v6; injection v1 with v1; injection v1 with v1
  subst v1
  have hon : o.on o.ch = true := by simp [OrdD.on, hbeg, hfin]
  obtain ⟨-, -, ⟨g2, n2, cap2, hv2, hbcc1⟩, hboc1, hbpc1⟩ := o1.fins j o x' cc oc pc hj hfin
  rw [hv] at hv2; injection hv2 with w1 w5 w6; injection w1 with w1; injection w1 with w1
  subst w1
  have hdr := drop_any b vc (sosOf D.chs) D.vo D.xt D.nv ods g o.ch j o c.so w1 o1 hlen hj hon (sosOf_get hc) c2 (hfz _) hgt
  have on1 : ({ o with fin := none } : OrdD).on o.ch = false := by simp [OrdD.on]
  obtain ⟨l1, l2⟩ := ended_list ods j o.ch o { o with fin := none } hj hon on1
  have hnv : D.nv - 1 = ((finsOf (ods.set j { o with fin := none })).length : Int) := by
    have q1 := h.lie.o.cnt
    have q2 := pf.length_eq
    simp only [List.length_cons] at q2
    unfold finsOf at q1 ⊢
    omega
  have hnb : 0 ≤ D.nv ∧ D.nv ≤ 10000 := by
    have q1 := h.lie.o.cnt
    have q2 := fins_len ods
    omega
  refine takeEnd_call cc oc pc g (o.ch * 5) o.blk b w1 (fun w2 => ∃ n', n' < D.es.length ∧ PInv w0 b D0 ods0 vc vw t w2 n') (by rw [hbcc1.cell]; rfl) (by rw [hboc1.cell]; rfl) (hdr.mono ?_)
  rintro e w2 ⟨rfl, w2', v', r1, r2, r3, r4⟩
  obtain ⟨q1, q2, q3⟩ := PAt.turned (nv' := D.nv - 1) g1 o1 (o' := { o with fin := none }) hj rfl hc hv' rfl rfl rfl rfl rfl (Or.inl rfl) (Or.inr rfl) (fun e => absurd hbeg e) r3 (by rw [← l1, l2]; exact r1) (Or.inl r2) r4 (List.Perm.refl _) hnv
  have hpc2 : Blk w2 pc #[ptr b 0] 34 := hbpc1.frm q3 fun e => by
    rcases e with e | e
    · have := (row_ty (o1.so o.ch c.so (sosOf_get hc)) e).uniq ⟨_, hbpc1⟩
      revert this; decide
    · have := (row_ty g1.chs e).uniq ⟨_, hbpc1⟩
      revert this; decide
  obtain ⟨sl2, ag2⟩ := q1.ag
  obtain ⟨s1, s2⟩ := q1.setHead (D' := { D with es := es', xt := begsOf (ods.set j { o with fin := none }) ++ finsOf (ods.set j { o with fin := none }), chs := D.chs.set o.ch { c with so := v' }, nv := D.nv - 1 }) 7 (by decide) (I (D.nv - 1)) (fun sl => by simp [gCells]) rfl rfl rfl rfl rfl
  have hob : OAt (w2.setCell ⟨b, 7, none⟩ (I (D.nv - 1))) b vc (sosOf (D.chs.set o.ch { c with so := v' })) D.vo (begsOf (ods.set j { o with fin := none }) ++ finsOf (ods.set j { o with fin := none })) (D.nv - 1) (ods.set j { o with fin := none }) :=
    q2.frmG q1 (s2.mono fun y _ e => Or.inl (Or.inl e))
  refine ⟨rfl, by rw [hpc2.cell]; rfl, D.nv, hnb.1, hnb.2, by rw [ag2.head.cell]; rfl, ag2.head.frozen 7, es'.length, by have := pm.length_eq; simp at this; omega, _, _, ⟨⟨s1, hob⟩, h.now, h.lock, h.ws, h.num, h.vo, h.eb, h.chs.set hc rfl rfl (Or.inl ⟨rfl, rfl⟩), h.osm.set hj rfl rfl rfl rfl rfl (Or.inl rfl) (Or.inr ⟨rfl, by rw [← htk]; exact ht⟩), ?_, ?_⟩, rfl⟩
  · have hsz : w0.heap.size ≤ w1.heap.size := Nat.le_trans h.frm.size fr.size
    rintro y (e | e)
    · refine h.foot y (Or.inl ?_)
      rcases e with e | e | e | ⟨k', c', e', h1, h2⟩
      · exact Or.inl (AgF_sub2 sub e)
      · exact Or.inr (Or.inl e)
      · exact Or.inr (Or.inr (Or.inl e))
      · refine Or.inr (Or.inr (Or.inr ?_))
        have h1 : (D.chs.set o.ch { c with so := v' })[k']? = some c' := h1
        by_cases q : o.ch = k'
        · have hcl : o.ch < D.chs.length := (List.getElem?_eq_some_iff.1 hc).1
          rw [← q, List.getElem?_set_self hcl] at h1; simp at h1; subst h1
          exact ⟨o.ch, c, e', hc, h2⟩
        · rw [List.getElem?_set_ne q] at h1; exact ⟨k', c', e', h1, h2⟩
    · have e' : OF (sosOf (D.chs.set o.ch { c with so := v' })) D.vo (ods.set j { o with fin := none }) y := e
      rcases OF_turn (N := w1.heap.size) (o' := { o with fin := none }) hj hc rfl (Or.inl rfl) (Or.inr rfl) (Or.inl r2) e' with e | e
      · exact h.foot y (Or.inr e)
      · exact Or.inr (by omega)
  · have fa : Frm (PF b D0 vc vw ods0) w0 w2 := (h.frame fr fun y hy => Or.inl (Or.inl hy)).trans2 q3 fun y hy e => by
      have : PF b D vc vw ods y := by
        rcases e with e | e
        · exact Or.inr (Or.inr (Or.inr ⟨o.ch, c.so, sosOf_get hc, e⟩))
        · exact Or.inl (Or.inr (Or.inl e))
      rcases h.foot y this with q | q
      · exact q
      · omega
    exact fa.trans2 s2 fun y hy e => by
      rcases h.foot y (Or.inl (Or.inl (Or.inl e))) with q | q
      · exact q
      · omega

theorem pinv_due (w0 : World) (b : Nat) (D0 : GSt) (ods0 : List OrdD) (vc vw : Value) (t : Int) (hc : D0.chs.length ≤ 4) (ho : ods0.length ≤ 3300) (w : World) (n : Nat) (h : PInv w0 b D0 ods0 vc vw t w n) :
    ∃ c T eb es, Due (PInv w0 b D0 ods0 vc vw t) b 4 t w n c T eb es := by
  obtain ⟨D, ods, h, hn⟩ := h
  obtain ⟨sl, ag⟩ := h.lie.g.ag
  have hol : ods.length ≤ 3300 := by rw [h.osm.1]; exact ho
  have hlen : D.es.length ≤ 6604 := by
    have q1 := h.lie.g.perm.length_eq
    have q2 := h.lie.o.xtp.length_eq
    have q3 := gents_len D.chs
    have q4 := begs_len ods
    have q5 := fins_len ods
    have q6 := h.chs.1
    simp only [List.length_append] at q1 q2
    omega
  refine ⟨_, 75, D.eb, D.es, ag, h.lie.g.heap, by omega, ?_⟩
  intro hne htick
  have hl0 : 0 < D.es.length := List.length_pos_iff.2 hne
  have hx0 := ix_some hl0
  have hmin : ∀ e ∈ D.es, (ix D.es 0).tick ≤ e.tick := by
    intro e he
    obtain ⟨i, hi⟩ := List.getElem?_of_mem he
    have hil := (List.getElem?_eq_some_iff.1 hi).1
    have := h.lie.g.heap.root i hil
    have e1 : ix D.es i = e := by simp [ix, hi]
    rw [e1] at this
    unfold le at this
    omega
  generalize hxx : ix D.es 0 = x at *
  have hxm : x ∈ D.es := List.mem_of_getElem? hx0
  rw [← hn]
  rcases List.mem_append.1 (h.lie.g.perm.mem_iff.1 hxm) with q | q
  · obtain ⟨f, caps, a1, a2, a3⟩ := due_rate h q htick
    exact ⟨f, caps, a1, a2, fun w1 hw => a3 sl w1 hw⟩
  · rcases List.mem_append.1 (h.lie.o.xtp.mem_iff.1 q) with q | q
    · obtain ⟨f, caps, a1, a2, a3⟩ := due_begin h hol q htick
      exact ⟨f, caps, a1, a2, fun w1 hw => a3 sl w1 hw⟩
    · obtain ⟨f, caps, a1, a2, a3⟩ := due_end h hol q htick hmin
      exact ⟨f, caps, a1, a2, fun w1 hw => a3 sl w1 hw⟩

theorem gents_in_mem {chs : List GCh} {k : Nat} {c : GCh} {e : Ent} {cb : Nat} (hk : chs[k]? = some c) (he : c.ent = some (e, cb)) : e ∈ gents chs :=
  List.mem_filterMap.2 ⟨c, List.mem_of_getElem? hk, by rw [he]; rfl⟩

/-- what is due has been done -/
theorem preached (w0 w' : World) (b : Nat) (D0 : GSt) (ods0 : List OrdD) (vc vw : Value) (t : Int) (e : Ending) (h : ReachEnd (PInv w0 b D0 ods0 vc vw t) b 4 t e w') :
    e = .returned (.tuple #[]) ∧ ∃ D ods, PSt w0 b D0 ods0 vc vw t w' D ods ∧ ∀ x ∈ D.es, t < x.tick := by
  obtain ⟨rfl, n, c, T, eb, es, ⟨D, ods, h, hn⟩, hdue, hend⟩ := h
  refine ⟨rfl, D, ods, h, ?_⟩
  intro x hm
  obtain ⟨sl, ag⟩ := h.lie.g.ag
  have heq := hdue.1.unique ag
  subst heq
  rcases hend with hend | hend
  · rw [hend] at hm; cases hm
  · obtain ⟨i, hi⟩ := List.getElem?_of_mem hm
    have hil := (List.getElem?_eq_some_iff.1 hi).1
    have := hdue.2.1.root i hil
    have e1 : ix D.es i = x := by simp [ix, hi]
    rw [e1] at this
    unfold le at this
    omega

end Go.Proofs.YtpilmkipbbengaaGreatDoor

/- pass, with orders. -/
namespace Go.Proofs.YtpilmkipbbengaaGreatDoor
open Go.RowKit

structure PEnd (w w' : World) (b : Nat) (D D' : GSt) (vc vw : Value) (ods ods' : List OrdD) (lims : List Lim) (ds : List Ds) : Prop where
  lie : PAt w' b D' vc vw ods'
  now : D'.now = D.now + 1
  lock : D'.lock = D.lock
  num : D'.num = D.num
  fits : Fits D'.ws lims ds (D.now + 1)
  chs : CSame (D.now + 1) D.chs D'.chs
  osm : OSame (D.now + 1) ods ods'
  late : ∀ x ∈ D'.es, D.now + 1 < x.tick
  foot : ∀ x, PF b D' vc vw ods' x → PF b D vc vw ods x ∨ w.heap.size ≤ x
  frm : Frm (PF b D vc vw ods) w w'

set_option maxRecDepth 100000 in
set_option maxHeartbeats 1600000 in
theorem opass_all (b : Nat) (D : GSt) (vc vw : Value) (ods : List OrdD) (lims : List Lim) (ds : List Ds) (w : World) (h : PAt w b D vc vw ods) (hf : Fits D.ws lims ds D.now) (hl : ∀ l ∈ lims, 1 ≤ l.win) (hd : ∀ d ∈ ds, d.tick ≤ D.now)
    (nl : D.ws.length ≤ 6) (nc : D.chs.length ≤ 4) (no : ods.length ≤ 3300) (n0 : 0 ≤ D.now) (n1 : D.now ≤ 400) :
    Calls Tryz.prog 89 #[ptr b 0] w fun e w' => e = .returned (.tuple #[]) ∧ ∃ D' ods', PEnd w w' b D D' vc vw ods ods' lims ds := by
  obtain ⟨av, cp, rfl⟩ := row_slice h.g.ws.row
  obtain ⟨sl, ag⟩ := h.g.ag
  have c0 : w.cell? ⟨b, 0, none⟩ = some (I D.now) := by rw [ag.head.cell]; rfl
  have c3 : w.cell? ⟨b, 3, none⟩ = some (.slice av D.ws.length cp) := by rw [ag.head.cell]; rfl
  have f0 : w.frozen? ⟨b, 0, none⟩ = false := ag.head.frozen 0
  obtain ⟨hs, hsf⟩ := h.g.setHead (D' := { D with now := D.now + 1 }) 0 (by decide) (I (D.now + 1)) (fun sl => by simp [gCells]) rfl rfl rfl rfl rfl
  have ho := h.o.frmG h.g (hsf.mono fun y _ e => Or.inl (Or.inl e))
  have H := hide (And.intro h (And.intro hf (And.intro hl (And.intro hd (And.intro hs (And.intro hsf ho))))))
  clear h hf hl hd hs hsf ho ag
  go_enter Tryz.func89, Tryz.ntmps89
  go_wp2_with fail
  go_loopg [3, 16] D.ws.length (fun q _ i wr => ∃ j : Nat, q + j = D.ws.length ∧ i = I j ∧ Hid (∃ ws', Turn (w.setCell ⟨b, 0, none⟩ (I (D.now + 1))) wr (.slice av D.ws.length cp) D.ws ws' lims j fun W l => Fit W l ds (D.now + 1)))
  case atStart => exact ⟨0, by omega, rfl, D.ws, Turn.start _ _ (H.out).2.2.2.2.1.ws (Frm.refl _ _)⟩
  case round =>
    obtain ⟨j, hkj, rfl, hst⟩ := hrel
    obtain ⟨ws', ht⟩ := hst.out
    have hlen := ht.len
    by_cases hj : j < D.ws.length
    · obtain ⟨x, hx⟩ : ∃ x, ws'[j]? = some x := ⟨_, List.getElem?_eq_getElem (by omega)⟩
      have hx0 : D.ws[j]? = some x := by rw [← ht.rest j (Nat.le_refl _)]; exact hx
      obtain ⟨l, hl, hfit⟩ := (H.out).2.1.fit hx0
      obtain ⟨g', cap', hv, -, hcell⟩ := ht.lie.cell hx
      injection hv with hv1 hv2 hv3
      subst hv1
      have hwin := ht.lie.each j x hx
      have GG := hide (pass_any x.1 x.2.1 x.2.2 wr hwin hfit.ok)
      have hwl := (H.out).2.2.1 l (List.mem_of_getElem? hl)
      have NX : Hid (∀ w2, Frm (fun b => b = x.1 ∨ b = x.2.1) wr w2 → WinAt w2 x.1 x.2.1 x.2.2.pass → ∃ k' : Nat, k' < gk ∧ ∃ j' : Nat, k' + j' = D.ws.length ∧ I ((j : Int) + 1) = I j' ∧ Hid (∃ ws', Turn (w.setCell ⟨b, 0, none⟩ (I (D.now + 1))) w2 (.slice (some ⟨g', 0, none⟩) D.ws.length cp) D.ws ws' lims j' fun W l => Fit W l ds (D.now + 1))) := by
        intro w2 hf2 hw2
        exact ⟨gk - 1, by omega, j + 1, by omega, by simp, _, ht.next hx hl hf2 hw2 (hfit.pass hwl (H.out).2.2.2.1)⟩
      clear hwin hfit hx hx0 hl hwl hst ht hv2 hv3 hlen
      go_wp2_with fail
      refine (GG.out).mono ?_
      rintro e w2 ⟨rfl, f2, hw2⟩
      obtain ⟨k', m1, m2⟩ := NX.out w2 f2 hw2
      have M1 := hide m1
      have M2 := hide m2
      clear m1 m2 f2 hw2
      go_wp2_with fail
      go_roundg k'
      case measure => exact M1.out
      case rel => exact M2.out
    · have hje : j = D.ws.length := by omega
      rw [hje] at ht
      have hD := (H.out).2.2.2.2.1.turned ht.lie ht.foot ht.frm
      have hO := (H.out).2.2.2.2.2.2.frmG (H.out).2.2.2.2.1 (ht.frm.mono fun y _ e => Or.inr (Or.inr e))
      have hfits := ht.fits (H.out).2.1.1
      have fD : Frm (PF b D vc (.slice av D.ws.length cp) ods) w wr := ((H.out).2.2.2.2.2.1.mono fun x _ hx => Or.inl (Or.inl (Or.inl hx))).trans (ht.frm.mono fun x _ hx => Or.inl (Or.inr (Or.inr (Or.inl hx))))
      obtain ⟨sl2, ag2⟩ := hD.ag
      have d0 : wr.cell? ⟨b, 0, none⟩ = some (I (D.now + 1)) := by rw [ag2.head.cell]; rfl
      have footD : ∀ x, PF b { D with now := D.now + 1, ws := ws' } vc (.slice av D.ws.length cp) ods x → PF b D vc (.slice av D.ws.length cp) ods x := by
        rintro x ((e | e | e | e) | e)
        · exact Or.inl (Or.inl e)
        · exact Or.inl (Or.inr (Or.inl e))
        · exact Or.inl (Or.inr (Or.inr (Or.inl ((ht.foot x).1 e))))
        · exact Or.inl (Or.inr (Or.inr (Or.inr e)))
        · exact Or.inr e
      have RE : Hid (∀ m, Calls Tryz.prog 105 #[ptr b 4, I (D.now + 1)] (wr.drewN m) fun e w' => e = .returned (.tuple #[]) ∧ ∃ D' ods', PEnd w w' b D D' vc (.slice av D.ws.length cp) ods ods' lims ds) := by
        intro m
        have kp : Keep wr (wr.drewN m) := (Frm.refl _ _).drewN _
        have hi : PInv wr b { D with now := D.now + 1, ws := ws' } ods vc (.slice av D.ws.length cp) (D.now + 1) (wr.drewN m) D.es.length :=
          ⟨_, ods, ⟨⟨hD.keep kp, hO.keep kp⟩, rfl, rfl, rfl, rfl, rfl, rfl, CSame.refl _ _, OSame.refl _ _, fun _ hx => Or.inl hx, (Frm.refl _ _).drewN _⟩, rfl⟩
        refine (reach_any _ b 4 (D.now + 1) (pinv_due wr b { D with now := D.now + 1, ws := ws' } ods vc _ (D.now + 1) nc no) D.es.length (wr.drewN m) hi).mono ?_
        intro e w' he
        obtain ⟨rfl, D', ods', r1, r2⟩ := preached wr w' b { D with now := D.now + 1, ws := ws' } ods vc _ (D.now + 1) e he
        refine ⟨rfl, D', ods', r1.lie, r1.now, r1.lock, r1.num, by rw [r1.ws]; exact hfits, r1.chs, r1.osm, r2, fun x hx => ?_, ?_⟩
        · rcases r1.foot x hx with q | q
          · exact Or.inl (footD x q)
          · exact Or.inr (Nat.le_trans fD.size q)
        · exact fD.trans (r1.frm.mono fun x _ hx => footD x hx)
      clear hkj hst hje ht hlen hD hO hfits fD ag2 footD
      go_wp2_with fail
      go_region_with (go_at_call 105; refine (RE.out _).mono ?_; rintro e w' ⟨rfl, he⟩)
      all_goals go_wp2_with fail
      all_goals go_end0
      all_goals exact ⟨rfl, he⟩

end Go.Proofs.YtpilmkipbbengaaGreatDoor

/- The program's orders against the document's. -/
namespace Go.Proofs.YtpilmkipbbengaaGreatDoor
open Go.RowKit

def toR (o : OrdD) : ROrd := ⟨o.ch, o.start, o.stop, o.rest⟩
/-- an order has begun, is over, as time has it -/
def Turned (now : Int) (o : OrdD) : Prop := (o.beg = none ↔ o.start ≤ now) ∧ (o.fin = none ↔ o.stop ≤ now)

theorem on_iff {now : Int} {o : OrdD} (h : Turned now o) (k : Nat) : o.on k = true ↔ (o.ch = k ∧ o.start ≤ now ∧ now < o.stop) := by
  obtain ⟨h1, h2⟩ := h
  unfold OrdD.on
  simp only [Bool.and_eq_true, beq_iff_eq, Option.isNone_iff_eq_none]
  constructor
  · rintro ⟨⟨a1, a2⟩, a3⟩
    refine ⟨a1, h1.1 a2, ?_⟩
    rcases Int.lt_or_le now o.stop with q | q
    · exact q
    · rw [h2.2 q] at a3; simp at a3
  · rintro ⟨a1, a2, a3⟩
    refine ⟨⟨a1, h1.2 a2⟩, ?_⟩
    cases hh : o.fin with
    | none => have := h2.1 hh; omega
    | some y => rfl

theorem wpart_of {now : Int} {o : OrdD} (h : Turned now o) (k : Nat) : wpart now k (toR o) = if o.on k = true then pD now o else 0 := by
  by_cases q : o.on k = true
  · rw [if_pos q]
    obtain ⟨a1, a2, a3⟩ := (on_iff h k).1 q
    have e : ¬ (now < o.start ∨ o.stop ≤ now) := by omega
    simp [wpart, toR, a1, prt, e, pD]
  · rw [if_neg q]
    unfold wpart
    split
    · rename_i hc
      have hc' : o.ch = k := by
        have hc : (((o.ch : Nat) : Int) == (k : Int)) = true := hc
        rw [beq_iff_eq] at hc; omega
      unfold prt
      rw [if_pos]
      show now < o.start ∨ o.stop ≤ now
      rcases Int.lt_or_le now o.start with q1 | q1
      · exact Or.inl q1
      · rcases Int.lt_or_le now o.stop with q2 | q2
        · exact absurd ((on_iff h k).2 ⟨hc', q1, q2⟩) q
        · exact Or.inr q2
    · rfl

theorem wsum_of {now : Int} (ods : List OrdD) (h : ∀ o ∈ ods, Turned now o) (k : Nat) : wsum now k (ods.map toR) = psum now (going ods k) := by
  induction ods with
  | nil => rfl
  | cons o l ih =>
    have h1 := wpart_of (h o (by simp)) k
    have h2 := ih fun x hx => h x (List.mem_cons_of_mem _ hx)
    unfold wsum psum going at *
    simp only [List.map_cons, List.sum_cons, List.filter_cons]
    rw [h1]
    split
    · rw [List.map_cons, List.sum_cons, ← h2]
    · rw [← h2]; omega

theorem shareL_zero {now : Int} (k : Nat) : ∀ (ods : List OrdD), (∀ o ∈ ods, o.on k = true → 0 ≤ pD now o) → (shareL now k ods 0).1 = ods := by
  intro ods
  induction ods with
  | nil => intro _; rfl
  | cons o l ih =>
    intro h
    have h2 := ih fun x hx => h x (List.mem_cons_of_mem _ hx)
    simp only [shareL]
    split
    · rename_i q
      have := h o (by simp) q
      have e : min (pD now o) 0 = 0 := by omega
      rw [e]
      simp [h2]
    · simp [h2]

theorem dist_of {now : Int} (k : Nat) : ∀ (ods : List OrdD) (n : Int), 0 ≤ n → (∀ o ∈ ods, Turned now o) → (∀ o ∈ ods, o.on k = true → 0 ≤ pD now o) → dist now k (ods.map toR) n = (shareL now k ods n).1.map toR := by
  intro ods
  induction ods with
  | nil => intro n _ _ _; rfl
  | cons o l ih =>
    intro n hn ht hp
    by_cases hz : n ≤ 0
    · have : n = 0 := by omega
      subst this
      rw [shareL_zero k _ hp, dist_le _ _ _ _ (by omega)]
    · have ih' := fun m hm => ih m hm (fun x hx => ht x (List.mem_cons_of_mem _ hx)) fun x hx => hp x (List.mem_cons_of_mem _ hx)
      have h1 := wpart_of (ht o (by simp)) k
      simp only [List.map_cons, dist, if_neg hz, shareL]
      by_cases hc : ((toR o).ch != (k : Int)) = true
      · have hoff : o.on k = false := by
          cases hh : o.on k with
          | false => rfl
          | true =>
            have := ((on_iff (ht o (by simp)) k).1 hh).1
            simp [toR, this] at hc
        rw [if_pos hc, hoff, if_neg (by simp)]
        simp [ih' n hn]
      · have hc2 : ((toR o).ch == (k : Int)) = true := by simpa using hc
        rw [if_neg hc]
        unfold wpart at h1
        rw [if_pos hc2] at h1
        by_cases q : o.on k = true
        · rw [if_pos q] at h1 ⊢
          have hp0 := hp o (by simp) q
          have e : (if n < prt now (toR o) then n else prt now (toR o)) = min (pD now o) n := by rw [h1]; split <;> omega
          simp only [e]
          rw [ih' _ (by omega)]
          rfl
        · rw [if_neg q] at h1 ⊢
          have e : (if n < prt now (toR o) then n else prt now (toR o)) = 0 := by rw [h1]; split <;> omega
          simp only [e]
          rw [show n - 0 = n by omega, ih' n hn]
          simp [toR]

theorem shareL_mem (now : Int) (k : Nat) (A : List OrdD) (n : Int) {p : OrdD} (h : p ∈ (shareL now k A n).1) : ∃ o ∈ A, p.blk = o.blk ∧ p.start = o.start ∧ p.stop = o.stop ∧ p.ch = o.ch ∧ p.beg = o.beg ∧ p.fin = o.fin := by
  obtain ⟨i, hi⟩ := List.getElem?_of_mem h
  obtain ⟨o, h1, h2⟩ := shareL_get now k A n i p hi
  exact ⟨o, List.mem_of_getElem? h1, h2⟩

theorem shareL_turned {now : Int} {ods : List OrdD} (h : ∀ o ∈ ods, Turned now o) (k : Nat) (n : Int) : ∀ o ∈ (shareL now k ods n).1, Turned now o := by
  intro p hp
  obtain ⟨o, h1, -, h3, h4, -, h6, h7⟩ := shareL_mem now k ods n hp
  have := h o h1
  unfold Turned at this ⊢
  rw [h3, h4, h6, h7]; exact this

theorem fins_nov {now : Int} (ods : List OrdD) (h : ∀ o ∈ ods, Turned now o) : (finsOf ods).length = nov now (ods.map toR) := by
  induction ods with
  | nil => rfl
  | cons o l ih =>
    have h1 := (h o (by simp)).2
    have h2 := ih fun x hx => h x (List.mem_cons_of_mem _ hx)
    unfold finsOf nov at *
    simp only [List.map_cons, List.filterMap_cons, List.countP_cons]
    cases hh : o.fin with
    | none =>
      have := h1.1 hh
      have e : decide (now < (toR o).stop) = false := decide_eq_false (by show ¬ now < o.stop; omega)
      simp only [Option.map_none, e]
      simpa using h2
    | some y =>
      have : now < o.stop := by
        rcases Int.lt_or_le now o.stop with q | q
        · exact q
        · rw [h1.2 q] at hh; cases hh
      have e : decide (now < (toR o).stop) = true := decide_eq_true this
      simp only [Option.map_some, e, List.length_cons]
      simp [h2]

/-- time goes by -/
theorem OSame.turned {t : Int} {ods ods' : List OrdD} (h : OSame (t + 1) ods ods') (ht : ∀ o ∈ ods, Turned t o) (hb : ∀ o ∈ ods', ∀ y, o.beg = some y → t + 1 < o.start) (hf : ∀ o ∈ ods', ∀ y, o.fin = some y → t + 1 < o.stop) : ∀ o ∈ ods', Turned (t + 1) o := by
  intro o ho
  obtain ⟨j, hj⟩ := List.getElem?_of_mem ho
  obtain ⟨o0, a1, a2, a3, a4, a5, a6, a7, a8⟩ := h.2 j o hj
  obtain ⟨t1, t2⟩ := ht o0 (List.mem_of_getElem? a1)
  constructor
  · constructor
    · intro e
      rcases a7 with q | q
      · have := t1.1 (by rw [← q]; exact e)
        omega
      · exact q.2
    · intro e
      cases hh : o.beg with
      | none => rfl
      | some y => have := hb o ho y hh; omega
  · constructor
    · intro e
      rcases a8 with q | q
      · have := t2.1 (by rw [← q]; exact e)
        omega
      · exact q.2
    · intro e
      cases hh : o.fin with
      | none => rfl
      | some y => have := hf o ho y hh; omega

theorem OSame.toR {t : Int} {ods ods' : List OrdD} (h : OSame t ods ods') : ods'.map toR = ods.map toR := by
  apply List.ext_getElem?
  intro j
  rw [List.getElem?_map, List.getElem?_map]
  cases hh : ods'[j]? with
  | none =>
    have : ods[j]? = none := by
      rw [List.getElem?_eq_none_iff] at hh ⊢
      rw [← h.1]; exact hh
    rw [this]
  | some o =>
    obtain ⟨o0, a1, a2, a3, a4, a5, a6, -⟩ := h.2 j o hh
    rw [a1]
    simp [Go.Proofs.YtpilmkipbbengaaGreatDoor.toR, a3, a4, a5, a6]

def OChRel (now lock : Int) (d : GCh) (c : RCh) : Prop :=
  d.rests = c.rests ∧ d.rate = wbase now c ∧ (d.ent = none → c.til < 0 ∨ c.til ≤ now) ∧ (∀ e cb, d.ent = some (e, cb) → e.tick = c.til ∧ now < c.til) ∧ d.free = if c.asked < 0 then 0 else c.asked + lock

structure ORel (D : GSt) (ods : List OrdD) (R : RSt) : Prop where
  now : D.now = R.now
  lock : D.lock.v = R.lock
  l0 : 0 ≤ R.lock
  l1 : R.lock ≤ 400
  os : R.os = ods.map toR
  trn : ∀ o ∈ ods, Turned R.now o
  fits : Fits D.ws R.lims R.doses R.now
  past : ∀ d ∈ R.doses, d.tick < R.now
  nch : D.chs.length = R.chs.length
  ch : ∀ (k : Nat) (d : GCh) (c : RCh), D.chs[k]? = some d → R.chs[k]? = some c → OChRel R.now R.lock d c

/-- orders of a fine pump -/
theorem ofine {now : Int} {ods : List OrdD} {R : RSt} (os : R.os = ods.map toR) (trn : ∀ o ∈ ods, Turned now o) (ok : R.Ok) (n0 : 0 ≤ now) (hlen : ods.length ≤ 3300) : OFine now ods := by
  have key : ∀ o ∈ ods, toR o ∈ R.os := fun o ho => by rw [os]; exact List.mem_map.2 ⟨o, ho, rfl⟩
  refine ⟨n0, hlen, fun o ho => (ok.os _ (key o ho)).2.2.2.2.1, fun o ho => (ok.os _ (key o ho)).2.2.2.2.2, fun o ho => (ok.os _ (key o ho)).2.2.2.1, ?_⟩
  intro o ho k hk
  exact ((on_iff (trn o ho) k).1 hk).2.2

end Go.Proofs.YtpilmkipbbengaaGreatDoor

/- The whole pump in memory, with the list of all doses. -/
namespace Go.Proofs.YtpilmkipbbengaaGreatDoor
open Go.RowKit

/-- what share leaves keeps the rest of the pump -/
theorem GAt.frmB {w w' : World} {b : Nat} {D : GSt} {vc vw : Value} {sos : List Value} {vo : Value} {xt : List Ent} {nv : Int} {ods : List OrdD} (h : GAt w b D vc vw) (ho : OAt w b vc sos vo xt nv ods) (f : Frm (fun x => ∃ o ∈ ods, x = o.blk) w w') : GAt w' b D vc vw :=
  h.frmO f fun x ⟨o, hm, e⟩ => by
    obtain ⟨j, hj⟩ := List.getElem?_of_mem hm
    exact Or.inr ⟨_, by rw [e]; exact ho.ords j o hj⟩

theorem PAt.noDose {w : World} {b : Nat} {D : GSt} {vc vw : Value} {ods : List OrdD} (h : PAt w b D vc vw ods) {x : Nat} (hx : PF b D vc vw ods x) (hd : HasT w x 100) : False := by
  rcases hx with e | e
  · obtain ⟨T, q1, q2⟩ := h.g.tyF e
    have := q1.uniq hd
    subst this
    rcases q2 with q2 | q2
    · revert q2; unfold GTy; decide
    · revert q2; decide
  · obtain ⟨T, q1, q2⟩ := h.o.hasT e
    have := q1.uniq hd
    subst this
    revert q2; unfold OTy; decide

structure QAt (w : World) (b : Nat) (D : GSt) (vc vw : Value) (ods : List OrdD) (ds : List Ds) : Prop where
  p : PAt w b D vc vw ods
  row : w.ownsRow 0 100 3 D.lock.g ds.length (ds.flatMap dsC)

def QF (b : Nat) (D : GSt) (vc vw : Value) (ods : List OrdD) : Nat → Prop := fun x => PF b D vc vw ods x ∨ D.lock.g.ownBlock = some x

theorem QAt.lt {w : World} {b : Nat} {D : GSt} {vc vw : Value} {ods : List OrdD} {ds : List Ds} (h : QAt w b D vc vw ods ds) : ∀ x, QF b D vc vw ods x → x < w.heap.size := by
  rintro x (e | e)
  · exact h.p.lt x e
  · exact (h.row.lt x e).2

theorem QAt.frm {S : Nat → Prop} {w w' : World} {b : Nat} {D : GSt} {vc vw : Value} {ods : List OrdD} {ds : List Ds} (h : QAt w b D vc vw ods ds) (f : Frm S w w') (hs : ∀ x, QF b D vc vw ods x → ¬ S x) : QAt w' b D vc vw ods ds :=
  ⟨h.p.frm f fun x hx => hs x (Or.inl hx), row_frm h.row f fun x hx => hs x (Or.inr hx)⟩
theorem QAt.keep {w w' : World} {b : Nat} {D : GSt} {vc vw : Value} {ods : List OrdD} {ds : List Ds} (h : QAt w b D vc vw ods ds) (k : Keep w w') : QAt w' b D vc vw ods ds := h.frm k fun _ _ e => e

/-- what turns the pump's other blocks alone leaves the list -/
theorem QAt.rowP {w w' : World} {b : Nat} {D : GSt} {vc vw : Value} {ods : List OrdD} {ds : List Ds} (h : QAt w b D vc vw ods ds) (f : Frm (PF b D vc vw ods) w w') : w'.ownsRow 0 100 3 D.lock.g ds.length (ds.flatMap dsC) :=
  row_frm h.row f fun _ hx e => h.p.noDose e (row_ty h.row hx)

/-- a dose more -/
theorem QAt.more {w W w3 : World} {b : Nat} {D : GSt} {vc vw : Value} {ods : List OrdD} {ds : List Ds} (h : QAt w b D vc vw ods ds) (kW : Keep w W) {v' : Value} {d : Ds} (hown : w3.ownsRow 0 100 3 v' (ds.length + 1) (ds.flatMap dsC ++ [I d.tick, I d.ch, I d.amt]))
    (hg : W.grownBy w3 D.lock.g.ownBlock) (hnew : v'.ownBlock = D.lock.g.ownBlock ∨ (v'.ownBlock = some W.heap.size ∧ W.grownBy w3 none)) :
    QAt (w3.setCell ⟨b, 8, none⟩ v') b { D with lock := ⟨D.lock.v, v'⟩ } vc vw ods (ds ++ [d]) ∧ Frm (QF b D vc vw ods) w (w3.setCell ⟨b, 8, none⟩ v') ∧ (∀ x, v'.ownBlock = some x → D.lock.g.ownBlock = some x ∨ w.heap.size ≤ x) := by
  have hW := h.keep kW
  have f3 := grown_frm hg
  have p3 : PAt w3 b D vc vw ods := hW.p.frm f3 fun x hx e => hW.p.noDose hx (row_ty hW.row e)
  obtain ⟨s1, s2⟩ := p3.g.setHead (D' := { D with lock := ⟨D.lock.v, v'⟩ }) 8 (by decide) v' (fun sl => by simp [gCells]) rfl rfl rfl rfl rfl
  have so : OAt (w3.setCell ⟨b, 8, none⟩ v') b vc (sosOf D.chs) D.vo D.xt D.nv ods := p3.o.frmG p3.g (s2.mono fun y _ e => Or.inl (Or.inl e))
  have sz := kW.size
  have vn : ∀ x, v'.ownBlock = some x → D.lock.g.ownBlock = some x ∨ w.heap.size ≤ x := by
    intro x hx
    rcases hnew with e | ⟨e, -⟩
    · exact Or.inl (by rw [← e]; exact hx)
    · rw [e] at hx; injection hx with hx; exact Or.inr (by omega)
  obtain ⟨sl, ag⟩ := p3.g.ag
  refine ⟨⟨⟨s1, so⟩, ?_⟩, ?_, vn⟩
  · have e1 : (ds ++ [d]).length = ds.length + 1 := by simp
    have e2 : (ds ++ [d]).flatMap dsC = ds.flatMap dsC ++ [I d.tick, I d.ch, I d.amt] := by simp [dsC]
    rw [e1, e2]
    refine row_frm hown s2 fun x hx e => ?_
    subst e
    have := (row_ty hown hx).uniq ⟨_, ag.head⟩
    revert this; decide
  · refine ((kW.mono fun _ _ e => e.elim).trans2 f3 fun x _ e => Or.inr e).trans2 s2 fun x _ e => Or.inl (Or.inl (Or.inl (Or.inl e)))

end Go.Proofs.YtpilmkipbbengaaGreatDoor
