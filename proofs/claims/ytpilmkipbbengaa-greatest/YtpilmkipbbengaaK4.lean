/- dripkeep: what a call of the pump leaves. -/
import Derived.Test.YtpilmkipbbengaaK2
namespace Go.Proofs.Ytpilmkipbbengaa
open Go.RowKit

theorem kbasal_ok {R : RSt} (ok : R.Ok) (hf : R.Full) (k rate ticks : Int) : (basalR R k rate ticks).Ok ∧ (basalR R k rate ticks).Full := by
  unfold basalR
  split
  · exact ⟨ok, hf⟩
  · rename_i hb
    have hb' : basalBad R k rate ticks = false := by simpa using hb
    simp only [basalBad, Bool.or_eq_false_iff] at hb'
    obtain ⟨⟨⟨⟨-, h2⟩, h3⟩, h4⟩, h5⟩ := hb'
    simp at h2 h3 h4 h5
    unfold rbasal
    split
    · exact ⟨ok, hf⟩
    · rename_i c hc
      have n0 := ok.now0
      have n1 := ok.now1
      refine ⟨⟨ok.lims, ok.nl, ok.doses, ok.nd, ok.now0, ok.now1, by simpa using ok.nc0, by simpa using ok.nc1, ?_, ok.no, ok.os⟩, hf⟩
      intro x hx
      rcases List.mem_or_eq_of_mem_set hx with hx | rfl
      · exact ok.chs x hx
      · have hcc := ok.chs c (List.mem_of_getElem? hc)
        refine ⟨h2, h3, ?_, ?_, hcc.2.2.2.2⟩
        · simp only; split <;> omega
        · simp only; split <;> omega

theorem knew_ok {c : Int} {lims : List Lim} {lock : Int} (h : fineB c lims lock = true) : (rnew c.toNat lims lock).Ok ∧ (rnew c.toNat lims lock).Full := by
  simp only [fineB, Bool.and_eq_true, Bool.not_eq_true', List.all_eq_true] at h
  obtain ⟨h1, h2⟩ := h
  simp [badHead] at h1
  refine ⟨⟨?_, by simp [rnew]; omega, by simp [rnew], by simp [rnew], by simp [rnew], by simp [rnew], by simp [rnew]; omega, by simp [rnew]; omega, ?_, by simp [rnew], by simp [rnew]⟩, by simp [RSt.Full, rnew, nov]⟩
  · intro l hl
    have := h2 l hl
    simp [badLim] at this
    have hc : c = 1 ∨ c = 2 ∨ c = 3 ∨ c = 4 := by omega
    have h16 : (2 : Int) ^ c.toNat ≤ 16 := by rcases hc with rfl | rfl | rfl | rfl <;> decide
    exact ⟨by omega, by omega, by omega, by omega, by omega, by omega⟩
  · intro x hx
    simp [rnew] at hx
    rw [hx.2]; simp [ch0]

/-- what a call other than Run leaves as it was, as far as dripkeep looks -/
structure Still (R R' : RSt) : Prop where
  lims : R'.lims = R.lims
  lock : R'.lock = R.lock
  doses : R'.doses = R.doses
  now : R'.now = R.now
  nch : R'.chs.length = R.chs.length

theorem Still.refl (R : RSt) : Still R R := ⟨rfl, rfl, rfl, rfl, rfl⟩
theorem Still.kok {R R' : RSt} (s : Still R R') (h : KOk R) (ok : R'.Ok ∧ R'.Full) : KOk R' :=
  ⟨ok.1, ok.2, h.told.same s.doses s.lims s.now, s.nch.trans h.nch⟩
theorem Still.kv {R R' : RSt} (s : Still R R') (hr : ∀ k, rst R' k = rst R k) (pb : Nat) (vl vd : Value) : Go.Proofs.Ytpilmkipbbengaa.kv pb vl vd R' = Go.Proofs.Ytpilmkipbbengaa.kv pb vl vd R := by
  unfold Go.Proofs.Ytpilmkipbbengaa.kv
  rw [s.lims, s.lock, s.doses, s.now, hr, hr, hr]

theorem rbasal_still (R : RSt) (k : Nat) (r t : Int) : Still R (rbasal R k r t) := by
  unfold rbasal
  split
  · exact Still.refl R
  · exact ⟨rfl, rfl, rfl, rfl, by simp⟩
theorem rbasal_rst (R : RSt) (k : Nat) (r t : Int) (j : Nat) : rst (rbasal R k r t) j = rst R j := by
  unfold rbasal
  split
  · rfl
  · rename_i c hc
    have hk := (List.getElem?_eq_some_iff.1 hc).1
    unfold rst
    by_cases q : k = j
    · subst q
      rw [List.getElem?_set_self hk, hc]
    · rw [List.getElem?_set_ne q]
theorem basalR_still (R : RSt) (k r t : Int) : Still R (basalR R k r t) := by
  unfold basalR; split
  · exact Still.refl R
  · exact rbasal_still ..
theorem basalR_rst (R : RSt) (k r t : Int) (j : Nat) : rst (basalR R k r t) j = rst R j := by
  unfold basalR; split
  · rfl
  · exact rbasal_rst ..
theorem orderR_still (R : RSt) (k a d t : Int) : Still R (orderR R k a d t) ∧ ∀ j, rst (orderR R k a d t) j = rst R j := by
  unfold orderR; split
  · exact ⟨⟨rfl, rfl, rfl, rfl, rfl⟩, fun _ => rfl⟩
  · exact ⟨Still.refl R, fun _ => rfl⟩
theorem askedR_still (R : RSt) (k : Nat) : Still R (askedR R k) ∧ ∀ j, rst (askedR R k) j = rst R j := by
  unfold askedR
  split
  · exact ⟨Still.refl R, fun _ => rfl⟩
  · rename_i c hc
    have hk := (List.getElem?_eq_some_iff.1 hc).1
    refine ⟨⟨rfl, rfl, rfl, rfl, by simp⟩, fun j => ?_⟩
    unfold rst
    by_cases q : k = j
    · subst q
      rw [List.getElem?_set_self hk, hc]
    · rw [List.getElem?_set_ne q]
theorem demandR_still (R : RSt) (k a : Int) : Still R (demandR R k a) ∧ ∀ j, rst (demandR R k a) j = rst R j := by
  unfold demandR; split
  · obtain ⟨a1, a2⟩ := orderR_still R k a 0 1
    obtain ⟨b1, b2⟩ := askedR_still (orderR R k a 0 1) k.toNat
    exact ⟨⟨b1.lims.trans a1.lims, b1.lock.trans a1.lock, b1.doses.trans a1.doses, b1.now.trans a1.now, b1.nch.trans a1.nch⟩, fun j => (b2 j).trans (a2 j)⟩
  · exact ⟨Still.refl R, fun _ => rfl⟩
/-- Pause, Resume of a channel that does not, does rest -/
theorem restsR_flip {R : RSt} {k : Nat} (hk : k < R.chs.length) {yes : Bool} (hr : rst R k = !yes) : restsErr R k yes = 0 ∧ Still R (restsR R k yes) ∧ ∀ j, rst (restsR R k yes) j = if j = k then yes else rst R j := by
  obtain ⟨c, hc⟩ : ∃ c, R.chs[k]? = some c := ⟨_, List.getElem?_eq_getElem hk⟩
  have hcr : c.rests = !yes := by rw [← rst_of hc]; exact hr
  have h1 : isCh R k = true := by simp [isCh]; omega
  have e1 : restsErr R k yes = 0 := by
    unfold restsErr
    rw [if_pos h1, Int.toNat_natCast, hc]
    cases yes <;> simp_all
  have e2 : restsR R k yes = { R with chs := R.chs.set k { c with rests := yes } } := by
    unfold restsR
    rw [if_pos e1, Int.toNat_natCast, hc]
  refine ⟨e1, ?_, ?_⟩
  · rw [e2]; exact ⟨rfl, rfl, rfl, rfl, by simp⟩
  · intro j
    rw [e2]
    unfold rst
    by_cases q : j = k
    · subst q
      simp [List.getElem?_set_self hk]
    · rw [if_neg q]
      show (match (R.chs.set k { c with rests := yes })[j]? with | some c => c.rests | none => false) = _
      rw [List.getElem?_set_ne (Ne.symm q)]
      cases R.chs[j]? <;> rfl

/-- a call of the pump, other than Run -/
theorem KAt.called {pa : Rep} {B : Nat → Prop} {w W w' : World} {rb pb : Nat} {F : Nat → Prop} {R R' : RSt} {vl vd : Value} (h : KAt pa B w rb pb F R vl vd) (hB : ∀ x, w.heap.size ≤ x → B x) (kW : Keep w W) (mv : Moved pa W F pb R' w') :
    ∃ F', KRd w' rb (kv pb vl vd R) ∧ pa w' F' pb R' ∧ Frm B w w' ∧ ¬ F' rb ∧ (∀ x, F' x → vd.ownBlock ≠ some x) ∧ (∀ x, F' x → vl.ownBlock ≠ some x) ∧ (∀ x, F' x → B x) := by
  obtain ⟨f, F', p1, F1⟩ := mv
  have hk : KRd W rb (kv pb vl vd R) := h.rd.keep kW
  have sz := kW.size
  have lt : rb < w.heap.size := h.rd.head.lt
  refine ⟨F', hk.frm f h.fr (fun x hx e => h.fd x e hx) (fun x hx e => h.fl x e hx), p1, (kW.mono fun _ _ e => e.elim).trans2 f fun x _ e => h.lf x e, ?_, ?_, ?_, ?_⟩
  · intro e
    rcases F1 rb e with q | q
    · exact h.fr q
    · omega
  · intro x hx e
    rcases F1 x hx with q | q
    · exact h.fd x q e
    · have := (h.rd.row.lt x e).2; omega
  · intro x hx e
    rcases F1 x hx with q | q
    · exact h.fl x q e
    · have := (h.rd.lims.lt x e).2; omega
  · intro x hx
    rcases F1 x hx with q | q
    · exact h.lf x q
    · exact hB x (by omega)

theorem KAt.still {pa : Rep} {B : Nat → Prop} {w W w' : World} {rb pb : Nat} {F : Nat → Prop} {R R' : RSt} {vl vd : Value} (h : KAt pa B w rb pb F R vl vd) (hB : ∀ x, w.heap.size ≤ x → B x) (kW : Keep w W) (mv : Moved pa W F pb R' w') (s : Still R R') (hr : ∀ k, rst R' k = rst R k) : KGo pa B w w' rb R' := by
  obtain ⟨F', h1, h2, h3, h4, h5, h6, h7⟩ := h.called hB kW mv
  exact ⟨h3, pb, F', vl, vd, by rw [s.kv hr]; exact h1, h2, h4, h5, h6, h.lb, h7, h.ld⟩

theorem KAt.keep {pa : Rep} {B : Nat → Prop} {w w' : World} {rb pb : Nat} {F : Nat → Prop} {R : RSt} {vl vd : Value} (h : KAt pa B w rb pb F R vl vd) (frmP : ∀ {S : Nat → Prop} {w w' : World} {F : Nat → Prop} {b : Nat} {R : RSt}, pa w F b R → Frm S w w' → (∀ x, F x → ¬ S x) → pa w' F b R) (k : Keep w w') : KAt pa B w' rb pb F R vl vd :=
  ⟨h.rd.keep k, frmP h.pump k fun _ _ e => e, h.fr, h.fd, h.fl, h.lb, h.lf, h.ld⟩

theorem KGo.trans {pa : Rep} {B : Nat → Prop} {w w1 w2 : World} {rb : Nat} {R' : RSt} (f : Frm B w w1) (g : KGo pa B w1 w2 rb R') : KGo pa B w w2 rb R' := ⟨f.trans g.1, g.2⟩

end Go.Proofs.Ytpilmkipbbengaa
