/- Binary heaps, plainly. -/
import Derived.Test.YtpilmkipbbengaaGreatDoorAg
namespace Go.Proofs.YtpilmkipbbengaaGreatDoor

def le (a b : Ent) : Prop := a.tick < b.tick ∨ (a.tick = b.tick ∧ a.num ≤ b.num)
theorem lt_iff (a b : Ent) : lt a b = true ↔ ¬ le b a := by
  unfold lt le
  split
  · rename_i h; simp at h ⊢; omega
  · rename_i h; simp at h ⊢; omega
theorem le_trans {a b c : Ent} (h : le a b) (k : le b c) : le a c := by unfold le at *; omega
theorem le_of_not {a b : Ent} (h : ¬ le a b) : le b a := by unfold le at *; omega
theorem le_refl (a : Ent) : le a a := by unfold le; omega

def noEnt : Ent := ⟨0, 0, 0, .nilIface⟩
def ix (es : List Ent) (k : Nat) : Ent := es[k]?.getD noEnt
theorem ix_some {es : List Ent} {k : Nat} (h : k < es.length) : es[k]? = some (ix es k) := by simp [ix, h]

/-- the entries at i and j, changed, by their places alone -/
def sw (es : List Ent) (i j : Nat) : List Ent := esSwap es i j (ix es i) (ix es j)
theorem sw_len (es : List Ent) (i j : Nat) : (sw es i j).length = es.length := esSwap_len ..
theorem sw_perm (es : List Ent) (i j : Nat) (hi : i < es.length) (hj : j < es.length) : (sw es i j).Perm es := esSwap_perm _ _ _ _ _ (ix_some hi) (ix_some hj)
theorem sw_ix (es : List Ent) (i j : Nat) (hi : i < es.length) (hj : j < es.length) (k : Nat) : ix (sw es i j) k = if k = j then ix es i else if k = i then ix es j else ix es k := by
  have := esSwap_get es i j _ _ k (ix_some hi) (ix_some hj)
  unfold sw
  rw [ix, this]
  split
  · rfl
  · split
    · rfl
    · rfl

def HeapN (n : Nat) (es : List Ent) : Prop := ∀ k, 0 < k → k < n → le (ix es ((k - 1) / 2)) (ix es k)
def UpInv (n : Nat) (es : List Ent) (j : Nat) : Prop :=
  (∀ k, 0 < k → k < n → k ≠ j → le (ix es ((k - 1) / 2)) (ix es k)) ∧
  (∀ k, 0 < j → k < n → 0 < k → (k - 1) / 2 = j → le (ix es ((j - 1) / 2)) (ix es k))

theorem UpInv.heap {n : Nat} {es : List Ent} {j : Nat} (h : UpInv n es j) (hj : j = 0 ∨ le (ix es ((j - 1) / 2)) (ix es j)) : HeapN n es := by
  intro k h0 hk
  by_cases e : k = j
  · subst e
    rcases hj with hj | hj
    · omega
    · exact hj
  · exact h.1 k h0 hk e

theorem sw_facts (es : List Ent) (i j : Nat) (hi : i < es.length) (hj : j < es.length) (hij : i ≠ j) :
    ix (sw es i j) j = ix es i ∧ ix (sw es i j) i = ix es j ∧ ∀ k, k ≠ i → k ≠ j → ix (sw es i j) k = ix es k := by
  have hs := sw_ix es i j hi hj
  refine ⟨by rw [hs]; simp, by rw [hs]; simp [hij], fun k h1 h2 => by rw [hs]; simp [h1, h2]⟩

theorem UpInv.step {n : Nat} {es : List Ent} {i j : Nat} (h : UpInv n es j) (hn : n ≤ es.length) (hj : j < n) (h0 : 0 < j) (he : (j - 1) / 2 = i) (hl : ¬ le (ix es i) (ix es j)) :
    UpInv n (sw es i j) i := by
  obtain ⟨hgj, hgi, hgo⟩ := sw_facts es i j (by omega) (by omega) (by omega)
  have hlr := le_of_not hl
  obtain ⟨h1, h2⟩ := h
  rw [he] at h2
  refine ⟨fun k k0 kn ki => ?_, fun k i0 kn k0 ki => ?_⟩
  · by_cases c1 : k = j
    · subst c1; rw [he, hgj, hgi]; exact hlr
    · rw [hgo k ki c1]
      by_cases c2 : (k - 1) / 2 = j
      · rw [c2, hgj]; exact h2 k h0 kn k0 c2
      · by_cases c3 : (k - 1) / 2 = i
        · rw [c3, hgi]
          have := h1 k k0 kn c1
          rw [c3] at this
          exact le_trans hlr this
        · rw [hgo _ c3 c2]; exact h1 k k0 kn c1
  · have hp := h1 i i0 (by omega) (by omega)
    rw [hgo ((i - 1) / 2) (by omega) (by omega)]
    by_cases c1 : k = j
    · subst c1; rw [hgj]; exact hp
    · rw [hgo k (by omega) c1]
      have := h1 k k0 kn c1
      rw [ki] at this
      exact le_trans hp this

/-- a new one, last -/
theorem UpInv.push {es : List Ent} (e : Ent) (h : HeapN es.length es) : UpInv (es.length + 1) (es ++ [e]) es.length := by
  have hg : ∀ k, k < es.length → ix (es ++ [e]) k = ix es k := fun k hk => by simp [ix, List.getElem?_append, hk]
  refine ⟨fun k k0 kn kj => ?_, fun k _ kn k0 kj => by omega⟩
  rw [hg k (by omega), hg _ (by omega)]
  exact h k k0 (by omega)

/-- on the way down from i0: at i -/
def DnInv (n : Nat) (es : List Ent) (i0 i : Nat) : Prop :=
  (∀ k, 0 < k → k < n → (k - 1) / 2 ≠ i → (k ≠ i0 ∨ i ≠ i0) → le (ix es ((k - 1) / 2)) (ix es k)) ∧
  (∀ k, 0 < i → k < n → 0 < k → (k - 1) / 2 = i → le (ix es ((i - 1) / 2)) (ix es k))

theorem DnInv.step {n : Nat} {es : List Ent} {i0 i j : Nat} (h : DnInv n es i0 i) (hn : n ≤ es.length) (hj : j < n) (h0 : 0 < j) (hii : i0 ≤ i) (he : (j - 1) / 2 = i) (hl : ¬ le (ix es i) (ix es j))
    (hmin : ∀ k, 0 < k → k < n → (k - 1) / 2 = i → le (ix es j) (ix es k)) : DnInv n (sw es i j) i0 j := by
  obtain ⟨hgj, hgi, hgo⟩ := sw_facts es i j (by omega) (by omega) (by omega)
  have hlr := le_of_not hl
  obtain ⟨h1, h2⟩ := h
  refine ⟨fun k k0 kn kj _ => ?_, fun k j0 kn k0 kj => ?_⟩
  · by_cases c1 : k = j
    · subst c1; rw [he, hgj, hgi]; exact hlr
    · by_cases c2 : k = i
      · subst c2
        rw [hgi, hgo ((k - 1) / 2) (by omega) (by omega)]
        exact h2 j k0 hj h0 he
      · rw [hgo k c2 c1]
        by_cases c3 : (k - 1) / 2 = i
        · rw [c3, hgi]; exact hmin k k0 kn c3
        · rw [hgo _ c3 kj]
          exact h1 k k0 kn c3 (by omega)
  · rw [he, hgi, hgo k (by omega) (by omega)]
    have := h1 k k0 kn (by omega) (by omega)
    rw [kj] at this; exact this

/-- no child is less -/
theorem DnInv.stop {n : Nat} {es : List Ent} {i0 i : Nat} (h : DnInv n es i0 i) (hc : ∀ k, 0 < k → k < n → (k - 1) / 2 = i → le (ix es i) (ix es k)) :
    (i = i0 → UpInv n es i0) ∧ (i ≠ i0 → HeapN n es) := by
  obtain ⟨h1, h2⟩ := h
  refine ⟨fun e => ?_, fun e => ?_⟩
  · subst e
    refine ⟨fun k k0 kn ki => ?_, fun k i0 kn k0 ki => h2 k i0 kn k0 ki⟩
    by_cases c : (k - 1) / 2 = i
    · rw [c]; exact hc k k0 kn c
    · exact h1 k k0 kn c (Or.inl ki)
  · intro k k0 kn
    by_cases c : (k - 1) / 2 = i
    · rw [c]; exact hc k k0 kn c
    · exact h1 k k0 kn c (Or.inr e)

/-- the last one, put into the place of another one -/
theorem DnInv.start {n : Nat} {es : List Ent} {i : Nat} (h : HeapN (n + 1) es) (hn : n + 1 = es.length) (hi : i < n) : DnInv n (sw es i n) i i := by
  obtain ⟨hgj, hgi, hgo⟩ := sw_facts es i n (by omega) (by omega) (by omega)
  refine ⟨fun k k0 kn ki hk => ?_, fun k i0 kn k0 ki => ?_⟩
  · rw [hgo k (by omega) (by omega), hgo _ (by omega) (by omega)]
    exact h k k0 (by omega)
  · rw [hgo k (by omega) (by omega), hgo _ (by omega) (by omega)]
    have a1 := h k k0 (by omega)
    have a2 := h i i0 (by omega)
    rw [ki] at a1
    exact le_trans a2 a1

theorem HeapN.root {n : Nat} {es : List Ent} (h : HeapN n es) : ∀ k, k < n → le (ix es 0) (ix es k) := by
  intro k
  induction k using Nat.strongRecOn with
  | ind k ih =>
    intro hk
    by_cases c : k = 0
    · subst c; exact le_refl _
    · exact le_trans (ih ((k - 1) / 2) (by omega) (by omega)) (h k (by omega) hk)

end Go.Proofs.YtpilmkipbbengaaGreatDoor
