/- The package agenda: the entries' list in memory, and the methods that container/heap calls. -/
import Derived.Test.YtpilmkipbbengaaGreatDoorBase
namespace Go.Proofs.YtpilmkipbbengaaGreatDoor
open Go.RowKit

/-- an entry: its block, its tick, its number, what is to be done -/
structure Ent where
  blk : Nat
  tick : Int
  num : Int
  act : Value

abbrev ptr (b o : Nat) : Value := .pointer (some ⟨b, o, none⟩)
def entCells (e : Ent) (i : Nat) : Array Value := #[I e.tick, I e.num, I i, e.act]
def ptrCells (es : List Ent) (sp : List Value) : Array Value := (es.map (fun e => ptr e.blk 0) ++ sp).toArray

/-- the entries lie in memory: their pointers in block eb (behind them sp), each with its place -/
structure EsAt (w : World) (eb : Nat) (sp : List Value) (es : List Ent) : Prop where
  arr : Blk w eb (ptrCells es sp) 125
  ent : ∀ i e, es[i]? = some e → Blk w e.blk (entCells e i) 162
  nodup : (es.map (·.blk)).Nodup
  out : ∀ e ∈ es, e.blk ≠ eb

theorem EsAt.cell {w : World} {eb : Nat} {sp : List Value} {es : List Ent} (h : EsAt w eb sp es) {i : Nat} {e : Ent} (hi : es[i]? = some e) :
    w.cell? ⟨eb, i, none⟩ = some (ptr e.blk 0) := by
  rw [h.arr.cell]
  have hl : i < es.length := (List.getElem?_eq_some_iff.1 hi).1
  have hv : es[i] = e := (List.getElem?_eq_some_iff.1 hi).2
  simp [ptrCells, List.getElem?_append, hl, hv]

theorem EsAt.cells {w : World} {eb : Nat} {sp : List Value} {es : List Ent} (h : EsAt w eb sp es) {i : Nat} {e : Ent} (hi : es[i]? = some e) :
    w.cell? ⟨e.blk, 0, none⟩ = some (I e.tick) ∧ w.cell? ⟨e.blk, 1, none⟩ = some (I e.num) ∧ w.cell? ⟨e.blk, 2, none⟩ = some (I i) ∧ w.cell? ⟨e.blk, 3, none⟩ = some e.act := by
  have := h.ent i e hi
  simp [this.cell, entCells]

/-- Go's Less -/
def lt (a b : Ent) : Bool := if (a.tick != b.tick) = true then decide (a.tick < b.tick) else decide (a.num < b.num)

set_option maxHeartbeats 800000 in
theorem less_any (eb cap n : Nat) (sp : List Value) (es : List Ent) (i j : Nat) (a b : Ent) (w : World) (h : EsAt w eb sp es) (hi : es[i]? = some a) (hj : es[j]? = some b)
    (hn : n = es.length) :
    Calls Tryz.prog 174 #[.slice (some ⟨eb, 0, none⟩) n cap, I i, I j] w fun e w' => e = .returned (.bool (lt a b)) ∧ ∃ m, w' = w.drewN m := by
  have li : i < n := hn ▸ (List.getElem?_eq_some_iff.1 hi).1
  have lj : j < n := hn ▸ (List.getElem?_eq_some_iff.1 hj).1
  have ci := h.cell hi
  have cj := h.cell hj
  obtain ⟨ai0, ai1, ai2, ai3⟩ := h.cells hi
  obtain ⟨aj0, aj1, aj2, aj3⟩ := h.cells hj
  clear ai2 ai3 aj2 aj3 hi hj hn h
  by_cases ht : (a.tick != b.tick) = true
  · have e : lt a b = decide (a.tick < b.tick) := by rw [lt, if_pos ht]
    rw [e]; clear e
    go_enter Tryz.func174, Tryz.ntmps174
    go_wp2
    go_quiet (fail)
    go_wp2
    go_quiet (fail)
    go_wp2
    go_ret
    exact ⟨rfl, _, World.drewN_drewN ..⟩
  · have e : lt a b = decide (a.num < b.num) := by rw [lt, if_neg ht]
    rw [e]; clear e
    have ht' : (a.tick != b.tick) = false := by simpa using ht
    clear ht
    go_enter Tryz.func174, Tryz.ntmps174
    go_wp2
    go_quiet (fail)
    go_wp2
    go_quiet (fail)
    go_wp2
    go_ret
    exact ⟨rfl, _, World.drewN_drewN ..⟩

theorem ptrCells_set (es : List Ent) (sp : List Value) (i : Nat) (e : Ent) (h : i < es.length) : (ptrCells es sp).setIfInBounds i (ptr e.blk 0) = ptrCells (es.set i e) sp := by
  simp [ptrCells, List.map_set, h]

theorem EsAt.ne {w : World} {eb : Nat} {sp : List Value} {es : List Ent} (h : EsAt w eb sp es) {i j : Nat} {a b : Ent} (hi : es[i]? = some a) (hj : es[j]? = some b) (hne : i ≠ j) : a.blk ≠ b.blk := by
  intro e
  have hn := h.nodup
  rw [List.nodup_iff_pairwise_ne, List.pairwise_iff_getElem] at hn
  obtain ⟨li, vi⟩ := List.getElem?_eq_some_iff.1 hi
  obtain ⟨lj, vj⟩ := List.getElem?_eq_some_iff.1 hj
  rcases Nat.lt_or_gt_of_ne hne with hlt | hlt
  · exact hn i j (by simpa using li) (by simpa using lj) hlt (by simp [vi, vj, e])
  · exact hn j i (by simpa using lj) (by simpa using li) hlt (by simp [vi, vj, e])

/-- the footprint of the entries -/
def EsF (eb : Nat) (es : List Ent) : Nat → Prop := fun x => x = eb ∨ ∃ e ∈ es, x = e.blk

set_option maxHeartbeats 1600000 in
theorem swap_ne (eb cap n : Nat) (sp : List Value) (es : List Ent) (i j : Nat) (a b : Ent) (w : World) (h : EsAt w eb sp es) (hi : es[i]? = some a) (hj : es[j]? = some b)
    (hn : n = es.length) (hij : i ≠ j) :
    Calls Tryz.prog 175 #[.slice (some ⟨eb, 0, none⟩) n cap, I i, I j] w fun e w' => e = .returned (.tuple #[]) ∧
      ∃ m, w' = ((((w.setCell ⟨eb, i, none⟩ (ptr b.blk 0)).setCell ⟨eb, j, none⟩ (ptr a.blk 0)).setCell ⟨b.blk, 2, none⟩ (I i)).setCell ⟨a.blk, 2, none⟩ (I j)).drewN m := by
  have li : i < n := hn ▸ (List.getElem?_eq_some_iff.1 hi).1
  have lj : j < n := hn ▸ (List.getElem?_eq_some_iff.1 hj).1
  have ci := h.cell hi
  have cj := h.cell hj
  have fi := h.arr.frozen i
  have fj := h.arr.frozen j
  obtain ⟨ai0, ai1, ai2, ai3⟩ := h.cells hi
  obtain ⟨aj0, aj1, aj2, aj3⟩ := h.cells hj
  have fa := (h.ent i a hi).frozen 2
  have fb := (h.ent j b hj).frozen 2
  have na := h.out a (List.mem_of_getElem? hi)
  have nb := h.out b (List.mem_of_getElem? hj)
  have nab := h.ne hi hj hij
  clear ai0 ai1 ai3 aj0 aj1 aj3 hi hj hn h
  go_enter Tryz.func175, Tryz.ntmps175
  go_wp2
  go_region
  go_wp2
  go_end0
  exact ⟨rfl, 1, rfl⟩

set_option maxHeartbeats 1600000 in
theorem swap_eq (eb cap n : Nat) (sp : List Value) (es : List Ent) (i : Nat) (a : Ent) (w : World) (h : EsAt w eb sp es) (hi : es[i]? = some a) (hn : n = es.length) :
    Calls Tryz.prog 175 #[.slice (some ⟨eb, 0, none⟩) n cap, I i, I i] w fun e w' => e = .returned (.tuple #[]) ∧
      ∃ m, w' = ((((w.setCell ⟨eb, i, none⟩ (ptr a.blk 0)).setCell ⟨eb, i, none⟩ (ptr a.blk 0)).setCell ⟨a.blk, 2, none⟩ (I i)).setCell ⟨a.blk, 2, none⟩ (I i)).drewN m := by
  have li : i < n := hn ▸ (List.getElem?_eq_some_iff.1 hi).1
  have ci := h.cell hi
  have fi := h.arr.frozen i
  obtain ⟨ai0, ai1, ai2, ai3⟩ := h.cells hi
  have fa := (h.ent i a hi).frozen 2
  have na := h.out a (List.mem_of_getElem? hi)
  clear ai0 ai1 ai3 hi hn h
  go_enter Tryz.func175, Tryz.ntmps175
  go_wp2
  go_region
  go_wp2
  go_end0
  exact ⟨rfl, 1, rfl⟩

/-- the entries at i and j, changed -/
def esSwap (es : List Ent) (i j : Nat) (a b : Ent) : List Ent := (es.set i b).set j a

theorem esSwap_get (es : List Ent) (i j : Nat) (a b : Ent) (k : Nat) (hi : es[i]? = some a) (hj : es[j]? = some b) :
    (esSwap es i j a b)[k]? = if k = j then some a else if k = i then some b else es[k]? := by
  have li : i < es.length := (List.getElem?_eq_some_iff.1 hi).1
  have lj : j < es.length := (List.getElem?_eq_some_iff.1 hj).1
  unfold esSwap
  rw [List.getElem?_set, List.getElem?_set]
  by_cases h1 : j = k
  · subst h1; simp [lj]
  · by_cases h2 : i = k
    · subst h2; simp [h1, li]; omega
    · have h3 : ¬ k = j := fun e => h1 e.symm
      have h4 : ¬ k = i := fun e => h2 e.symm
      simp [h1, h2, h3, h4]

theorem esSwap_len (es : List Ent) (i j : Nat) (a b : Ent) : (esSwap es i j a b).length = es.length := by simp [esSwap]

theorem esSwap_same (es : List Ent) (i : Nat) (a : Ent) (hi : es[i]? = some a) : esSwap es i i a a = es := by
  apply List.ext_getElem?
  intro k
  rw [esSwap_get _ _ _ _ _ _ hi hi]
  by_cases h : k = i
  · subst h; simp [hi]
  · simp [h]

theorem perm_swap : ∀ (es : List Ent) (i j : Nat) (a b : Ent), i < j → es[i]? = some a → es[j]? = some b → (esSwap es i j a b).Perm es := by
  intro es
  induction es with
  | nil => intro i j a b _ hi; simp at hi
  | cons x es ih =>
    intro i j a b hlt hi hj
    cases j with
    | zero => omega
    | succ j =>
      cases i with
      | zero =>
        simp only [List.getElem?_cons_zero, Option.some.injEq] at hi
        subst hi
        simp only [List.getElem?_cons_succ] at hj
        simp only [esSwap, List.set_cons_zero, List.set_cons_succ]
        obtain ⟨lj, vj⟩ := List.getElem?_eq_some_iff.1 hj
        have e : es = es.take j ++ b :: es.drop (j + 1) := by
          rw [← vj, ← List.drop_eq_getElem_cons lj, List.take_append_drop]
        have e2 : es.set j x = es.take j ++ x :: es.drop (j + 1) := by rw [List.set_eq_take_append_cons_drop, if_pos lj]
        rw [e2]
        have h1 : (b :: (es.take j ++ x :: es.drop (j + 1))).Perm (b :: x :: (es.take j ++ es.drop (j + 1))) := List.Perm.cons b List.perm_middle
        have h2 : (x :: b :: (es.take j ++ es.drop (j + 1))).Perm (x :: es) := List.Perm.cons x (List.perm_middle.symm.trans (by rw [← e]))
        exact h1.trans ((List.Perm.swap x b _).trans h2)
      | succ i =>
        simp only [List.getElem?_cons_succ] at hi hj
        have := ih i j a b (by omega) hi hj
        simpa [esSwap] using List.Perm.cons x this

theorem esSwap_comm (es : List Ent) (i j : Nat) (a b : Ent) (hi : es[i]? = some a) (hj : es[j]? = some b) : esSwap es i j a b = esSwap es j i b a := by
  apply List.ext_getElem?
  intro k
  rw [esSwap_get _ _ _ _ _ _ hi hj, esSwap_get _ _ _ _ _ _ hj hi]
  by_cases h1 : k = j
  · subst h1
    by_cases h2 : k = i
    · subst h2; rw [hi] at hj; simp at hj; subst hj; simp
    · simp [h2]
  · simp [h1]

theorem esSwap_perm (es : List Ent) (i j : Nat) (a b : Ent) (hi : es[i]? = some a) (hj : es[j]? = some b) : (esSwap es i j a b).Perm es := by
  rcases Nat.lt_trichotomy i j with h | h | h
  · exact perm_swap es i j a b h hi hj
  · subst h; rw [hi] at hj; simp at hj; subst hj; rw [esSwap_same _ _ _ hi]
  · rw [esSwap_comm _ _ _ _ _ hi hj]; exact perm_swap es j i b a h hj hi

theorem swap_any (eb cap n : Nat) (sp : List Value) (es : List Ent) (i j : Int) (a b : Ent) (w : World) (h : EsAt w eb sp es) (i0 : 0 ≤ i) (j0 : 0 ≤ j) (hi : es[i.toNat]? = some a) (hj : es[j.toNat]? = some b)
    (hn : n = es.length) :
    Calls Tryz.prog 175 #[.slice (some ⟨eb, 0, none⟩) n cap, I i, I j] w fun e w' => e = .returned (.tuple #[]) ∧
      Frm (EsF eb es) w w' ∧ EsAt w' eb sp (esSwap es i.toNat j.toNat a b) := by
  obtain ⟨i, rfl⟩ := Int.eq_ofNat_of_zero_le i0
  obtain ⟨j, rfl⟩ := Int.eq_ofNat_of_zero_le j0
  simp only [Int.toNat_natCast] at hi hj ⊢
  have li : i < es.length := (List.getElem?_eq_some_iff.1 hi).1
  have lj : j < es.length := (List.getElem?_eq_some_iff.1 hj).1
  have ma := List.mem_of_getElem? hi
  have mb := List.mem_of_getElem? hj
  by_cases hij : i = j
  · subst hij
    rw [hi] at hj; simp at hj; subst hj
    refine (swap_eq eb cap n sp es i a w h hi hn).mono ?_
    rintro e w' ⟨rfl, m, rfl⟩
    refine ⟨rfl, ?_, ?_⟩
    · exact (((((Frm.refl _ _).setCell (Or.inl rfl) _).setCell (Or.inl rfl) _).setCell (Or.inr ⟨a, ma, rfl⟩) _).setCell (Or.inr ⟨a, ma, rfl⟩) _).drewN _
    · rw [esSwap_same _ _ _ hi]
      have e1 : (ptrCells es sp).setIfInBounds i (ptr a.blk 0) = ptrCells es sp := by
        rw [ptrCells_set _ _ _ _ li]; congr 1
        apply List.ext_getElem?; intro k; rw [List.getElem?_set]; split
        · rename_i e; subst e; rw [hi]
        · rfl
      have e2 : (entCells a i).setIfInBounds 2 (I i) = entCells a i := by simp [entCells]
      have no := h.out a ma
      refine ⟨?_, ?_, h.nodup, h.out⟩
      · have := ((((h.arr.set i (ptr a.blk 0)).set i (ptr a.blk 0)).other (p := ⟨a.blk, 2, none⟩) (Ne.symm no) (I i)).other (p := ⟨a.blk, 2, none⟩) (Ne.symm no) (I i)).drewN m
        rwa [e1, e1] at this
      · intro k e hk
        by_cases hki : k = i
        · subst hki
          rw [hi] at hk; simp at hk; subst hk
          have := (((((h.ent k a hi).other (p := ⟨eb, k, none⟩) no (ptr a.blk 0)).other (p := ⟨eb, k, none⟩) no (ptr a.blk 0)).set 2 (I k)).set 2 (I k)).drewN m
          rwa [e2, e2] at this
        · have n1 := h.ne hk hi hki
          have n2 := h.out e (List.mem_of_getElem? hk)
          exact (((((h.ent k e hk).other (p := ⟨eb, i, none⟩) n2 (ptr a.blk 0)).other (p := ⟨eb, i, none⟩) n2 (ptr a.blk 0)).other (p := ⟨a.blk, 2, none⟩) n1 (I i)).other (p := ⟨a.blk, 2, none⟩) n1 (I i)).drewN m
  · refine (swap_ne eb cap n sp es i j a b w h hi hj hn hij).mono ?_
    rintro e w' ⟨rfl, m, rfl⟩
    refine ⟨rfl, ?_, ?_⟩
    · exact (((((Frm.refl _ _).setCell (Or.inl rfl) _).setCell (Or.inl rfl) _).setCell (Or.inr ⟨b, mb, rfl⟩) _).setCell (Or.inr ⟨a, ma, rfl⟩) _).drewN _
    · have na := h.out a ma
      have nb := h.out b mb
      have nab := h.ne hi hj hij
      have hp := esSwap_perm es i j a b hi hj
      refine ⟨?_, ?_, ((hp.map _).nodup_iff).2 h.nodup, fun e he => h.out e (hp.mem_iff.1 he)⟩
      · have := ((((h.arr.set i (ptr b.blk 0)).set j (ptr a.blk 0)).other (p := ⟨b.blk, 2, none⟩) (Ne.symm nb) (I i)).other (p := ⟨a.blk, 2, none⟩) (Ne.symm na) (I j)).drewN m
        rw [ptrCells_set _ _ _ _ li, ptrCells_set _ _ _ _ (by simpa using lj)] at this
        exact this
      · intro k e hk
        rw [esSwap_get _ _ _ _ _ _ hi hj] at hk
        by_cases hkj : k = j
        · subst hkj
          simp at hk; subst hk
          have := (((((h.ent i a hi).other (p := ⟨eb, i, none⟩) na (ptr b.blk 0)).other (p := ⟨eb, k, none⟩) na (ptr a.blk 0)).other (p := ⟨b.blk, 2, none⟩) nab (I i)).set 2 (I k)).drewN m
          simpa [entCells] using this
        · by_cases hki : k = i
          · subst hki
            simp [hkj] at hk; subst hk
            have := (((((h.ent j b hj).other (p := ⟨eb, k, none⟩) nb (ptr b.blk 0)).other (p := ⟨eb, j, none⟩) nb (ptr a.blk 0)).set 2 (I k)).other (p := ⟨a.blk, 2, none⟩) (Ne.symm nab) (I j)).drewN m
            simpa [entCells] using this
          · simp [hkj, hki] at hk
            have n1 := h.ne hk hi hki
            have n2 := h.ne hk hj hkj
            have n3 := h.out e (List.mem_of_getElem? hk)
            exact (((((h.ent k e hk).other (p := ⟨eb, i, none⟩) n3 (ptr b.blk 0)).other (p := ⟨eb, j, none⟩) n3 (ptr a.blk 0)).other (p := ⟨b.blk, 2, none⟩) n2 (I i)).other (p := ⟨a.blk, 2, none⟩) n1 (I j)).drewN m

end Go.Proofs.YtpilmkipbbengaaGreatDoor
