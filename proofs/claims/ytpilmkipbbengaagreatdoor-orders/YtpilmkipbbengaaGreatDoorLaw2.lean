/- driplaw: own. -/
import Derived.Test.YtpilmkipbbengaaGreatDoorLaw1
import Derived.Deep.CutRange
namespace Go.Proofs.YtpilmkipbbengaaGreatDoor
open Go.RowKit

theorem flat_mark (n : Nat) (m : Int) : (List.replicate n m).flatMap markC = List.replicate (n * 3) (I m) := by
  induction n with
  | zero => rfl
  | succ n ih =>
    rw [List.replicate_succ, List.flatMap_cons, ih, show (n + 1) * 3 = n * 3 + 1 + 1 + 1 from by omega]
    simp only [List.replicate_succ, markC]
    rfl

theorem rep_cells (w : World) (l : List Value) (T : TypeId) (b : Nat) (h : b = w.heap.size) (u : Value) (hl : ∀ x ∈ l, x = u) (k : Nat) (hk : l.length = k) : ∀ j, j < k → (w.alloc (.cells l.toArray T)).cell? ((⟨b, 0, none⟩ : Addr).add j) = some u := by
  intro j hj
  have : l[j]? = some u := by
    rw [List.getElem?_eq_getElem (by omega)]
    exact congrArg some (hl _ (List.getElem_mem _))
  exact cell_news w l T b h j u this

section
variable {P : Program} (w : World)
/-- append of marks: what already bears the mark goes on bearing it -/
theorem run_append_mark (t ty e : TypeId) (i : TypeInfo) (z : Value) (size bytes : Nat) (ht : P.underlying t = some (.slice e)) (hi : P.info? e = some i) (hz : i.zero = some z)
    (hsize : i.size = size) (hby : i.bytes = bytes) (hzs : z.cells.size = size) (hsz : 0 < size)
    (v : Value) (n : Nat) (xs : List Value) (hown : w.ownsRow 0 e size v n xs)
    (a : Addr) (m c : Nat) (u : Value) (hu1 : u.oneCell' = true) (hnews : ∀ j, j < m * size → w.cell? (a.add j) = some u)
    (h63 : n + m ≤ maxLen) (hbytes : (n + m) * bytes ≤ 140737488355328) :
    ∃ v' w', (Builtin.append_ #[t, t] ty #[v, .slice (some a) m c]).run P w = .ok v' w' ∧ w'.ownsRow 0 e size v' (n + m) (xs ++ List.replicate (m * size) u) ∧ w.grownBy w' v.ownBlock ∧
      (v'.ownBlock = v.ownBlock ∨ (v'.ownBlock = some w.heap.size ∧ w.grownBy w' none)) ∧ (∀ q k, w.ownsRow 0 e size q k (List.replicate (k * size) u) → w'.ownsRow 0 e size q k (List.replicate (k * size) u)) := by
  have hl : (List.replicate (m * size) u).length = m * size := by simp
  have hnews' : ∀ j y, (List.replicate (m * size) u)[j]? = some y → w.cell? (a.add j) = some y := by
    intro j y hy
    have hj : j < m * size := by simpa using (List.getElem?_eq_some_iff.1 hy).1
    rw [replicate_get _ _ _ hj] at hy
    injection hy with hy
    subst hy; exact hnews j hj
  have h1 : ∀ y ∈ List.replicate (m * size) u, y.oneCell' = true := fun y hy => by rw [(List.mem_replicate.1 hy).2]; exact hu1
  obtain ⟨v', w', hr, h2, h3, h4⟩ := run_append_row (P := P) w t ty e i z size bytes ht hi hz hsize hby hzs hsz v n xs hown a m c _ hl hnews' h1 h63 hbytes
  refine ⟨v', w', hr, h2, h3, h4, ?_⟩
  intro q k hq
  rcases h4 with h4 | ⟨-, h4⟩
  · by_cases hqv : q.ownBlock = v.ownBlock
    · -- the same block, or both nil
      rcases hq.2 with ⟨rfl, rfl⟩ | ⟨g, cap, cur, rfl, -, r2, r3, r4, r5, r6⟩
      · simpa using World.ownsRow_nil w' 0 e size
      · rcases hown.2 with ⟨rfl, rfl⟩ | ⟨g', cap', cur', rfl, -, s2, s3, s4, s5, s6⟩
        · simp [Value.ownBlock] at hqv
        · simp [Value.ownBlock] at hqv
          subst hqv
          rw [r2] at s2
          injection s2 with s2
          injection s2 with s2 _ _
          subst s2
          subst hsize
          subst hby
          have hsmall : n + m ≤ 9223372036854775807 := by simp only [maxLen] at h63; omega
          have hglt : g < w.heap.size := (Array.getElem?_eq_some_iff.1 r2).1
          by_cases hroom : n + m ≤ cap'
          · have hfit : n * i.size + (List.replicate (m * i.size) u).length ≤ cur.size := by
              rw [hl, s5, ← Nat.add_mul]; exact Nat.mul_le_mul_right _ hroom
            have hrr := run_append_room (P := P) w t ty e i ht hi g n cap' cur r2 a m c _ hl hnews' h1 hroom hfit
            rw [hr] at hrr
            injection hrr with e1 e2
            rw [e2]
            refine ⟨by simp, Or.inr ⟨g, cap, _, rfl, Nat.zero_le _, setRow_heap w g cur _ e _ r2, r3, r4, ?_, ?_⟩⟩
            · rw [← r5]; simp at hfit ⊢; omega
            · apply List.ext_getElem?
              intro x
              rw [List.getElem?_take, List.getElem?_replicate]
              split
              · rename_i hx
                have hcx : cur.toList[x]? = some u := by
                  have := congrArg (fun l => l[x]?) r6
                  simp only [List.getElem?_take, hx, if_true, List.getElem?_replicate] at this
                  exact this
                rw [List.append_assoc, List.getElem?_append]
                split
                · rename_i hx1
                  rw [List.getElem?_take]
                  simp only [List.length_take] at hx1
                  rw [if_pos (by omega)]; exact hcx
                · rename_i hx1
                  simp only [List.length_take] at hx1 ⊢
                  have hfit2 : n * i.size ≤ cur.toList.length := by simp at hfit ⊢; omega
                  rw [Nat.min_eq_left hfit2] at hx1 ⊢
                  rw [List.getElem?_append]
                  split
                  · rename_i hx2
                    rw [hl] at hx2
                    exact replicate_get _ _ _ hx2
                  · rename_i hx2
                    rw [hl] at hx2 ⊢
                    rw [List.getElem?_drop, show n * i.size + m * i.size + (x - n * i.size - m * i.size) = x from by omega]
                    exact hcx
              · rfl
          · exfalso
            have hholds : ∀ j u, xs[j]? = some u → w.cell? ((⟨g, 0, none⟩ : Addr).add j) = some u := hown.cells (g := g) rfl
            have hrr := run_append_grow (P := P) w t ty e i z ht hi hz ⟨g, 0, none⟩ n cap' xs hown.1 hholds a m c _ hl hnews' (by omega) (by omega) (growslice_fits (by omega) hbytes)
            rw [hr] at hrr
            injection hrr with e1 e2
            rw [e1] at h4
            simp [Value.ownBlock] at h4
            omega
    · exact row_frm hq (grown_frm h3) (fun g hg e => hqv (by rw [hg, e]))
  · exact row_frm hq (grown_frm h4) (fun g hg e => by simp at e)
end

theorem wpList_append_mark {P : Program} (w : World) {ops : Array Oper} {rest : List Oper} {o : Oper} {a : Act} {Q : Exit → Act → World → Prop} (hgd : o.guard = none) (s x : Operand) (t : TypeId)
    (ho : o.op = .call { callee := .builtin .append, args := #[s, x], argTypes := #[t, t] })
    (e : TypeId) (i : TypeInfo) (z : Value) (size bytes : Nat) (ht : P.underlying t = some (.slice e)) (hi : P.info? e = some i) (hz : i.zero = some z)
    (hsize : i.size = size) (hby : i.bytes = bytes) (hzs : z.cells.size = size) (hsz : 0 < size)
    (v : Value) (n : Nat) (xs : List Value) (hs : a.eval s = v) (hown : w.ownsRow 0 e size v n xs) (ad : Addr) (m c : Nat) (u : Value) (hxe : a.eval x = .slice (some ad) m c) (hu1 : u.oneCell' = true) (hnews : ∀ j, j < m * size → w.cell? (ad.add j) = some u)
    (h63 : n + m ≤ maxLen) (hbytes : (n + m) * bytes ≤ 140737488355328)
    (h : ∀ v' w', w'.ownsRow 0 e size v' (n + m) (xs ++ List.replicate (m * size) u) → w.grownBy w' v.ownBlock → (v'.ownBlock = v.ownBlock ∨ (v'.ownBlock = some w.heap.size ∧ w.grownBy w' none)) → (∀ q k, w.ownsRow 0 e size q k (List.replicate (k * size) u) → w'.ownsRow 0 e size q k (List.replicate (k * size) u)) → wpList P ops Q rest (a.put o.dst v') w') : wpList P ops Q (o :: rest) a w :=
  wpList_plain hgd fun _ hK => by
    obtain ⟨v', w', hr, h2, h3, h4, h5⟩ := run_append_mark (P := P) w t o.type e i z size bytes ht hi hz hsize hby hzs hsz v n xs hown ad m c u hu1 hnews h63 hbytes
    unfold Oper.wp execOp
    simp only [ho, resolve, invoke, builtin, Sem.run_bind, Sem.run_pure, Result.andThen_ok, List.map_toArray, List.map_cons, List.map_nil, hs, hxe, hr]
    exact hK _ _ (h v' w' h2 h3 h4 h5)

/-- the lists' footprint -/
def LF (wb : Nat) (vp vd vl vm : Value) (ds ls : List Value) : Nat → Prop := fun x => x = wb ∨ vp.ownBlock = some x ∨ vd.ownBlock = some x ∨ vl.ownBlock = some x ∨ vm.ownBlock = some x ∨ (∃ v ∈ ds, v.ownBlock = some x) ∨ (∃ v ∈ ls, v.ownBlock = some x)

/-- a list apart from the World's own blocks -/
structure Off (wb : Nat) (vp vd vl vm v : Value) : Prop where
  b : v.ownBlock ≠ some wb
  p : Dis v vp
  d : Dis v vd
  l : Dis v vl
  m : Dis v vm

structure LSep (wb : Nat) (vp vd vl vm : Value) (ds ls : List Value) : Prop where
  bp : vp.ownBlock ≠ some wb
  bd : vd.ownBlock ≠ some wb
  bl : vl.ownBlock ≠ some wb
  bm : vm.ownBlock ≠ some wb
  pd : Dis vp vd
  pl : Dis vp vl
  pm : Dis vp vm
  dl : Dis vd vl
  dm : Dis vd vm
  lm : Dis vl vm
  ds : ∀ v ∈ ds, Off wb vp vd vl vm v
  ls : ∀ v ∈ ls, Off wb vp vd vl vm v

theorem infoSD : (Tryz.prog.info? 35).map (fun i => (i.zero, i.size, i.bytes)) = some (some (.slice none 0 0), 1, 24) := by kernel_rfl
theorem infoInt : (Tryz.prog.info? 3).map (fun i => (i.zero, i.size, i.bytes)) = some (some (I 0), 1, 8) := by kernel_rfl

/-- what own has done when all elements of l bear the mark -/
structure OwnSt (w wr : World) (l : Value) (n : Nat) (m : Int) (xs : List Value) (j : Nat) : Prop where
  row : wr.ownsRow 0 100 3 l n (List.replicate (j * 3) (I m) ++ xs.drop (j * 3))
  frm : Frm (fun x => l.ownBlock = some x) w wr
  box : Blk wr w.heap.size #[I m, I m, I m] 100

theorem set3a (u a b c : Value) (r : List Value) : ∀ (A : List Value), ((((A ++ a :: b :: c :: r).set A.length u).set (A.length + 1) u).set (A.length + 2) u) = A ++ u :: u :: u :: r := by
  intro A
  induction A with
  | nil => rfl
  | cons x A ih => simp
theorem set3 (u : Value) (xs : List Value) (j n : Nat) (hl : xs.length = n * 3) (hj : j < n) :
    ((((List.replicate (j * 3) u ++ xs.drop (j * 3)).set (j * 3) u).set (j * 3 + 1) u).set (j * 3 + 2) u) = List.replicate ((j + 1) * 3) u ++ xs.drop ((j + 1) * 3) := by
  have h1 : xs.drop (j * 3) = xs[j * 3]'(by omega) :: xs[j * 3 + 1]'(by omega) :: xs[j * 3 + 2]'(by omega) :: xs.drop ((j + 1) * 3) := by
    rw [List.drop_eq_getElem_cons (by omega), List.drop_eq_getElem_cons (by omega), List.drop_eq_getElem_cons (by omega)]
    rw [show j * 3 + 1 + 1 + 1 = (j + 1) * 3 from by omega]
  rw [h1]
  have := set3a u (xs[j * 3]'(by omega)) (xs[j * 3 + 1]'(by omega)) (xs[j * 3 + 2]'(by omega)) (xs.drop ((j + 1) * 3)) (List.replicate (j * 3) u)
  rw [List.length_replicate] at this
  rw [this, show (j + 1) * 3 = j * 3 + 3 from by omega, ← List.replicate_append_replicate]
  simp [List.replicate]

theorem OwnSt.set {w wr : World} {g cl n : Nat} {m : Int} {xs : List Value} {j : Nat} (h : OwnSt w wr (.slice (some ⟨g, 0, none⟩) n cl) n m xs j) (hg : g < w.heap.size) (hl : xs.length = n * 3) (hj : j < n) :
    OwnSt w (((wr.setCell ⟨g, j * 3, none⟩ (I m)).setCell ⟨g, j * 3 + 1, none⟩ (I m)).setCell ⟨g, j * 3 + 2, none⟩ (I m)) (.slice (some ⟨g, 0, none⟩) n cl) n m xs (j + 1) := by
  have r1 := (h.row.stored (j * 3) (I m)).1
  have r2 := (r1.stored (j * 3 + 1) (I m)).1
  have r3 := (r2.stored (j * 3 + 2) (I m)).1
  rw [set3 (I m) xs j n hl hj] at r3
  have hne : w.heap.size ≠ g := by omega
  have hS : (fun x => (Value.slice (some ⟨g, 0, none⟩) n cl).ownBlock = some x) g := rfl
  have fr : Frm (fun x => (Value.slice (some ⟨g, 0, none⟩) n cl).ownBlock = some x) w (((wr.setCell ⟨g, j * 3, none⟩ (I m)).setCell ⟨g, j * 3 + 1, none⟩ (I m)).setCell ⟨g, j * 3 + 2, none⟩ (I m)) :=
    ((h.frm.setCell (p := ⟨g, j * 3, none⟩) hS _).setCell (p := ⟨g, j * 3 + 1, none⟩) hS _).setCell (p := ⟨g, j * 3 + 2, none⟩) hS _
  exact ⟨r3, fr, ((h.box.other (p := ⟨g, j * 3, none⟩) hne _).other (p := ⟨g, j * 3 + 1, none⟩) hne _).other (p := ⟨g, j * 3 + 2, none⟩) hne _⟩

theorem row_cells {w : World} {e : TypeId} {s n : Nat} {v : Value} {xs : List Value} (h : w.ownsRow 0 e s v n xs) (h0 : 0 < n) : ∃ g cap, v = .slice (some ⟨g, 0, none⟩) n cap ∧ (∀ j, j < n * s → ∃ y, w.cell? ⟨g, j, none⟩ = some y) ∧ (∀ j, w.frozen? ⟨g, j, none⟩ = false) ∧ g < w.heap.size := by
  rcases h.2 with ⟨rfl, rfl⟩ | ⟨g, cap, cur, rfl, _, r2, r3, r4, r5, r6⟩
  · omega
  · have hb : Blk w g cur e := r2
    refine ⟨g, cap, rfl, fun j hj => ?_, fun j => hb.frozen j, hb.lt⟩
    rw [hb.cell]
    have : j < cur.size := by rw [r5]; exact Nat.lt_of_lt_of_le hj (Nat.mul_le_mul_right _ r3)
    exact ⟨_, Array.getElem?_eq_getElem this⟩

theorem Lists.frm {S : Nat → Prop} {w w' : World} {wb : Nat} {vp vd vl vm : Value} {ds : List Value} {ms : List Int} {ls : List Value} (h : Lists w wb vp vd vl vm ds ms ls) (k : Frm S w w') (hs : ∀ x, LF wb vp vd vl vm ds ls x → ¬ S x) : Lists w' wb vp vd vl vm ds ms ls :=
  ⟨h.head.frm k (hs _ (Or.inl rfl)), row_frm h.doses k (fun g hg => hs g (Or.inr (Or.inr (Or.inl hg)))), row_frm h.marks k (fun g hg => hs g (Or.inr (Or.inr (Or.inr (Or.inr (Or.inl hg)))))), row_frm h.lent k (fun g hg => hs g (Or.inr (Or.inr (Or.inr (Or.inl hg))))), h.len,
    fun i v m h1 h2 => (h.dm i v m h1 h2).frm k (fun g hg => hs g (Or.inr (Or.inr (Or.inr (Or.inr (Or.inr (Or.inl ⟨v, List.mem_of_getElem? h1, hg⟩))))))), fun v hv => (h.lm v hv).frm k (fun g hg => hs g (Or.inr (Or.inr (Or.inr (Or.inr (Or.inr (Or.inr ⟨v, hv, hg⟩)))))))⟩

/-- one list of the World has been replaced: its row stands, all other things are as they were -/
theorem grow_off {w W w' : World} {v : Value} {wb k : Nat} (kW : Keep w W) (hg : W.grownBy w' v.ownBlock) {T : TypeId} {s n : Nat} {u : Value} {xs : List Value} (h : w.ownsRow 0 T s u n xs) (hd : Dis u v) (hb : u.ownBlock ≠ some wb) (x : Value) : (w'.setCell ⟨wb, k, none⟩ x).ownsRow 0 T s u n xs :=
  row_of_block (row_frm (row_frm h kW (fun _ _ e => e)) (grown_frm hg) (fun g hg' e => hd g hg' e)) fun g hg' => Below.heap_setCell _ _ _ _ fun e => hb (by rw [hg', e])

theorem fresh_dis {w W w' : World} {v v' u : Value} (kW : Keep w W) (hn : v'.ownBlock = v.ownBlock ∨ (v'.ownBlock = some W.heap.size ∧ W.grownBy w' none)) (hu : ∀ x, u.ownBlock = some x → x < w.heap.size) (hd : Dis v u) : Dis v' u := by
  intro x hx e
  rcases hn with h | ⟨h, -⟩
  · rw [h] at hx; exact hd x hx e
  · rw [h] at hx; injection hx with hx; have := hu x e; have := kW.size; omega
theorem fresh_ne {w W w' : World} {v v' : Value} {b : Nat} (kW : Keep w W) (hn : v'.ownBlock = v.ownBlock ∨ (v'.ownBlock = some W.heap.size ∧ W.grownBy w' none)) (hb : b < w.heap.size) (hne : v.ownBlock ≠ some b) : v'.ownBlock ≠ some b := by
  rcases hn with h | ⟨h, -⟩
  · rw [h]; exact hne
  · rw [h]; intro e; injection e with e; have := kW.size; omega

theorem Lists.lt {w : World} {wb : Nat} {vp vd vl vm : Value} {ds : List Value} {ms : List Int} {ls : List Value} (h : Lists w wb vp vd vl vm ds ms ls) (hp : ∀ x, vp.ownBlock = some x → x < w.heap.size) : ∀ x, LF wb vp vd vl vm ds ls x → x < w.heap.size := by
  rintro x (rfl | e | e | e | e | ⟨v, hv, e⟩ | ⟨v, hv, e⟩)
  · exact h.head.lt
  · exact hp x e
  · exact (h.doses.lt x e).2
  · exact (h.lent.lt x e).2
  · exact (h.marks.lt x e).2
  · obtain ⟨i, hi⟩ := List.getElem?_of_mem hv
    have hil : i < ms.length := by rw [← h.len]; exact (List.getElem?_eq_some_iff.1 hi).1
    obtain ⟨n, _, hr⟩ := h.dm i v _ hi (List.getElem?_eq_getElem hil)
    exact (hr.lt x e).2
  · obtain ⟨n, _, hr⟩ := h.lm v hv
    exact (hr.lt x e).2

/-- what own leaves -/
def OwnEnd (w : World) (wb : Nat) (vp vd vl vm : Value) (ds : List Value) (ms : List Int) (ls : List Value) (l : Value) (w' : World) : Prop :=
  ∃ vd' vm' v1 v2 v3 m, Lists w' wb vp vd' vl vm' (ds ++ [l, v1, v2, v3]) (ms ++ [m, m, m, m]) ls ∧ LSep wb vp vd' vl vm' (ds ++ [l, v1, v2, v3]) ls ∧
    Frm (fun x => x = wb ∨ vd.ownBlock = some x ∨ vm.ownBlock = some x ∨ l.ownBlock = some x) w w' ∧ (∀ x, LF wb vp vd' vl vm' (ds ++ [l, v1, v2, v3]) ls x → LF wb vp vd vl vm ds ls x ∨ l.ownBlock = some x ∨ w.heap.size ≤ x)

theorem own_fin {w w3 W4 w4 W6 w6 : World} {wb : Nat} {vp vd vl vm vd' vm' : Value} {ds : List Value} {ms : List Int} {ls : List Value} {l v1 v2 v3 : Value} {m : Int} (hp : ∀ x, vp.ownBlock = some x → x < w.heap.size) (h : Lists w3 wb vp vd vl vm ds ms ls) (sep : LSep wb vp vd vl vm ds ls)
    (f3 : Frm (fun x => l.ownBlock = some x) w w3) (hm : ∀ v ∈ [l, v1, v2, v3], Marked w3 100 v m) (ho : ∀ v ∈ [l, v1, v2, v3], Off wb vp vd vl vm v) (hf : ∀ v ∈ [l, v1, v2, v3], ∀ x, v.ownBlock = some x → l.ownBlock = some x ∨ w.heap.size ≤ x)
    (k4 : Keep w3 W4) (g4 : W4.grownBy w4 vd.ownBlock) (r4 : w4.ownsRow 0 35 1 vd' (ds.length + 4) (ds ++ [l, v1, v2, v3])) (n4 : vd'.ownBlock = vd.ownBlock ∨ (vd'.ownBlock = some W4.heap.size ∧ W4.grownBy w4 none))
    (k6 : Keep (w4.setCell ⟨wb, 1, none⟩ vd') W6) (g6 : W6.grownBy w6 vm.ownBlock) (r6 : w6.ownsRow 0 3 1 vm' (ms.length + 4) (ms.map I ++ [I m, I m, I m, I m])) (n6 : vm'.ownBlock = vm.ownBlock ∨ (vm'.ownBlock = some W6.heap.size ∧ W6.grownBy w6 none)) :
    OwnEnd w wb vp vd vl vm ds ms ls l (w6.setCell ⟨wb, 3, none⟩ vm') := by
  have lwb := h.head.lt
  have s3 := f3.size
  have s4 := k4.size
  have s4' := g4.size
  have s6 := k6.size
  simp at s6
  have lt3 : ∀ {T s v n xs}, w3.ownsRow 0 T s v n xs → ∀ x, v.ownBlock = some x → x < w3.heap.size := fun hr x hx => (hr.lt x hx).2
  have lt5 : ∀ x, x < w3.heap.size → x < (w4.setCell ⟨wb, 1, none⟩ vd').heap.size := fun x hx => by simp; omega
  have hp3 : ∀ x, vp.ownBlock = some x → x < w3.heap.size := fun x hx => by have := hp x hx; omega
  have d1 : ∀ {T s v n xs}, w3.ownsRow 0 T s v n xs → Dis v vd → Dis v vm → v.ownBlock ≠ some wb → (w6.setCell ⟨wb, 3, none⟩ vm').ownsRow 0 T s v n xs :=
    fun hr hd hmm hb => grow_off k6 g6 (grow_off k4 g4 hr hd hb vd') hmm hb vm'
  have bd' : vd'.ownBlock ≠ some wb := fresh_ne k4 n4 lwb sep.bd
  have bm' : vm'.ownBlock ≠ some wb := fresh_ne k6 n6 (lt5 _ lwb) sep.bm
  have dm' : Dis vd' vm := fresh_dis k4 n4 (lt3 h.marks) sep.dm
  have r5 : (w4.setCell ⟨wb, 1, none⟩ vd').ownsRow 0 35 1 vd' (ds.length + 4) (ds ++ [l, v1, v2, v3]) := row_of_block r4 fun g hg => Below.heap_setCell _ _ _ _ fun e => bd' (by rw [hg, e])
  have dmm : Dis vd' vm' := (fresh_dis k6 n6 (fun x hx => (r5.lt x hx).2) dm'.symm).symm
  have off' : ∀ v, (∀ x, v.ownBlock = some x → x < w3.heap.size) → Off wb vp vd vl vm v → Off wb vp vd' vl vm' v := fun v hv o =>
    ⟨o.b, o.p, (fresh_dis k4 n4 hv o.d.symm).symm, o.l, (fresh_dis k6 n6 (fun x hx => lt5 x (hv x hx)) o.m.symm).symm⟩
  have mlt : ∀ {T v m}, Marked w3 T v m → ∀ x, v.ownBlock = some x → x < w3.heap.size := fun ⟨_, _, hr⟩ => lt3 hr
  have mk : ∀ {T v m}, Marked w3 T v m → Off wb vp vd vl vm v → Marked (w6.setCell ⟨wb, 3, none⟩ vm') T v m := fun ⟨n, hn, hr⟩ o => ⟨n, hn, d1 hr o.d o.m o.b⟩
  have dlt : ∀ v ∈ ds, ∀ x, v.ownBlock = some x → x < w3.heap.size := by
    intro v hv
    obtain ⟨i, hi⟩ := List.getElem?_of_mem hv
    have hil : i < ms.length := by rw [← h.len]; exact (List.getElem?_eq_some_iff.1 hi).1
    exact mlt (h.dm i v _ hi (List.getElem?_eq_getElem hil))
  refine ⟨vd', vm', v1, v2, v3, m, ⟨?_, ?_, ?_, d1 h.lent sep.dl.symm sep.lm sep.bl, by simp [h.len], ?_, fun v hv => mk (h.lm v hv) (sep.ls v hv)⟩, ⟨sep.bp, bd', sep.bl, bm', (fresh_dis k4 n4 hp3 sep.pd.symm).symm, sep.pl, (fresh_dis k6 n6 (fun x hx => lt5 x (hp3 x hx)) sep.pm.symm).symm, fresh_dis k4 n4 (lt3 h.lent) sep.dl, dmm, (fresh_dis k6 n6 (fun x hx => lt5 x (lt3 h.lent x hx)) sep.lm.symm).symm, ?_, fun v hv => off' v (mlt (h.lm v hv)) (sep.ls v hv)⟩, ?_, ?_⟩
  · have b4 := ((k4.blk h.head).frm (grown_frm g4) sep.bd).set 1 vd'
    have b6 := ((k6.blk b4).frm (grown_frm g6) sep.bm).set 3 vm'
    simpa using b6
  · have := grow_off (k := 3) k6 g6 r5 dm' bd' vm'
    simpa using this
  · have := row_of_block r6 (w' := w6.setCell ⟨wb, 3, none⟩ vm') fun g hg => Below.heap_setCell _ _ _ _ fun e => bm' (by rw [hg, e])
    simpa using this
  · intro i v mm hi hmm
    by_cases hlt : i < ds.length
    · rw [List.getElem?_append_left hlt] at hi
      rw [List.getElem?_append_left (by rw [← h.len]; exact hlt)] at hmm
      exact mk (h.dm i v mm hi hmm) (sep.ds v (List.mem_of_getElem? hi))
    · rw [List.getElem?_append_right (by omega)] at hi
      rw [List.getElem?_append_right (by rw [← h.len]; omega)] at hmm
      have hv := List.mem_of_getElem? hi
      have hm4 := List.mem_of_getElem? hmm
      have e : mm = m := by simpa using hm4
      subst e
      exact mk (hm v hv) (ho v hv)
  · intro v hv
    rcases List.mem_append.1 hv with hv | hv
    · exact off' v (dlt v hv) (sep.ds v hv)
    · exact off' v (mlt (hm v hv)) (ho v hv)
  · refine ((((f3.mono ?_).trans2 k4 (fun _ _ e => e.elim)).trans2 (grown_frm g4) ?_).setCell (Or.inl rfl) _ |>.trans2 k6 (fun _ _ e => e.elim) |>.trans2 (grown_frm g6) ?_).setCell (Or.inl rfl) _
    · exact fun x _ e => Or.inr (Or.inr (Or.inr e))
    · exact fun x _ e => Or.inr (Or.inl e)
    · exact fun x _ e => Or.inr (Or.inr (Or.inl e))
  · have hsz : w.heap.size ≤ w3.heap.size := s3
    rintro x (e | e | e | e | e | ⟨v, hv, e⟩ | e)
    · exact Or.inl (Or.inl e)
    · exact Or.inl (Or.inr (Or.inl e))
    · rcases n4 with h' | ⟨h', -⟩
      · exact Or.inl (Or.inr (Or.inr (Or.inl (by rw [← h', e]))))
      · rw [h'] at e; injection e with e; exact Or.inr (Or.inr (by omega))
    · exact Or.inl (Or.inr (Or.inr (Or.inr (Or.inl e))))
    · rcases n6 with h' | ⟨h', -⟩
      · exact Or.inl (Or.inr (Or.inr (Or.inr (Or.inr (Or.inl (by rw [← h', e]))))))
      · rw [h'] at e; injection e with e; exact Or.inr (Or.inr (by omega))
    · rcases List.mem_append.1 hv with hv | hv
      · exact Or.inl (Or.inr (Or.inr (Or.inr (Or.inr (Or.inr (Or.inl ⟨v, hv, e⟩))))))
      · exact Or.inr (hf v hv x e)
    · exact Or.inl (Or.inr (Or.inr (Or.inr (Or.inr (Or.inr (Or.inr e))))))

set_option maxRecDepth 100000 in
set_option maxHeartbeats 3200000 in
theorem own_any (wb : Nat) (vp vd vl vm : Value) (ds : List Value) (ms : List Int) (ls : List Value) (l : Value) (n : Nat) (xs : List Value) (w : World) (h : Lists w wb vp vd vl vm ds ms ls) (sep : LSep wb vp vd vl vm ds ls)
    (hl : w.ownsRow 0 100 3 l n xs) (hlf : ∀ x, l.ownBlock = some x → ¬ LF wb vp vd vl vm ds ls x) (hn : n ≤ 2000) (hd : ds.length ≤ 5800000000000) (hp : ∀ x, vp.ownBlock = some x → x < w.heap.size) :
    Calls Tryz.prog 76 #[.pointer (some ⟨wb, 0, none⟩), l] w fun r w' => r = .returned (.tuple #[]) ∧ OwnEnd w wb vp vd vl vm ds ms ls l w' := by
  obtain ⟨iD, hiD, hzD0, hzD1, hzD2⟩ := info_parts infoD
  obtain ⟨iS, hiS, hzS0, hzS1, hzS2⟩ := info_parts infoSD
  obtain ⟨iI, hiI, hzI0, hzI1, hzI2⟩ := info_parts infoInt
  obtain ⟨am, cm, hvm⟩ := row_slice h.marks
  obtain ⟨al, cl, hvl⟩ := row_slice hl
  have c3 : w.cell? ⟨wb, 3, none⟩ = some vm := by rw [h.head.cell]; rfl
  have hlen := h.len
  have lwb := h.head.lt
  have H := hide (And.intro h (And.intro sep (And.intro hl hlf)))
  have HP := hide hp
  clear hp
  subst hvl
  rw [hvm] at c3
  have HVM := hide hvm
  clear h sep hl hlf hvm
  have hml : ms.length ≤ 5800000000000 := by omega
  clear hlen
  generalize hM : -1 - (ms.length : Int) = m at *
  go_enter Tryz.func76, Tryz.ntmps76
  go_wp2_with fail
  have HM := hide hM
  clear hM
  go_loopg [6] n (fun q i wr => ∃ j : Nat, q + j = n ∧ i = I j ∧ Hid (OwnSt w wr (.slice al n cl) n m xs j))
  case atStart => exact ⟨0, by omega, rfl, ⟨by simpa using row_frm (H.out).2.2.1 (show Keep _ _ from (Frm.refl _ _).alloc _) (fun _ _ e => e), (Frm.refl _ _).alloc _, Blk.new _ _ _⟩⟩
  case round =>
    obtain ⟨j, hq, rfl, hst⟩ := hrel
    have hs := hst.out
    have b0 : wr.cell? ⟨w.heap.size, 0, none⟩ = some (I m) := by rw [hs.box.cell]; rfl
    have b1 : wr.cell? ⟨w.heap.size, 1, none⟩ = some (I m) := by rw [hs.box.cell]; rfl
    have b2 : wr.cell? ⟨w.heap.size, 2, none⟩ = some (I m) := by rw [hs.box.cell]; rfl
    have lbx := hs.box.lt
    by_cases hj : j < n
    · obtain ⟨g, cap, hv, hcells, hfz, -⟩ := row_cells hs.row (by omega)
      simp at hv
      obtain ⟨rfl, rfl⟩ := hv
      obtain ⟨y0, d0⟩ := hcells (j * 3) (by omega)
      obtain ⟨y1, d1⟩ := hcells (j * 3 + 1) (by omega)
      obtain ⟨y2, d2⟩ := hcells (j * 3 + 2) (by omega)
      have f0 := hfz (j * 3)
      have f1 := hfz (j * 3 + 1)
      have f2 := hfz (j * 3 + 2)
      have hgl := ((H.out).2.2.1.lt g rfl).2
      have nx := hs.set hgl (H.out).2.2.1.1 hj
      have NX := hide (And.intro nx hq)
      clear hcells hfz hst hs nx hq
      go_wp2_with fail
      go_roundg (gk - 1)
      case measure => have := (NX.out).2; omega
      case rel => exact ⟨j + 1, by have := (NX.out).2; omega, by simp, (NX.out).1⟩
    · have hje : j = n := by omega
      have HO := hide (And.intro hs hje)
      clear hst hs hq hje
      have hr0 : wr.ownsRow 0 100 3 (.slice al n cl) n (List.replicate (n * 3) (I m)) := by
        have := (HO.out).1.row
        rw [(HO.out).2, List.drop_eq_nil_of_le (by have := (H.out).2.2.1.1; omega)] at this
        simpa using this
      have HR0 := hide hr0
      clear hr0
      go_upto_region 7 with (at_builtin; refine wpList_append_mark _ rfl (.tmp 30) (.tmp 32) 35 rfl 100 iD (.agg #[I 0, I 0, I 0]) 3 24 Tryz.underlying35 hiD hzD0 hzD1 hzD2 rfl (by decide) (.slice al n cl) n _ rfl (row_frm HR0.out (show Keep _ _ from (Frm.refl _ _).alloc _) (fun _ _ e => e)) ⟨wr.heap.size, 0, none⟩ 1 1 (I m) rfl rfl (rep_cells _ [I m, I m, I m] _ _ (by simp) (I m) (by simp) _ rfl) (by unfold maxLen; omega) (by omega) ?_; intro v1 w1 hw1 hg1 hn1 hm1; have bx1 : Blk w1 w.heap.size #[I m, I m, I m] 100 := ((show Keep _ _ from (Frm.refl _ _).alloc _).blk (HO.out).1.box).frm (grown_frm hg1) (fun e => by have := ((H.out).2.2.1.lt _ e).2; omega); have x10 : w1.cell? ⟨w.heap.size, 0, none⟩ = some (I m) := (by { rw [bx1.cell]; rfl }); have x11 : w1.cell? ⟨w.heap.size, 1, none⟩ = some (I m) := (by { rw [bx1.cell]; rfl }); have x12 : w1.cell? ⟨w.heap.size, 2, none⟩ = some (I m) := (by { rw [bx1.cell]; rfl }); have lx1 := bx1.lt; have ONE := hide (And.intro hw1 (And.intro hg1 (And.intro hn1 (And.intro hm1 bx1)))); clear hw1 hg1 hn1 hm1 bx1)
      have r1 : w1.ownsRow 0 100 3 (.slice al n cl) n (List.replicate (n * 3) (I m)) := (ONE.out).2.2.2.1 _ _ (row_frm HR0.out (show Keep _ _ from (Frm.refl _ _).alloc _) (fun _ _ e => e))
      have R1 := hide r1
      clear r1
      go_upto_region 8 with (at_builtin; refine wpList_append_mark _ rfl (.tmp 34) (.tmp 37) 35 rfl 100 iD (.agg #[I 0, I 0, I 0]) 3 24 Tryz.underlying35 hiD hzD0 hzD1 hzD2 rfl (by decide) (.slice al n cl) n _ rfl (row_frm R1.out (show Keep _ _ from (Frm.refl _ _).alloc _) (fun _ _ e => e)) ⟨w1.heap.size, 0, none⟩ 2 2 (I m) rfl rfl (rep_cells _ [I m, I m, I m, I m, I m, I m] _ _ (by simp) (I m) (by simp) _ rfl) (by unfold maxLen; omega) (by omega) ?_; intro v2 w2 hw2 hg2 hn2 hm2; have bx2 : Blk w2 w.heap.size #[I m, I m, I m] 100 := ((show Keep _ _ from (Frm.refl _ _).alloc _).blk (ONE.out).2.2.2.2).frm (grown_frm hg2) (fun e => by have := ((H.out).2.2.1.lt _ e).2; omega); have x20 : w2.cell? ⟨w.heap.size, 0, none⟩ = some (I m) := (by { rw [bx2.cell]; rfl }); have x21 : w2.cell? ⟨w.heap.size, 1, none⟩ = some (I m) := (by { rw [bx2.cell]; rfl }); have x22 : w2.cell? ⟨w.heap.size, 2, none⟩ = some (I m) := (by { rw [bx2.cell]; rfl }); have lx2 := bx2.lt; have TWO := hide (And.intro hw2 (And.intro hg2 (And.intro hn2 (And.intro hm2 bx2)))); clear hw2 hg2 hn2 hm2 bx2)
      have r2 : w2.ownsRow 0 100 3 (.slice al n cl) n (List.replicate (n * 3) (I m)) := (TWO.out).2.2.2.1 _ _ (row_frm R1.out (show Keep _ _ from (Frm.refl _ _).alloc _) (fun _ _ e => e))
      have R2 := hide r2
      clear r2
      go_upto_region 9 with (at_builtin; refine wpList_append_mark _ rfl (.tmp 39) (.tmp 43) 35 rfl 100 iD (.agg #[I 0, I 0, I 0]) 3 24 Tryz.underlying35 hiD hzD0 hzD1 hzD2 rfl (by decide) (.slice al n cl) n _ rfl (row_frm R2.out (show Keep _ _ from (Frm.refl _ _).alloc _) (fun _ _ e => e)) ⟨w2.heap.size, 0, none⟩ 3 3 (I m) rfl rfl (rep_cells _ [I m, I m, I m, I m, I m, I m, I m, I m, I m] _ _ (by simp) (I m) (by simp) _ rfl) (by unfold maxLen; omega) (by omega) ?_; intro v3 w3 hw3 hg3 hn3 hm3; have bx3 : Blk w3 w.heap.size #[I m, I m, I m] 100 := ((show Keep _ _ from (Frm.refl _ _).alloc _).blk (TWO.out).2.2.2.2).frm (grown_frm hg3) (fun e => by have := ((H.out).2.2.1.lt _ e).2; omega); have x30 : w3.cell? ⟨w.heap.size, 0, none⟩ = some (I m) := (by { rw [bx3.cell]; rfl }); have x31 : w3.cell? ⟨w.heap.size, 1, none⟩ = some (I m) := (by { rw [bx3.cell]; rfl }); have x32 : w3.cell? ⟨w.heap.size, 2, none⟩ = some (I m) := (by { rw [bx3.cell]; rfl }); have lx3 := bx3.lt; have THREE := hide (And.intro hw3 (And.intro hg3 (And.intro hn3 (And.intro hm3 bx3)))); clear hw3 hg3 hn3 hm3 bx3)
      have r3 : w3.ownsRow 0 100 3 (.slice al n cl) n (List.replicate (n * 3) (I m)) := (THREE.out).2.2.2.1 _ _ (row_frm R2.out (show Keep _ _ from (Frm.refl _ _).alloc _) (fun _ _ e => e))
      have f3 : Frm (fun x => (Value.slice al n cl).ownBlock = some x) w w3 :=
        ((((((HO.out).1.frm.trans2 (show Keep _ _ from (Frm.refl _ _).alloc _) (fun _ _ e => e.elim)).trans (grown_frm (ONE.out).2.1)).trans2 (show Keep _ _ from (Frm.refl _ _).alloc _) (fun _ _ e => e.elim)).trans (grown_frm (TWO.out).2.1)).trans2 (show Keep _ _ from (Frm.refl _ _).alloc _) (fun _ _ e => e.elim)).trans (grown_frm (THREE.out).2.1)
      have kk : ∀ {a b : World} (o : Obj), a = b.alloc o → Keep b a := fun o e => e ▸ (Frm.refl _ _).alloc o
      have q1 : w3.ownsRow 0 100 3 v1 (n + 1) (List.replicate ((n + 1) * 3) (I m)) := by
        have := (ONE.out).1
        rw [List.replicate_append_replicate, show n * 3 + 1 * 3 = (n + 1) * 3 from by omega] at this
        exact (THREE.out).2.2.2.1 _ _ (row_frm ((TWO.out).2.2.2.1 _ _ (row_frm this (show Keep _ _ from (Frm.refl _ _).alloc _) (fun _ _ e => e))) (show Keep _ _ from (Frm.refl _ _).alloc _) (fun _ _ e => e))
      have q2 : w3.ownsRow 0 100 3 v2 (n + 2) (List.replicate ((n + 2) * 3) (I m)) := by
        have := (TWO.out).1
        rw [List.replicate_append_replicate, show n * 3 + 2 * 3 = (n + 2) * 3 from by omega] at this
        exact (THREE.out).2.2.2.1 _ _ (row_frm this (show Keep _ _ from (Frm.refl _ _).alloc _) (fun _ _ e => e))
      have q3 : w3.ownsRow 0 100 3 v3 (n + 3) (List.replicate ((n + 3) * 3) (I m)) := by
        have := (THREE.out).1
        rw [List.replicate_append_replicate, show n * 3 + 3 * 3 = (n + 3) * 3 from by omega] at this
        exact this
      have hL3 : Lists w3 wb vp vd vl vm ds ms ls := (H.out).1.frm f3 (fun x hx e => (H.out).2.2.2 x e hx)
      have hfr : ∀ v ∈ [.slice al n cl, v1, v2, v3], ∀ x, v.ownBlock = some x → (Value.slice al n cl).ownBlock = some x ∨ w.heap.size ≤ x := by
        have z0 := (HO.out).1.frm.size
        have z1 := (ONE.out).2.1.size
        have z2 := (TWO.out).2.1.size
        simp at z1 z2
        intro v hv x hx
        simp only [List.mem_cons, List.not_mem_nil, or_false] at hv
        rcases hv with rfl | rfl | rfl | rfl
        · exact Or.inl hx
        · rcases (ONE.out).2.2.1 with e | ⟨e, -⟩
          · exact Or.inl (by rw [← e, hx])
          · rw [e] at hx; injection hx with hx; simp at hx; exact Or.inr (by omega)
        · rcases (TWO.out).2.2.1 with e | ⟨e, -⟩
          · exact Or.inl (by rw [← e, hx])
          · rw [e] at hx; injection hx with hx; simp at hx; exact Or.inr (by omega)
        · rcases (THREE.out).2.2.1 with e | ⟨e, -⟩
          · exact Or.inl (by rw [← e, hx])
          · rw [e] at hx; injection hx with hx; simp at hx; exact Or.inr (by omega)
      have hLlt : ∀ x, LF wb vp vd vl vm ds ls x → x < w.heap.size := (H.out).1.lt HP.out
      have hoff : ∀ v ∈ [.slice al n cl, v1, v2, v3], Off wb vp vd vl vm v := by
        intro v hv
        have hx : ∀ x, v.ownBlock = some x → ¬ LF wb vp vd vl vm ds ls x := fun x hx hLF => by
          rcases hfr v hv x hx with e | e
          · exact (H.out).2.2.2 x e hLF
          · have := hLlt x hLF; omega
        exact ⟨fun e => hx wb e (Or.inl rfl), fun x h1 h2 => hx x h1 (Or.inr (Or.inl h2)), fun x h1 h2 => hx x h1 (Or.inr (Or.inr (Or.inl h2))), fun x h1 h2 => hx x h1 (Or.inr (Or.inr (Or.inr (Or.inl h2)))), fun x h1 h2 => hx x h1 (Or.inr (Or.inr (Or.inr (Or.inr (Or.inl h2)))))⟩
      have hmk : ∀ v ∈ [.slice al n cl, v1, v2, v3], Marked w3 100 v m := by
        intro v hv
        simp only [List.mem_cons, List.not_mem_nil, or_false] at hv
        rcases hv with rfl | rfl | rfl | rfl
        · exact ⟨n, by omega, by rw [flat_mark]; exact r3⟩
        · exact ⟨n + 1, by omega, by rw [flat_mark]; exact q1⟩
        · exact ⟨n + 2, by omega, by rw [flat_mark]; exact q2⟩
        · exact ⟨n + 3, by omega, by rw [flat_mark]; exact q3⟩
      obtain ⟨a1, p1, e1⟩ := row_slice q1
      obtain ⟨a2, p2, e2⟩ := row_slice q2
      obtain ⟨a3, p3, e3⟩ := row_slice q3
      subst e1 e2 e3
      obtain ⟨ad, cd, hvd⟩ := row_slice hL3.doses
      have y1 : w3.cell? ⟨wb, 1, none⟩ = some vd := by rw [hL3.head.cell]; rfl
      have g1 := hL3.head.frozen 1
      have y3 : w3.cell? ⟨wb, 3, none⟩ = some vm := by rw [hL3.head.cell]; rfl
      rw [hvd] at y1
      have lw3 := hL3.head.lt
      have FIN := hide (And.intro hL3 (And.intro f3 (And.intro hmk (And.intro hoff hfr))))
      have HVD := hide hvd
      clear r3 f3 q1 q2 q3 hL3 hfr hoff hmk hLlt kk hvd
      go_upto_region 10 with (at_builtin; refine wpList_append_row _ rfl (.tmp 49) (.tmp 54) 53 rfl 35 iS (.slice none 0 0) 1 24 Tryz.underlying53 hiS hzS0 hzS1 hzS2 rfl (by decide) (.slice ad ds.length cd) ds.length ds rfl (by rw [← HVD.out]; exact row_frm (FIN.out).1.doses (show Keep _ _ from (Frm.refl _ _).alloc _) (fun _ _ e => e)) ⟨w3.heap.size, 0, none⟩ 4 4 [.slice al n cl, .slice a1 (n + 1) p1, .slice a2 (n + 2) p2, .slice a3 (n + 3) p3] rfl rfl (cell_news _ [.slice al n cl, .slice a1 (n + 1) p1, .slice a2 (n + 2) p2, .slice a3 (n + 3) p3] _ _ (by simp)) (by intro u hu; simp at hu; rcases hu with rfl | rfl | rfl | rfl <;> rfl) (by unfold maxLen; omega) (by omega) ?_; intro v4 w4 hr4 hg4 hn4; rw [← HVD.out] at hg4 hn4; obtain ⟨a4, p4, hv4⟩ := row_slice hr4; subst hv4; have bb4 := ((show Keep _ _ from (Frm.refl _ _).alloc _).blk (FIN.out).1.head).frm (grown_frm hg4) (H.out).2.1.bd; have c41 : w4.cell? ⟨wb, 1, none⟩ = some (.slice ad ds.length cd) := (by { rw [bb4.cell, ← HVD.out]; rfl }); have f41 := bb4.frozen 1; have c43 : w4.cell? ⟨wb, 3, none⟩ = some (.slice am ms.length cm) := (by { rw [bb4.cell, ← HVM.out]; rfl }); have f43 := bb4.frozen 3; have lw4 := bb4.lt; have FOUR := hide (And.intro hr4 (And.intro hg4 (And.intro hn4 bb4))); clear hr4 hg4 hn4 bb4)
      go_wp2_with (at_builtin; refine wpList_append_row _ rfl (.tmp 62) (.tmp 67) 55 rfl 3 iI (I 0) 1 8 Tryz.underlying55 hiI hzI0 hzI1 hzI2 rfl (by decide) (.slice am ms.length cm) ms.length (ms.map I) rfl (by rw [← HVM.out]; exact row_frm (grow_off (k := 1) (wb := wb) (show Keep _ _ from (Frm.refl _ _).alloc _) (FOUR.out).2.1 (FIN.out).1.marks (H.out).2.1.dm.symm (H.out).2.1.bm _) (show Keep _ _ from (Frm.refl _ _).alloc _) (fun _ _ e => e)) ⟨w4.heap.size, 0, none⟩ 4 4 [I m, I m, I m, I m] rfl rfl (cell_news _ [I m, I m, I m, I m] _ _ (by simp)) (by intro u hu; simp at hu; subst hu; rfl) (by unfold maxLen; omega) (by omega) ?_; intro v6 w6 hr6 hg6 hn6; rw [← HVM.out] at hg6 hn6; obtain ⟨a6, p6, hv6⟩ := row_slice hr6; subst hv6; have bb6 := ((show Keep _ _ from (Frm.refl _ _).alloc _).blk ((FOUR.out).2.2.2.set 1 _)).frm (grown_frm hg6) (H.out).2.1.bm; have c63 : w6.cell? ⟨wb, 3, none⟩ = some (.slice am ms.length cm) := (by { rw [bb6.cell, ← HVM.out]; rfl }); have f63 := bb6.frozen 3; have SIX := hide (And.intro hr6 (And.intro hg6 hn6)); clear hr6 hg6 hn6 bb6)
      go_end0
      refine ⟨rfl, own_fin HP.out (FIN.out).1 (H.out).2.1 (FIN.out).2.1 (FIN.out).2.2.1 (FIN.out).2.2.2.1 (FIN.out).2.2.2.2 (show Keep _ _ from (Frm.refl _ _).alloc _) (FOUR.out).2.1 (FOUR.out).1 (FOUR.out).2.2.1 (show Keep _ _ from (Frm.refl _ _).alloc _) (SIX.out).2.1 (SIX.out).1 (SIX.out).2.2⟩

end Go.Proofs.YtpilmkipbbengaaGreatDoor
