/- slices.Insert at the orders' list. -/
import Derived.Test.YtahiolfelcmikaaGreatBase
import Derived.Lib.Overlaps
import Derived.Lib.AppendZerosOnto
import Derived.Laws.IdiomCopy
import Derived.Laws.NewBlocks
import Derived.Deep.RegionLaw
import Derived.LaidEqlPtr
import Derived.Lib.SliceRun
import Derived.Deep.LoopGhost
import Derived.Test.YtahiolfelcmikaaGreatDwin
namespace Go.Proofs.YtahiolfelcmikaaGreat
open Go.RowKit

theorem infoPO : (Tryz.prog.info? 110).map (fun i => (i.zero, i.size, i.bytes)) = some (some (.pointer none), 1, 8) := by kernel_rfl

/-- copy as a step of a walk, where its run is known -/
theorem wpList_copy {P : Program} (w : World) {ops : Array Oper} {rest : List Oper} {o : Oper} {a : Act} {Q : Exit → Act → World → Prop} (hgd : o.guard = none) (d s : Operand) (t t' : TypeId)
    (ho : o.op = .call { callee := .builtin .copy, args := #[d, s], argTypes := #[t, t'] }) (v u : Value) (hd : a.eval d = v) (hs : a.eval s = u) {v' : Value} {w' : World}
    (hr : (Builtin.copy_ #[t, t'] o.type #[v, u]).run P w = .ok v' w') (h : wpList P ops Q rest (a.put o.dst v') w') : wpList P ops Q (o :: rest) a w :=
  wpList_plain hgd fun _ hK => by
    unfold Oper.wp execOp
    simp only [ho, resolve, invoke, builtin, Sem.run_bind, Sem.run_pure, Result.andThen_ok, List.map_toArray, List.map_cons, List.map_nil, hd, hs, hr]
    exact hK _ _ h

/-- append, likewise -/
theorem wpList_app {P : Program} (w : World) {ops : Array Oper} {rest : List Oper} {o : Oper} {a : Act} {Q : Exit → Act → World → Prop} (hgd : o.guard = none) (d s : Operand) (t t' : TypeId)
    (ho : o.op = .call { callee := .builtin .append, args := #[d, s], argTypes := #[t, t'] }) (v u : Value) (hd : a.eval d = v) (hs : a.eval s = u) {v' : Value} {w' : World}
    (hr : (Builtin.append_ #[t, t'] o.type #[v, u]).run P w = .ok v' w') (h : wpList P ops Q rest (a.put o.dst v') w') : wpList P ops Q (o :: rest) a w :=
  wpList_plain hgd fun _ hK => by
    unfold Oper.wp execOp
    simp only [ho, resolve, invoke, builtin, Sem.run_bind, Sem.run_pure, Result.andThen_ok, List.map_toArray, List.map_cons, List.map_nil, hd, hs, hr]
    exact hK _ _ h

/-- .. and as a step of a region that draws -/
theorem step_copy {P : Program} {ops : Array Oper} {o : Oper} {a : Act} {w : World} {K : Act → World → Prop} {Q : Exit → Act → World → Prop} {E : Prop} (hg : o.guard = none) (d x : Operand) (dT sT : TypeId)
    (hop : o.op = Op.call { callee := Callee.builtin Builtin.copy, args := #[d, x], argTypes := #[dT, sT] }) (v u : Value) (hd : a.eval d = v) (hx : a.eval x = u) {v' : Value} {w' : World}
    (hr : (Builtin.copy_ #[dT, sT] o.type #[v, u]).run P w = .ok v' w') (hK : K (a.put o.dst v') w') : if Region.wanted o (yielded ops a.tmps) = true then Oper.wp P o a w K Q else E := by
  have hw : Region.wanted o (yielded ops a.tmps) = true := by simp [Region.wanted, hg]
  rw [if_pos hw]
  unfold Oper.wp
  simp [execOp, hop, resolve, invoke, builtin, hd, hx, hr]
  exact hK

theorem Blk.setCells {T : TypeId} (g : Nat) : ∀ (vs : List Value) (o : Nat) (w : World) (cur : Array Value), Blk w g cur T → ∃ cur', Blk (w.setCells g o vs) g cur' T ∧ cur'.size = cur.size ∧
    ∀ k, k < cur.size → cur'[k]? = if o ≤ k ∧ k < o + vs.length then vs[k - o]? else cur[k]? := by
  intro vs
  induction vs with
  | nil =>
    intro o w cur h
    refine ⟨cur, h, rfl, fun k _ => ?_⟩
    rw [if_neg (by intro e; simp at e; omega)]
  | cons v vs ih =>
    intro o w cur h
    obtain ⟨cur', h1, h2, h3⟩ := ih (o + 1) (w.setCell ⟨g, o, none⟩ v) (cur.setIfInBounds o v) (h.set o v)
    refine ⟨cur', h1, by rw [h2]; simp, fun k hk => ?_⟩
    rw [h3 k (by simpa using hk), Array.getElem?_setIfInBounds]
    by_cases q1 : o + 1 ≤ k ∧ k < o + 1 + vs.length
    · rw [if_pos q1, if_pos (by simp; omega)]
      have : k - o = k - (o + 1) + 1 := by omega
      rw [this]; simp
    · rw [if_neg q1]
      by_cases q2 : o = k
      · subst q2
        simp [hk]
      · rw [if_neg q2, if_neg (by simp; omega)]

theorem Frm.setCells {S : Nat → Prop} {a : World} {g : Nat} (hg : S g) : ∀ (vs : List Value) (o : Nat) (b : World), Frm S a b → Frm S a (b.setCells g o vs) := by
  intro vs
  induction vs with
  | nil => intro o b h; exact h
  | cons v vs ih => intro o b h; exact ih (o + 1) _ (h.setCell (p := ⟨g, o, none⟩) hg v)

theorem Blk.setCellsOther {T : TypeId} {b g : Nat} (hb : b ≠ g) : ∀ (vs : List Value) (o : Nat) (w : World) (cur : Array Value), Blk w b cur T → Blk (w.setCells g o vs) b cur T := by
  intro vs
  induction vs with
  | nil => intro o w cur h; exact h
  | cons v vs ih => intro o w cur h; exact ih (o + 1) _ cur (h.other (p := ⟨g, o, none⟩) hb v)

def ins (xs : List Value) (i : Nat) (p : Value) : List Value := xs.take i ++ p :: xs.drop i

theorem ins_len (xs : List Value) (i : Nat) (p : Value) (h : i ≤ xs.length) : (ins xs i p).length = xs.length + 1 := by simp [ins]; omega

theorem ins_get (xs : List Value) (i : Nat) (p : Value) (h : i ≤ xs.length) (k : Nat) : (ins xs i p)[k]? = if k < i then xs[k]? else if k = i then some p else xs[k - 1]? := by
  unfold ins
  rw [List.getElem?_append]
  have hl : (xs.take i).length = i := by simp; omega
  rw [hl]
  by_cases h1 : k < i
  · rw [if_pos h1, if_pos h1, List.getElem?_take_of_lt h1]
  · rw [if_neg h1, if_neg h1]
    by_cases h2 : k = i
    · subst h2; simp
    · rw [if_neg h2]
      have : k - i = (k - i - 1) + 1 := by omega
      rw [this, List.getElem?_cons_succ, List.getElem?_drop]
      congr 1; omega

/-- a row out of a block's cells -/
theorem row_mk {w : World} {g cap n : Nat} {cur : Array Value} {T : TypeId} {xs : List Value} (h : Blk w g cur T) (h1 : n ≤ cap) (h2 : cap ≤ maxLen) (h3 : cur.size = cap) (h4 : xs.length = n) (h5 : ∀ k, k < n → cur[k]? = xs[k]?) : w.ownsRow 0 T 1 (.slice (some ⟨g, 0, none⟩) n cap) n xs := by
  refine ⟨by omega, Or.inr ⟨g, cap, cur, rfl, Nat.zero_le _, h, h1, h2, by omega, ?_⟩⟩
  rw [Nat.mul_one]
  apply List.ext_getElem?
  intro k
  by_cases hk : k < n
  · rw [List.getElem?_take_of_lt hk, ← h5 k hk]; simp
  · rw [List.getElem?_eq_none (by simp; omega), List.getElem?_eq_none (by omega)]

/-- what Insert leaves -/
def InsEnd (w : World) (v : Value) (n : Nat) (xs : List Value) (i : Nat) (p : Value) (e : Ending) (w' : World) : Prop :=
  ∃ v', e = .returned v' ∧ w'.ownsRow 0 110 1 v' (n + 1) (ins xs i p) ∧ (v'.ownBlock = v.ownBlock ∨ ∃ g, v'.ownBlock = some g ∧ w.heap.size ≤ g) ∧ Frm (fun x => v.ownBlock = some x) w w'

set_option maxRecDepth 100000 in
set_option maxHeartbeats 1600000 in
theorem insert_end (v : Value) (n : Nat) (xs : List Value) (vb : Nat) (p : Value) (w : World) (hr : w.ownsRow 0 110 1 v n xs) (hp1 : p.oneCell' = true) (hn : n ≤ 100000) (hvb : Blk w vb #[p] 110) :
    Calls Tryz.prog 94 #[v, I n, .slice (some ⟨vb, 0, none⟩) 1 1] w fun e w' => InsEnd w v n xs n p e w' := by
  obtain ⟨iO, hiO, hzO0, hzO1, hzO2⟩ := info_parts infoPO
  obtain ⟨a, cap, rfl⟩ := row_slice hr
  have hcap : n ≤ cap := by
    rcases hr.2 with ⟨e, -⟩ | ⟨g, c, cur, e, -, -, h3, -⟩
    · injection e with e1 e2 e3; omega
    · injection e with e1 e2 e3; omega
  have hxl : xs.length = n := by have := hr.1; omega
  have hcell : ∀ j u, [p][j]? = some u → w.cell? ((⟨vb, 0, none⟩ : Addr).add j) = some u := by
    intro j u hj
    rw [Addr.add_lit, hvb.cell]
    simpa using hj
  have H := hide (And.intro hr hcell)
  clear hr hcell hvb
  have e1 : ins xs n p = xs ++ [p] := by simp [ins, ← hxl]
  have hnone : a = none → n = 0 := by
    intro e
    rcases (H.out).1.2 with ⟨e', h0⟩ | ⟨g, c, cur, e', _⟩
    · exact h0
    · rw [e] at e'; injection e' with e1; cases e1
  have FI : Hid (∀ v' w', w'.ownsRow 0 110 1 v' (n + 1) (xs ++ [p]) → w.grownBy w' (Value.slice a n cap).ownBlock → (v'.ownBlock = (Value.slice a n cap).ownBlock ∨ (v'.ownBlock = some w.heap.size ∧ w.grownBy w' none)) → InsEnd w (.slice a n cap) n xs n p (.returned v') w') := by
    intro v' w' h1 h2 h3
    refine ⟨v', rfl, by rw [e1]; exact h1, ?_, grown_frm h2⟩
    rcases h3 with e | ⟨e, -⟩
    · exact Or.inl e
    · exact Or.inr ⟨_, e, Nat.le_refl _⟩
  clear e1 hxl
  go_enter Tryz.func94, Tryz.ntmps94
  go_wp2_with (at_builtin; refine wpList_append_row _ rfl _ _ 92 rfl 110 iO (.pointer none) 1 8 Tryz.underlying92 hiO hzO0 hzO1 hzO2 rfl (by decide) _ _ _ rfl (H.out).1 ⟨vb, 0, none⟩ 1 1 [p] rfl rfl (H.out).2 (by intro u hu; simp at hu; subst hu; exact hp1) (by unfold maxLen; omega) (by omega) ?_; intro v' w' hown hgr hnew; have FF := hide (FI.out v' w' hown hgr hnew); clear hown hgr hnew)
  all_goals go_ret
  all_goals first | exact FF.out | (subst h; exact FF.out)

theorem Blk.shape {w : World} {b : Nat} {c : Array Value} {T : TypeId} (h : Blk w b c T) : w.shape? b = some (T, c.size) := by
  unfold Blk at h
  simp [World.shape?, h]

theorem isSome_setCells' {T : TypeId} {g : Nat} {w : World} {cur : Array Value} (h : Blk w g cur T) {k : Nat} (hk : k < cur.size) : (w.cell? ⟨g, k, none⟩).isSome = true := by
  rw [h.cell, Array.getElem?_eq_getElem hk]; rfl

theorem sizeO (w : World) : (Go.sizeOf 110).run Tryz.prog w = .ok 1 w := by kernel_rfl

set_option maxRecDepth 100000 in
set_option maxHeartbeats 4000000 in
theorem insert_shift (g n cap i vb : Nat) (xs : List Value) (cur : Array Value) (p : Value) (w : World) (hg : Blk w g cur 110) (hcs : cur.size = cap) (hcm : cap ≤ maxLen) (hxl : xs.length = n) (hxs : ∀ k, k < n → cur[k]? = xs[k]?) (hx1 : ∀ u ∈ xs, u.oneCell' = true) (hp1 : p.oneCell' = true) (hi : i < n) (hroom : n + 1 ≤ cap) (hn : n ≤ 100000)
    (hvb : Blk w vb #[p] 110) (hne : vb ≠ g) :
    Calls Tryz.prog 94 #[.slice (some ⟨g, 0, none⟩) n cap, I i, .slice (some ⟨vb, 0, none⟩) 1 1] w fun e w' => InsEnd w (.slice (some ⟨g, 0, none⟩) n cap) n xs i p e w' := by
  have hsz : (Tryz.prog.info? 110).map (·.size) = some 1 := by
    obtain ⟨iO, hiO, h0, h1, h2⟩ := info_parts infoPO
    rw [hiO]; simp [h1]
  have hfe : w.frozen? ⟨vb, 1, none⟩ = false := hvb.frozen 1
  have hov : ∀ lb cb, (callFunc 97 #[.slice (some ⟨vb, 0, none⟩) 1 1, .slice (some ⟨g, i + 1, none⟩) lb cb]).run Tryz.prog w = .ok (.value (.bool false)) w := fun lb cb => by
    rw [run_callFunc_extern Tryz.func97 (by kernel_rfl) (by kernel_rfl) (by kernel_rfl) (e := Extern.SlicesOverlaps.overlaps #[92, 92] #[4]) (by kernel_rfl),
      Lib.run_overlaps_apart w 92 4 110 Tryz.underlying92 1 sizeO ⟨vb, 0, none⟩ ⟨g, i + 1, none⟩ 1 1 lb cb hne 110 110 1 cap hvb.shape (by rw [hg.shape, hcs]) (by omega) (hvb.frozen 0) hfe]
    rfl
  have hdl : (xs.drop i).length = n - i := by rw [List.length_drop, hxl]
  have hcp1 : ∀ ty dc sc, (Builtin.copy_ #[92, 92] ty #[.slice (some ⟨g, i + 1, none⟩) (n - i) dc, .slice (some ⟨g, i, none⟩) (n + 1 - i) sc]).run Tryz.prog w.drew = .ok (goInt (xs.drop i).length) (w.drew.setCells g (i + 1) (xs.drop i)) := fun ty dc sc =>
    run_copy_cells w.drew _ _ ty 110 g (i + 1) (n - i) dc ⟨g, i, none⟩ (n + 1 - i) sc (xs.drop i) Tryz.underlying92 hsz (by rw [hdl]; simp only [Nat.min_def]; split <;> omega)
      (fun j v hj => by
        rw [Addr.add_lit, hg.drew.cell]
        rw [List.getElem?_drop] at hj
        rw [hxs (i + j) (by have := (List.getElem?_eq_some_iff.1 hj).1; omega)]; exact hj)
      (fun j hj => isSome_setCells' hg.drew (by omega)) (fun j _ => hg.drew.frozen _) (fun v hv => hx1 v (List.mem_of_mem_drop hv))
  obtain ⟨c1, b1, s1, e1⟩ := Blk.setCells g (xs.drop i) (i + 1) w.drew cur hg.drew
  have v1 : Blk (w.drew.setCells g (i + 1) (xs.drop i)) vb #[p] 110 := Blk.setCellsOther hne _ _ _ _ hvb.drew
  have f1 : Frm (fun x => x = g) w (w.drew.setCells g (i + 1) (xs.drop i)) := Frm.setCells (S := fun x => x = g) (g := g) rfl _ _ _ ((Frm.refl (fun x => x = g) w).drew)
  generalize hW1 : w.drew.setCells g (i + 1) (xs.drop i) = W1 at *
  have hcp2 : ∀ ty dc, (Builtin.copy_ #[92, 92] ty #[.slice (some ⟨g, i, none⟩) (n + 1 - i) dc, .slice (some ⟨vb, 0, none⟩) 1 1]).run Tryz.prog W1 = .ok (goInt [p].length) (W1.setCells g i [p]) := fun ty dc =>
    run_copy_cells W1 _ _ ty 110 g i (n + 1 - i) dc ⟨vb, 0, none⟩ 1 1 [p] Tryz.underlying92 hsz (by simp only [Nat.min_def, List.length_singleton]; split <;> omega)
      (fun j v hj => by rw [Addr.add_lit, v1.cell]; simpa using hj)
      (fun j hj => isSome_setCells' b1 (by simp at hj; omega)) (fun j _ => b1.frozen _) (fun v hv => by simp at hv; subst hv; exact hp1)
  obtain ⟨c2, b2, s2, e2⟩ := Blk.setCells g [p] i W1 c1 b1
  have f2 : Frm (fun x => x = g) w (W1.setCells g i [p]) := Frm.setCells (S := fun x => x = g) (g := g) rfl _ _ _ f1
  have FI : Hid (InsEnd w (.slice (some ⟨g, 0, none⟩) n cap) n xs i p (.returned (.slice (some ⟨g, 0, none⟩) (n + 1) cap)) (W1.setCells g i [p])) := by
    refine ⟨_, rfl, row_mk b2 hroom hcm (by omega) (by rw [ins_len _ _ _ (by omega)]; omega) ?_, Or.inl rfl, f2.mono fun x _ e => by rw [e]; rfl⟩
    intro k hk
    rw [e2 k (by omega), ins_get xs i p (by omega)]
    by_cases q1 : k < i
    · rw [if_neg (by simp; omega), if_pos q1, e1 k (by omega), if_neg (by simp; omega), hxs k (by omega)]
    · by_cases q2 : k = i
      · subst q2; simp
      · rw [if_neg (by simp; omega), if_neg q1, if_neg q2, e1 k (by omega), if_pos (by rw [hdl]; omega), List.getElem?_drop]
        congr 1; omega
  have hz2 : ¬ ((i : Int) = (n : Int)) := by omega
  have hw1 : IntKind.i64.wrap ((i : Int) + 1) = (i : Int) + 1 := wrap_id _ (by omega) (by omega)
  have hb1 : (0 : Int) ≤ (i : Int) + 1 := by omega
  have hin : i ≤ n := by omega
  have htn : ((i : Int) + 1).toNat = i + 1 := by omega
  have hb2 : ¬ (cap = i + 1) := by omega
  have hb3 : (i : Int) ≤ (n : Int) + 1 := by omega
  have hb4 : ¬ (cap = i) := by omega
  have hc63 : cap ≤ 9223372036854775807 := by unfold maxLen at hcm; omega
  have HCP1 := hide hcp1
  have HCP2 := hide hcp2
  clear hcp1 hcp2 hW1 e1 e2 s1 s2 b1 b2 v1 f1 f2 hxs hx1 hg hvb hdl
  go_enter Tryz.func94, Tryz.ntmps94
  go_wp2_with (simp only [hov])
  go_region_law (refine step_copy rfl (.tmp 73) (.tmp 76) 92 92 rfl (.slice (some ⟨g, i + 1, none⟩) (n - i) (cap - (i + 1))) (.slice (some ⟨g, i, none⟩) (n + 1 - i) (cap - i)) (by simp [Act.eval, Act.put]) (by simp [Act.eval, Act.put]) (HCP1.out _ _ _) ?_)
  go_wp2_with fail
  rw [HCP2.out]
  go_wp2_with fail
  go_ret
  exact FI.out


set_option maxRecDepth 100000 in
set_option maxHeartbeats 4000000 in
theorem insert_grow (g n i vb : Nat) (xs : List Value) (cur : Array Value) (p : Value) (w : World) (hg : Blk w g cur 110) (hcs : cur.size = n) (hxl : xs.length = n) (hxs : ∀ k, k < n → cur[k]? = xs[k]?) (hx1 : ∀ u ∈ xs, u.oneCell' = true) (hp1 : p.oneCell' = true) (hi : i < n) (hn : n ≤ 100000)
    (hvb : Blk w vb #[p] 110) :
    Calls Tryz.prog 94 #[.slice (some ⟨g, 0, none⟩) n n, I i, .slice (some ⟨vb, 0, none⟩) 1 1] w fun e w' => InsEnd w (.slice (some ⟨g, 0, none⟩) n n) n xs i p e w' := by
  obtain ⟨iO, hiO, hz0, hzs, hzb⟩ := info_parts infoPO
  have hsz : (Tryz.prog.info? 110).map (·.size) = some 1 := by rw [hiO]; simp [hzs]
  have hgl := hg.lt
  have hvl := hvb.lt
  have hold : (Builtin.firstCells iO.size i (.slice (some ⟨g, 0, none⟩) i n)).run Tryz.prog w.drew = .ok (xs.take i).toArray w.drew := by
    rw [hzs]
    exact run_firstCells_some w.drew 1 i ⟨g, 0, none⟩ i n (xs.take i) (by rw [List.length_take]; omega) (fun j v hj => by
      rw [Addr.add_lit, hg.drew.cell, Nat.zero_add]
      rw [List.getElem?_take] at hj
      split at hj
      · rw [hxs j (by omega)]; exact hj
      · cases hj)
  have hik : i + (n + 1 - i) = n + 1 := by omega
  have hkk : (n : Int) + 1 - (i : Int) = ((n + 1 - i : Nat) : Int) := by omega
  have hrz : ∀ ty, (Builtin.append_ #[92, 3] ty #[.slice (some ⟨g, 0, none⟩) i n, .int .i64 ((n : Int) + 1 - (i : Int))]).run Tryz.prog w =
      .ok (.slice (some ⟨w.heap.size, 0, none⟩) (n + 1) (grownCap w (n + 1) n 110)) (w.drew.alloc (.cells ((xs.take i).toArray ++ Builtin.zeroCells (Value.pointer none).cells (n + 1 - i) ++ Builtin.zeroCells (Value.pointer none).cells (grownCap w (n + 1) n 110 - (n + 1))) 110)) := fun ty => by
    have h := Lib.run_append_grow_zeros w 92 3 ty 110 iO _ .i64 .i64 Tryz.underlying92 Tryz.underlying3 hiO hz0 (some ⟨g, 0, none⟩) i n (xs.take i) hold (n + 1 - i) (by omega) (by omega) (by omega) (by omega) (by rw [hzb]; omega) (by rw [hzb, hik]; exact growslice_fits (by omega) (by omega))
    rw [hik] at h
    rw [hkk]
    exact h
  have hGn : n + 1 ≤ grownCap w (n + 1) n 110 := grownCap_ge w _ _ _
  have hG63 : grownCap w (n + 1) n 110 ≤ maxLen := grownCap_le_maxLen w (n + 1) n 110 (by unfold maxLen; omega)
  generalize grownCap w (n + 1) n 110 = G at *
  generalize hROW : (xs.take i).toArray ++ Builtin.zeroCells (Value.pointer none).cells (n + 1 - i) ++ Builtin.zeroCells (Value.pointer none).cells (G - (n + 1)) = ROW at *
  have hRs : ROW.size = G := by
    rw [← hROW]
    simp [Builtin.zeroCells, Value.cells]
    omega
  have hRx : ∀ k, k < i → ROW[k]? = xs[k]? := by
    intro k hk
    rw [← hROW, Array.getElem?_append, if_pos (by simp; omega), Array.getElem?_append, if_pos (by simp; omega)]
    simp [List.getElem?_take_of_lt hk]
  have b1 : Blk (w.drew.alloc (.cells ROW 110)) w.heap.size ROW 110 := Blk.new w.drew ROW 110
  have v1 : Blk (w.drew.alloc (.cells ROW 110)) vb #[p] 110 := hvb.drew.alloc _
  have g1 : Blk (w.drew.alloc (.cells ROW 110)) g cur 110 := hg.drew.alloc _
  have f1 : Frm (fun x => w.heap.size ≤ x) w (w.drew.alloc (.cells ROW 110)) := ((Frm.refl _ _).drew).alloc _
  generalize hW1 : w.drew.alloc (.cells ROW 110) = W1 at *
  have hcpA : ∀ ty dc, (Builtin.copy_ #[92, 92] ty #[.slice (some ⟨w.heap.size, i, none⟩) (n + 1 - i) dc, .slice (some ⟨vb, 0, none⟩) 1 1]).run Tryz.prog W1 = .ok (goInt [p].length) (W1.setCells w.heap.size i [p]) := fun ty dc =>
    run_copy_cells W1 _ _ ty 110 w.heap.size i (n + 1 - i) dc ⟨vb, 0, none⟩ 1 1 [p] Tryz.underlying92 hsz (by simp only [Nat.min_def, List.length_singleton]; split <;> omega)
      (fun j v hj => by rw [Addr.add_lit, v1.cell]; simpa using hj)
      (fun j hj => isSome_setCells' b1 (by simp at hj; omega)) (fun j _ => b1.frozen _) (fun v hv => by simp at hv; subst hv; exact hp1)
  obtain ⟨c2, b2, s2, e2⟩ := Blk.setCells w.heap.size [p] i W1 ROW b1
  have g2 : Blk (W1.setCells w.heap.size i [p]) g cur 110 := Blk.setCellsOther (by omega) _ _ _ _ g1
  have f2 : Frm (fun x => w.heap.size ≤ x) w (W1.setCells w.heap.size i [p]) := Frm.setCells (S := fun x => w.heap.size ≤ x) (g := w.heap.size) (Nat.le_refl _) _ _ _ f1
  generalize hW2 : W1.setCells w.heap.size i [p] = W2 at *
  have hdl : (xs.drop i).length = n - i := by rw [List.length_drop, hxl]
  have hcpB : ∀ ty dc sc, (Builtin.copy_ #[92, 92] ty #[.slice (some ⟨w.heap.size, i + 1, none⟩) (n - i) dc, .slice (some ⟨g, i, none⟩) (n - i) sc]).run Tryz.prog W2.drew = .ok (goInt (xs.drop i).length) (W2.drew.setCells w.heap.size (i + 1) (xs.drop i)) := fun ty dc sc =>
    run_copy_cells W2.drew _ _ ty 110 w.heap.size (i + 1) (n - i) dc ⟨g, i, none⟩ (n - i) sc (xs.drop i) Tryz.underlying92 hsz (by rw [hdl]; simp only [Nat.min_def]; split <;> omega)
      (fun j v hj => by
        rw [Addr.add_lit, g2.drew.cell]
        rw [List.getElem?_drop] at hj
        rw [hxs (i + j) (by have := (List.getElem?_eq_some_iff.1 hj).1; omega)]; exact hj)
      (fun j hj => isSome_setCells' b2.drew (by omega)) (fun j _ => b2.drew.frozen _) (fun v hv => hx1 v (List.mem_of_mem_drop hv))
  obtain ⟨c3, b3, s3, e3⟩ := Blk.setCells w.heap.size (xs.drop i) (i + 1) W2.drew c2 b2.drew
  have f3 : Frm (fun x => w.heap.size ≤ x) w (W2.drew.setCells w.heap.size (i + 1) (xs.drop i)) := Frm.setCells (S := fun x => w.heap.size ≤ x) (g := w.heap.size) (Nat.le_refl _) _ _ _ f2.drew
  have FI : Hid (InsEnd w (.slice (some ⟨g, 0, none⟩) n n) n xs i p (.returned (.slice (some ⟨w.heap.size, 0, none⟩) (n + 1) G)) (W2.drew.setCells w.heap.size (i + 1) (xs.drop i))) := by
    refine ⟨_, rfl, row_mk b3 hGn hG63 (by omega) (by rw [ins_len _ _ _ (by omega)]; omega) ?_, Or.inr ⟨_, rfl, Nat.le_refl _⟩, f3.mono fun x hx e => absurd e (by omega)⟩
    intro k hk
    rw [e3 k (by omega), ins_get xs i p (by omega)]
    by_cases q1 : k < i
    · rw [if_neg (by omega), if_pos q1, e2 k (by omega), if_neg (by omega), hRx k q1]
    · by_cases q2 : k = i
      · subst q2
        rw [if_neg (by omega), if_neg q1, if_pos rfl, e2 k (by omega), if_pos (by simp)]
        simp
      · rw [if_pos (by rw [hdl]; omega), if_neg q1, if_neg q2, List.getElem?_drop]
        congr 1; omega
  have hz2 : ¬ ((i : Int) = (n : Int)) := by omega
  have hw1 : IntKind.i64.wrap ((i : Int) + 1) = (i : Int) + 1 := wrap_id _ (by omega) (by omega)
  have hb1 : (0 : Int) ≤ (i : Int) + 1 := by omega
  have hin : i ≤ n := by omega
  have htn : ((i : Int) + 1).toNat = i + 1 := by omega
  have hb3 : (i : Int) ≤ (n : Int) + 1 := by omega
  have hb4 : ¬ (n = i) := by omega
  have hGi : ¬ (G = i) := by omega
  have hGim : ¬ (G = i + 1) := by omega
  have hG63' : G ≤ 9223372036854775807 := by unfold maxLen at hG63; omega
  have HRZ := hide hrz
  have HCA := hide hcpA
  have HCB := hide hcpB
  clear hrz hcpA hcpB hW1 hW2 hROW e2 e3 s2 s3 b1 b2 b3 v1 g1 g2 f1 f2 f3 hxs hx1 hg hvb hdl hRs hRx hold hik hkk hG63 hGn
  go_enter Tryz.func94, Tryz.ntmps94
  go_wp2_with (at_builtin; refine wpList_app _ rfl (.tmp 34) (.tmp 39) 92 3 rfl (.slice (some ⟨g, 0, none⟩) i n) (.int .i64 ((n : Int) + 1 - (i : Int))) rfl rfl (HRZ.out _) ?_)
  rw [HCA.out]
  go_wp2_with fail
  go_region_law (refine step_copy rfl (.tmp 50) (.tmp 53) 92 92 rfl (.slice (some ⟨w.heap.size, i + 1, none⟩) (n - i) (G - (i + 1))) (.slice (some ⟨g, i, none⟩) (n - i) (n - i)) (by simp [Act.eval, Act.put]) (by simp [Act.eval, Act.put]) (HCB.out _ _ _) ?_)
  go_wp2_with fail
  go_ret
  exact FI.out

theorem insert_any (v : Value) (n : Nat) (xs : List Value) (i vb : Nat) (p : Value) (w : World) (hr : w.ownsRow 0 110 1 v n xs) (hx1 : ∀ u ∈ xs, u.oneCell' = true) (hp1 : p.oneCell' = true) (hi : i ≤ n) (hn : n ≤ 100000) (hvb : Blk w vb #[p] 110) (hne : v.ownBlock ≠ some vb) :
    Calls Tryz.prog 94 #[v, I i, .slice (some ⟨vb, 0, none⟩) 1 1] w fun e w' => InsEnd w v n xs i p e w' := by
  by_cases h : i = n
  · subst h
    exact insert_end v i xs vb p w hr hp1 hn hvb
  · have hxl : xs.length = n := by have := hr.1; omega
    rcases hr.2 with ⟨-, h0⟩ | ⟨g, cap, cur, rfl, -, h2, h3, h4, h5, h6⟩
    · omega
    · have hg : Blk w g cur 110 := h2
      have hxs : ∀ k, k < n → cur[k]? = xs[k]? := by
        intro k hk
        rw [← h6, List.getElem?_take_of_lt (by omega)]
        simp
      have hne' : vb ≠ g := fun e => hne (by rw [e]; rfl)
      by_cases hc : n + 1 ≤ cap
      · exact insert_shift g n cap i vb xs cur p w hg (by omega) h4 hxl hxs hx1 hp1 (by omega) hc hn hvb hne'
      · have hcn : cap = n := by omega
        subst hcn
        exact insert_grow g cap i vb xs cur p w hg (by omega) hxl hxs hx1 hp1 (by omega) hn hvb

end Go.Proofs.YtahiolfelcmikaaGreat

/- slices.DeleteFunc at the orders' list, of the one order that is to go. -/
namespace Go.Proofs.YtahiolfelcmikaaGreat
open Go.RowKit

theorem infoOrd : (Tryz.prog.info? 109).map (fun i => (i.zero, i.size, i.bytes)) = some (some (.agg #[I 0, I 0, I 0]), 3, 24) := by kernel_rfl

abbrev pt (b : Nat) : Value := .pointer (some ⟨b, 0, none⟩)

set_option maxRecDepth 100000 in
set_option maxHeartbeats 800000 in
theorem dropEq_same (ob box : Nat) (w : World) (hb : w.cell? ⟨box, 0, none⟩ = some (pt ob)) :
    Calls Tryz.prog 96 #[pt ob, pt box] w fun e w' => e = .returned (.bool true) ∧ w' = w := by
  have eq1 : ∀ W, Sem.run Tryz.prog (binOp .eql 110 (pt ob) (pt ob)) W = .ok (.bool true) W := fun W => by
    obtain ⟨j, hj, -⟩ := info_parts infoOrd
    exact run_eql_ptr_same W ⟨ob, 0, none⟩ Tryz.underlying110 hj
  go_enter Tryz.func96, Tryz.ntmps96
  go_wp2
  go_ret
  exact ⟨rfl, rfl⟩

set_option maxRecDepth 100000 in
set_option maxHeartbeats 800000 in
theorem dropEq_other (x ob box : Nat) (cx co : Array Value) (tx ty : TypeId) (w : World) (hb : w.cell? ⟨box, 0, none⟩ = some (pt ob)) (hne : x ≠ ob) (hx : Blk w x cx tx) (ho : Blk w ob co ty) :
    Calls Tryz.prog 96 #[pt x, pt box] w fun e w' => e = .returned (.bool false) ∧ w' = w := by
  have eq1 : Sem.run Tryz.prog (binOp .eql 110 (pt x) (pt ob)) w = .ok (.bool false) w := by
    obtain ⟨j, hj, -, hs, -⟩ := info_parts infoOrd
    exact run_eql_ptr_other w Tryz.underlying110 hj (by rw [hs]; decide) (by intro e; injection e with e; exact hne e) hx ho
  clear hx ho
  go_enter Tryz.func96, Tryz.ntmps96
  go_wp2
  go_ret
  exact ⟨rfl, rfl⟩

/-- the list, its orders, the box of the one that is to go -/
structure DelIn (w : World) (g : Nat) (cur : Array Value) (ids : List Nat) (q ob box : Nat) : Prop where
  arr : Blk w g cur 110
  at_ : ∀ (k x : Nat), ids[k]? = some x → cur[k]? = some (pt x)
  ords : ∀ (k x : Nat), ids[k]? = some x → ∃ c, Blk w x c 109
  here : ids[q]? = some ob
  only : ∀ k : Nat, ids[k]? = some ob → k = q
  bx : Blk w box #[pt ob] 110

set_option maxRecDepth 100000 in
set_option maxHeartbeats 1600000 in
theorem index_any (g cap : Nat) (cur : Array Value) (ids : List Nat) (q ob box : Nat) (w : World) (h : DelIn w g cur ids q ob box) (hn : ids.length ≤ 100000) :
    Calls Tryz.prog 99 #[.slice (some ⟨g, 0, none⟩) ids.length cap, .func (.func 96) #[] #[pt box]] w fun e w' => e = .returned (I q) ∧ w' = w := by
  have hq : q < ids.length := (List.getElem?_eq_some_iff.1 h.here).1
  have H := hide h
  clear h
  go_enter Tryz.func99, Tryz.ntmps99
  go_wp2_with fail
  go_loopg [5, 8] ids.length (fun m _ i wr => ∃ j : Nat, m + j = ids.length ∧ i = I j ∧ j ≤ q ∧ wr = w)
  case atStart => exact ⟨0, by omega, rfl, by omega, rfl⟩
  case round =>
    obtain ⟨j, hm, rfl, hjq, rfl⟩ := hrel
    obtain ⟨x, hx⟩ : ∃ x, ids[j]? = some x := ⟨_, List.getElem?_eq_getElem (by omega)⟩
    have c0 : wr.cell? ⟨g, j, none⟩ = some (pt x) := by rw [(H.out).arr.cell]; exact (H.out).at_ j x hx
    have cb : wr.cell? ⟨box, 0, none⟩ = some (pt ob) := by rw [(H.out).bx.cell]; rfl
    have hjl : j < ids.length := by omega
    by_cases e : j = q
    · have hxo : x = ob := by
        have := (H.out).here
        rw [e] at hx; rw [hx] at this; injection this
      subst hxo
      subst e
      have DE := hide (dropEq_same x box wr cb)
      clear hx
      go_wp2_with fail
      refine (DE.out).mono ?_
      rintro e w1 ⟨rfl, hw⟩
      have hw' := hw.symm
      subst hw'
      go_wp2_with fail
      go_ret
      exact ⟨rfl, rfl⟩
    · have hne : x ≠ ob := fun e' => e ((H.out).only j (by rw [hx, e']))
      obtain ⟨cx, bx⟩ := (H.out).ords j x hx
      obtain ⟨co, bo⟩ := (H.out).ords q ob (H.out).here
      have DE := hide (dropEq_other x ob box cx co _ _ wr cb hne bx bo)
      clear hx bx bo
      go_wp2_with fail
      refine (DE.out).mono ?_
      rintro e' w1 ⟨rfl, hw⟩
      have hw' := hw.symm
      subst hw'
      go_wp2_with fail
      go_roundg (gk - 1)
      case measure => omega
      case rel => exact ⟨j + 1, by omega, by simp, by omega, rfl⟩

/-- what DeleteFunc leaves -/
def DelEnd (w : World) (g cap : Nat) (ids : List Nat) (q : Nat) (e : Ending) (w' : World) : Prop :=
  e = .returned (.slice (some ⟨g, 0, none⟩) (ids.length - 1) cap) ∧ w'.ownsRow 0 110 1 (.slice (some ⟨g, 0, none⟩) (ids.length - 1) cap) (ids.length - 1) ((ids.eraseIdx q).map pt) ∧ Frm (fun x => x = g) w w'

set_option maxRecDepth 100000 in
set_option maxHeartbeats 1600000 in
theorem delete_any (g cap : Nat) (cur : Array Value) (ids : List Nat) (q ob box : Nat) (w : World) (h : DelIn w g cur ids q ob box) (hn : ids.length ≤ 100000) (hcap : ids.length ≤ cap) (hcm : cap ≤ maxLen) (hcs : cur.size = cap) (hbg : box ≠ g) (hog : ∀ x ∈ ids, x ≠ g) :
    Calls Tryz.prog 95 #[.slice (some ⟨g, 0, none⟩) ids.length cap, .func (.func 96) #[] #[pt box]] w fun e w' => DelEnd w g cap ids q e w' := by
  have hq : q < ids.length := (List.getElem?_eq_some_iff.1 h.here).1
  have IX := hide (index_any g cap cur ids q ob box w h hn)
  have H := hide (And.intro h hog)
  have hc63 : cap ≤ 9223372036854775807 := by unfold maxLen at hcm; omega
  clear h hog
  go_enter Tryz.func95, Tryz.ntmps95
  go_wp2_with fail
  refine (IX.out).mono ?_
  rintro e w1 ⟨rfl, hw⟩
  have hw' := hw.symm
  subst hw'
  go_wp2_with fail
  go_loopg [5, 6, 7] (ids.length - (q + 1)) (fun m i j _ wr => ∃ k : Nat, m + k + 1 = ids.length ∧ q ≤ k ∧ i = I k ∧ j = I ((k : Int) + 1) ∧ Hid (∃ cur' : Array Value, Blk wr g cur' 110 ∧ cur'.size = cap ∧ Frm (fun x => x = g) w wr ∧ ∀ l, l < cap → cur'[l]? = if q ≤ l ∧ l < k then cur[l + 1]? else cur[l]?))
  case atStart => exact ⟨q, by omega, Nat.le_refl _, rfl, rfl, cur, (H.out).1.arr, hcs, Frm.refl _ _, fun l _ => by rw [if_neg (by omega)]⟩
  case round =>
    obtain ⟨k, hm, hqk, rfl, rfl, hst⟩ := hrel
    obtain ⟨cur', bw, sz, fr, hcur⟩ := hst.out
    by_cases hj : k + 1 < ids.length
    · obtain ⟨x, hx⟩ : ∃ x, ids[k + 1]? = some x := ⟨_, List.getElem?_eq_getElem hj⟩
      have hcx : cur'[k + 1]? = some (pt x) := by
        rw [hcur (k + 1) (by omega), if_neg (by omega)]
        exact (H.out).1.at_ (k + 1) x hx
      have c0 : wr.cell? ⟨g, k + 1, none⟩ = some (pt x) := by rw [bw.cell]; exact hcx
      have ck : ∃ u, wr.cell? ⟨g, k, none⟩ = some u := ⟨_, by rw [bw.cell]; exact Array.getElem?_eq_getElem (by omega)⟩
      obtain ⟨u, ck⟩ := ck
      have fk := bw.frozen k
      have bbx : Blk wr box #[pt ob] 110 := (H.out).1.bx.frm fr hbg
      have cb : wr.cell? ⟨box, 0, none⟩ = some (pt ob) := by rw [bbx.cell]; rfl
      have hne : x ≠ ob := fun e' => by have := (H.out).1.only (k + 1) (by rw [hx, e']); omega
      obtain ⟨cx, bx⟩ := (H.out).1.ords (k + 1) x hx
      obtain ⟨co, bo⟩ := (H.out).1.ords q ob (H.out).1.here
      have DE := hide (dropEq_other x ob box cx co _ _ wr cb hne (bx.frm fr ((H.out).2 x (List.mem_of_getElem? hx))) (bo.frm fr ((H.out).2 ob (List.mem_of_getElem? (H.out).1.here))))
      have NX : Hid (∃ cur2 : Array Value, Blk (wr.setCell ⟨g, k, none⟩ (pt x)) g cur2 110 ∧ cur2.size = cap ∧ Frm (fun x => x = g) w (wr.setCell ⟨g, k, none⟩ (pt x)) ∧ ∀ l, l < cap → cur2[l]? = if q ≤ l ∧ l < k + 1 then cur[l + 1]? else cur[l]?) := by
        refine ⟨_, bw.set k (pt x), by simpa using sz, fr.setCell (p := ⟨g, k, none⟩) (S := fun x => x = g) rfl (pt x), fun l hl => ?_⟩
        rw [Array.getElem?_setIfInBounds]
        by_cases e : k = l
        · subst e
          rw [if_pos rfl, if_pos (by omega), if_pos (by omega)]
          exact ((H.out).1.at_ (k + 1) x hx).symm
        · rw [if_neg e, hcur l hl]
          by_cases e2 : q ≤ l ∧ l < k
          · rw [if_pos e2, if_pos (by omega)]
          · rw [if_neg e2, if_neg (by omega)]
      clear hx hcx bw sz fr hcur bbx bx bo hst
      go_wp2_with fail
      refine (DE.out).mono ?_
      rintro e' w1 ⟨rfl, hw⟩
      have hw' := hw.symm
      subst hw'
      go_wp2_with fail
      go_roundg (gk - 1)
      case measure => omega
      case rel => exact ⟨k + 1, by omega, by omega, by simp, by simp, NX.out⟩
    · have hk : ids.length = k + 1 := by omega
      have hzv : ∀ w, (zeroValue 110).run Tryz.prog w = .ok (.pointer none) w := fun w => by kernel_rfl
      have hcl : ∀ ty c, (Builtin.clear_ #[92] ty #[.slice (some ⟨g, k, none⟩) 1 c]).run Tryz.prog wr = .ok (.tuple #[]) (wr.setCells g k (List.replicate 1 (.pointer none))) := fun ty c =>
        Lib.run_clear_slice wr 92 110 ty (.pointer none) Tryz.underlying92 hzv rfl rfl g k 1 c (by decide) (fun j hj => isSome_setCells' bw (by omega)) (fun j _ => bw.frozen _)
      obtain ⟨c2, b2, s2, e2⟩ := Blk.setCells g (List.replicate 1 (.pointer none)) k wr cur' bw
      have f2 : Frm (fun x => x = g) w (wr.setCells g k (List.replicate 1 (.pointer none))) := Frm.setCells (S := fun x => x = g) (g := g) rfl _ _ _ fr
      have FI : Hid (DelEnd w g cap ids q (.returned (.slice (some ⟨g, 0, none⟩) k cap)) (wr.setCells g k (List.replicate 1 (.pointer none)))) := by
        have hk' : ids.length - 1 = k := by omega
        have hrow := row_mk (n := k) (cap := cap) (xs := (ids.eraseIdx q).map pt) b2 (by omega) hcm (by omega) (by rw [List.length_map, List.length_eraseIdx_of_lt hq]; omega) (by
          intro l hl
          rw [e2 l (by omega), if_neg (by simp; omega), hcur l (by omega), List.getElem?_map, List.getElem?_eraseIdx]
          by_cases e : l < q
          · rw [if_neg (by omega), if_pos e]
            have hil : l < ids.length := by omega
            have hg := List.getElem?_eq_getElem hil
            rw [(H.out).1.at_ l _ hg, hg]; rfl
          · rw [if_pos (by omega), if_neg e]
            have hil : l + 1 < ids.length := by omega
            have hg := List.getElem?_eq_getElem hil
            rw [(H.out).1.at_ (l + 1) _ hg, hg]; rfl)
        exact ⟨by rw [hk'], by rw [hk']; exact hrow, f2⟩
      have HCL := hide hcl
      clear bw sz fr hcur hst hcl b2 s2 e2 f2 hm hzv
      have hck : ¬ (cap = k) := by omega
      rw [hk]
      go_wp2_with fail
      rw [HCL.out]
      go_wp2_with fail
      go_ret
      exact FI.out

end Go.Proofs.YtahiolfelcmikaaGreat

/- The pump of the program in memory, whole: this part: its agenda, channels, windows. -/
namespace Go.Proofs.YtahiolfelcmikaaGreat
open Go.RowKit

/-- a channel: its rate, the entry that ends it (and the cell in which the closure has its channel) -/
structure GCh where
  rate : Int
  ent : Option (Ent × Nat)
  so : Value
  rests : Bool
  free : Int

def gchC (c : GCh) : List Value := [I c.rate, endV c.ent, c.so, .bool c.rests, I c.free]

structure GSt where
  now : Int
  lock : Int
  chs : List GCh
  ws : List Wd
  num : Int
  eb : Option Nat
  es : List Ent
  xt : List Ent
  vo : Value
  nv : Int

def gCells (now lock : Int) (vc vw sl : Value) (num : Int) (vo : Value) (nv : Int) : Array Value := #[I now, I lock, vc, vw, sl, I num, vo, I nv]
/-- the closures' cells -/
def GKsF (chs : List GCh) : Nat → Prop := fun x => ∃ (k : Nat) (c : GCh) (e : Ent), chs[k]? = some c ∧ c.ent = some (e, x)
def gents (chs : List GCh) : List Ent := chs.filterMap fun c => c.ent.map (·.1)

structure GSep (b : Nat) (eb : Option Nat) (es : List Ent) (vc vw : Value) (chs : List GCh) (ws : List Wd) : Prop where
  ac : ∀ x, AgF b eb es x → ¬ CsF vc x
  av : ∀ x, AgF b eb es x → ¬ WsF vw ws x
  ak : ∀ x, AgF b eb es x → ¬ GKsF chs x
  cv : ∀ x, CsF vc x → ¬ WsF vw ws x
  ck : ∀ x, CsF vc x → ¬ GKsF chs x
  vk : ∀ x, WsF vw ws x → ¬ GKsF chs x

structure GAt (w : World) (b : Nat) (D : GSt) (vc vw : Value) : Prop where
  ag : ∃ sl, AgAt w b 4 (gCells D.now D.lock vc vw sl D.num D.vo D.nv) 94 D.eb D.es
  heap : HeapN D.es.length D.es
  chs : w.ownsRow 0 116 5 vc D.chs.length (D.chs.flatMap gchC)
  ws : WsAt w vw D.ws
  ends : ∀ (k : Nat) (c : GCh) (e : Ent) (cb : Nat), D.chs[k]? = some c → c.ent = some (e, cb) → EndAt w vc k e cb
  perm : D.es.Perm (gents D.chs ++ D.xt)
  sep : GSep b D.eb D.es vc vw D.chs D.ws

def GF (b : Nat) (D : GSt) (vc vw : Value) : Nat → Prop := fun x => AgF b D.eb D.es x ∨ CsF vc x ∨ WsF vw D.ws x ∨ GKsF D.chs x

theorem GAt.lt {w : World} {b : Nat} {D : GSt} {vc vw : Value} (h : GAt w b D vc vw) : ∀ x, GF b D vc vw x → x < w.heap.size := by
  rintro x (e | e | e | ⟨k, c, e, h1, h2⟩)
  · obtain ⟨sl, ha⟩ := h.ag; exact ha.lt x e
  · exact (h.chs.lt x e).2
  · exact h.ws.lt x e
  · obtain ⟨_, g, n, cap, _, hb⟩ := h.ends k c e x h1 h2
    exact hb.lt

theorem GAt.frm {S : Nat → Prop} {w w' : World} {b : Nat} {D : GSt} {vc vw : Value} (h : GAt w b D vc vw) (f : Frm S w w') (hs : ∀ x, GF b D vc vw x → ¬ S x) : GAt w' b D vc vw := by
  obtain ⟨sl, ha⟩ := h.ag
  exact ⟨⟨sl, ha.frm f fun x hx => hs x (Or.inl hx)⟩, h.heap, row_frm h.chs f fun g hg => hs g (Or.inr (Or.inl hg)), h.ws.frm f fun x hx => hs x (Or.inr (Or.inr (Or.inl hx))),
    fun k c e cb h1 h2 => (h.ends k c e cb h1 h2).frm f (hs cb (Or.inr (Or.inr (Or.inr ⟨k, c, e, h1, h2⟩)))), h.perm, h.sep⟩

theorem GAt.keep {w w' : World} {b : Nat} {D : GSt} {vc vw : Value} (h : GAt w b D vc vw) (k : Keep w w') : GAt w' b D vc vw := h.frm k fun _ _ e => e

/-- the blocks that calls write -/
def GW (b : Nat) (D : GSt) (vc vw : Value) : Nat → Prop := fun x => AgF b D.eb D.es x ∨ CsF vc x ∨ WsF vw D.ws x

/-- a block's type -/
def HasT (w : World) (x : Nat) (T : TypeId) : Prop := ∃ c, Blk w x c T
theorem HasT.uniq {w : World} {x : Nat} {T T' : TypeId} (h : HasT w x T) (k : HasT w x T') : T = T' := by
  obtain ⟨c, h⟩ := h
  obtain ⟨c', k⟩ := k
  unfold Blk at h k
  rw [h] at k
  injection k with k
  injection k
theorem row_ty {w : World} {e : TypeId} {size n : Nat} {v : Value} {xs : List Value} (h : w.ownsRow 0 e size v n xs) {x : Nat} (hx : v.ownBlock = some x) : HasT w x e := by
  rcases h.2 with ⟨rfl, -⟩ | ⟨g, cap, cur, rfl, -, h2, -⟩
  · cases hx
  · injection hx with hx
    exact ⟨cur, by rw [← hx]; exact h2⟩
theorem AgAt.ty {w : World} {hb ho : Nat} {c : Array Value} {T : TypeId} {eb : Option Nat} {es : List Ent} (h : AgAt w hb ho c T eb es) {x : Nat} (hx : AgF hb eb es x) : HasT w x T ∨ HasT w x 114 ∨ HasT w x 138 := by
  rcases hx with rfl | e | ⟨e, he, rfl⟩
  · exact Or.inl ⟨_, h.head⟩
  · obtain ⟨sl, -, h2, h3⟩ := h.row
    exact Or.inr (Or.inl (row_ty h2 (by rw [h3, e])))
  · obtain ⟨i, hi⟩ := List.getElem?_of_mem he
    exact Or.inr (Or.inr ⟨_, h.ent i e hi⟩)
theorem WsAt.ty {w : World} {vw : Value} {ws : List Wd} (h : WsAt w vw ws) {x : Nat} (hx : WsF vw ws x) : HasT w x 95 ∨ HasT w x 124 ∨ HasT w x 3 := by
  rcases hx with e | ⟨i, y, hy, rfl | rfl⟩
  · exact Or.inl (row_ty h.row e)
  · exact Or.inr (Or.inl ⟨_, (h.each i y hy).own⟩)
  · exact Or.inr (Or.inr ⟨_, (h.each i y hy).ring⟩)

/-- blocks of these types are not the orders' -/
def GTy (T : TypeId) : Prop := T = 94 ∨ T = 114 ∨ T = 138 ∨ T = 116 ∨ T = 95 ∨ T = 124 ∨ T = 3
theorem GTy.no {T : TypeId} (h : GTy T) : T ≠ 109 ∧ T ≠ 110 ∧ T ≠ 113 ∧ T ≠ 43 := by
  rcases h with rfl | rfl | rfl | rfl | rfl | rfl | rfl <;> decide

theorem GAt.ty {w : World} {b : Nat} {D : GSt} {vc vw : Value} (h : GAt w b D vc vw) {x : Nat} (hx : GW b D vc vw x) : ∃ T, HasT w x T ∧ GTy T := by
  obtain ⟨sl, ag⟩ := h.ag
  rcases hx with e | e | e
  · rcases ag.ty e with q | q | q
    · exact ⟨_, q, Or.inl rfl⟩
    · exact ⟨_, q, Or.inr (Or.inl rfl)⟩
    · exact ⟨_, q, Or.inr (Or.inr (Or.inl rfl))⟩
  · exact ⟨_, row_ty h.chs e, Or.inr (Or.inr (Or.inr (Or.inl rfl)))⟩
  · rcases h.ws.ty e with q | q | q
    · exact ⟨_, q, Or.inr (Or.inr (Or.inr (Or.inr (Or.inl rfl))))⟩
    · exact ⟨_, q, Or.inr (Or.inr (Or.inr (Or.inr (Or.inr (Or.inl rfl)))))⟩
    · exact ⟨_, q, Or.inr (Or.inr (Or.inr (Or.inr (Or.inr (Or.inr rfl)))))⟩

end Go.Proofs.YtahiolfelcmikaaGreat

/- An entry goes, an entry comes; cells of a channel, of the pump. -/
namespace Go.Proofs.YtahiolfelcmikaaGreat
open Go.RowKit

theorem gents_mem {chs : List GCh} {x : Ent} (h : x ∈ gents chs) : ∃ (k : Nat) (c : GCh) (cb : Nat), chs[k]? = some c ∧ c.ent = some (x, cb) := by
  obtain ⟨c, hc, he⟩ := List.mem_filterMap.1 h
  obtain ⟨k, hk⟩ := List.getElem?_of_mem hc
  cases hh : c.ent with
  | none => rw [hh] at he; simp at he
  | some y => rw [hh] at he; simp at he; exact ⟨k, c, y.2, hk, by rw [hh, ← he]⟩

theorem gents_out {x : Ent} {cb : Nat} (d : GCh) (hd : d.ent = none) : ∀ (chs : List GCh) (k : Nat) (c : GCh), chs[k]? = some c → c.ent = some (x, cb) → (gents chs).Perm (x :: gents (chs.set k d)) := by
  intro chs
  induction chs with
  | nil => intro k c h; simp at h
  | cons a chs ih =>
    intro k c h he
    cases k with
    | zero =>
      simp at h; subst h
      simp [gents, he, hd]
    | succ k =>
      simp at h
      have := ih k c h he
      simp only [List.set_cons_succ]
      unfold gents at this ⊢
      rw [List.filterMap_cons, List.filterMap_cons]
      cases a.ent with
      | none => simpa using this
      | some y => simpa using (this.cons y.1).trans (List.Perm.swap x y.1 _)

theorem gents_same (d : GCh) (hd : d.ent = none) : ∀ (chs : List GCh) (k : Nat) (c : GCh), chs[k]? = some c → c.ent = none → gents (chs.set k d) = gents chs := by
  intro chs
  induction chs with
  | nil => intro k c h; simp at h
  | cons a chs ih =>
    intro k c h he
    cases k with
    | zero =>
      simp at h; subst h
      simp [gents, he, hd]
    | succ k =>
      simp at h
      have := ih k c h he
      simp only [List.set_cons_succ]
      unfold gents at this ⊢
      rw [List.filterMap_cons, List.filterMap_cons, this]

theorem gents_in {x : Ent} {cb : Nat} (d : GCh) (hd : d.ent = some (x, cb)) : ∀ (chs : List GCh) (k : Nat) (c : GCh), chs[k]? = some c → c.ent = none → (gents (chs.set k d)).Perm (x :: gents chs) := by
  intro chs
  induction chs with
  | nil => intro k c h; simp at h
  | cons a chs ih =>
    intro k c h he
    cases k with
    | zero =>
      simp at h; subst h
      simp [gents, he, hd]
    | succ k =>
      simp at h
      have := ih k c h he
      simp only [List.set_cons_succ]
      unfold gents at this ⊢
      rw [List.filterMap_cons, List.filterMap_cons]
      cases a.ent with
      | none => simpa using this
      | some y => simpa using (this.cons y.1).trans (List.Perm.swap x y.1 _)

/-- a channel's cells, written -/
theorem gchs_set {w : World} {vc : Value} {chs : List GCh} {n g cap k i : Nat} (h : w.ownsRow 0 116 5 vc n (chs.flatMap gchC)) (hv : vc = .slice (some ⟨g, 0, none⟩) n cap) {c c' : GCh} (hc : chs[k]? = some c) (hi : i < 5) {u : Value} (hf : gchC c' = (gchC c).set i u) :
    (w.setCell ⟨g, k * 5 + i, none⟩ u).ownsRow 0 116 5 vc n ((chs.set k c').flatMap gchC) := by
  subst hv
  exact row_set h (fun _ => rfl) hc hi hf

theorem AgF_sub2 {b : Nat} {eb : Option Nat} {es es' : List Ent} (h : ∀ e ∈ es', e ∈ es) {x : Nat} (hx : AgF b eb es' x) : AgF b eb es x := by
  rcases hx with e | e | ⟨e, he, rfl⟩
  · exact Or.inl e
  · exact Or.inr (Or.inl e)
  · exact Or.inr (Or.inr ⟨e, h e he, rfl⟩)

theorem GKsF_out {chs : List GCh} {k : Nat} {d : GCh} (hd : d.ent = none) {x : Nat} (h : GKsF (chs.set k d) x) : GKsF chs x := by
  obtain ⟨j, c, e, h1, h2⟩ := h
  by_cases q : k = j
  · subst q
    rw [List.getElem?_set] at h1
    split at h1
    · split at h1
      · simp at h1; subst h1; rw [hd] at h2; cases h2
      · simp at h1
    · exact ⟨_, c, e, h1, h2⟩
  · rw [List.getElem?_set_ne q] at h1
    exact ⟨j, c, e, h1, h2⟩

theorem GW_GF {b : Nat} {D : GSt} {vc vw : Value} {x : Nat} (h : GW b D vc vw x) : GF b D vc vw x := by
  rcases h with e | e | e
  · exact Or.inl e
  · exact Or.inr (Or.inl e)
  · exact Or.inr (Or.inr (Or.inl e))

/-- one cell of a channel is written (not its end) -/
theorem GAt.setCh {w : World} {b : Nat} {D : GSt} {vc vw : Value} (h : GAt w b D vc vw) {k g cap i : Nat} {c c' : GCh} (hk : D.chs[k]? = some c) (hv : vc = .slice (some ⟨g, 0, none⟩) D.chs.length cap) (hi : i < 5) (he : c'.ent = c.ent) {u : Value} (hf : gchC c' = (gchC c).set i u) :
    GAt (w.setCell ⟨g, k * 5 + i, none⟩ u) b { D with chs := D.chs.set k c' } vc vw ∧ Frm (CsF vc) w (w.setCell ⟨g, k * 5 + i, none⟩ u) := by
  have hvb : CsF vc g := by rw [hv]; rfl
  have hkl : k < D.chs.length := (List.getElem?_eq_some_iff.1 hk).1
  have f2 : Frm (CsF vc) w (w.setCell ⟨g, k * 5 + i, none⟩ u) := (Frm.refl (CsF vc) w).setCell (p := ⟨g, k * 5 + i, none⟩) hvb u
  have s := h.sep
  obtain ⟨sl, ag⟩ := h.ag
  have key : ∀ (j : Nat) (d : GCh), (D.chs.set k c')[j]? = some d → ∃ d0, D.chs[j]? = some d0 ∧ d.ent = d0.ent := by
    intro j d hd
    by_cases q : k = j
    · subst q; rw [List.getElem?_set_self hkl] at hd; simp at hd; subst hd; exact ⟨c, hk, he⟩
    · rw [List.getElem?_set_ne q] at hd; exact ⟨d, hd, rfl⟩
  have ks : ∀ x, GKsF (D.chs.set k c') x → GKsF D.chs x := by
    rintro x ⟨j, d, e, h1, h2⟩
    obtain ⟨d0, q1, q2⟩ := key j d h1
    exact ⟨j, d0, e, q1, by rw [← q2]; exact h2⟩
  have ge : gents (D.chs.set k c') = gents D.chs := by
    have e1 : ∀ l : List GCh, gents l = (l.map (·.ent)).filterMap fun o => o.map (·.1) := fun l => by unfold gents; rw [List.filterMap_map]; rfl
    rw [e1, e1, List.map_set, he]
    congr 1
    apply List.ext_getElem?
    intro j
    rw [List.getElem?_set]
    split
    · rename_i q; subst q
      simp [hk]
      have := (List.getElem?_eq_some_iff.1 hk).2
      simp [hkl]
    · rfl
  refine ⟨⟨⟨sl, ag.frm f2 fun x hx => s.ac x hx⟩, h.heap, ?_, h.ws.frm f2 fun x hx e => s.cv x e hx, ?_, by rw [ge]; exact h.perm, ⟨s.ac, s.av, fun x hx e => s.ak x hx (ks x e), s.cv, fun x hx e => s.ck x hx (ks x e), fun x hx e => s.vk x hx (ks x e)⟩⟩, f2⟩
  · have := gchs_set (i := i) h.chs hv hk hi hf
    simpa using this
  · intro j d e cb h1 h2
    obtain ⟨d0, q1, q2⟩ := key j d h1
    rw [q2] at h2
    exact (h.ends j d0 e cb q1 h2).frm f2 fun e' => s.ck cb e' ⟨j, d0, e, q1, h2⟩

/-- a cell of the pump is written (not its agenda's) -/
theorem GAt.setHead {w : World} {b : Nat} {D D' : GSt} {vc vw : Value} (h : GAt w b D vc vw) (i : Nat) (hi : i ≠ 4) (u : Value) (hc : ∀ sl, (gCells D.now D.lock vc vw sl D.num D.vo D.nv).setIfInBounds i u = gCells D'.now D'.lock vc vw sl D'.num D'.vo D'.nv)
    (h1 : D'.chs = D.chs) (h2 : D'.ws = D.ws) (h3 : D'.eb = D.eb) (h4 : D'.es = D.es) (h5 : D'.xt = D.xt) :
    GAt (w.setCell ⟨b, i, none⟩ u) b D' vc vw ∧ Frm (fun x => x = b) w (w.setCell ⟨b, i, none⟩ u) := by
  obtain ⟨sl, ag⟩ := h.ag
  have hb : AgF b D.eb D.es b := Or.inl rfl
  have f : Frm (fun x => x = b) w (w.setCell ⟨b, i, none⟩ u) := (Frm.refl (fun x => x = b) w).setCell (p := ⟨b, i, none⟩) rfl u
  have s := h.sep
  refine ⟨⟨⟨sl, ?_⟩, by rw [h4]; exact h.heap, by rw [h1]; exact row_frm h.chs f fun x hx e => s.ac b hb (e ▸ hx), by rw [h2]; exact h.ws.frm f fun x hx e => s.av b hb (e ▸ hx), ?_, by rw [h4, h1, h5]; exact h.perm, by rw [h1, h2, h3, h4]; exact s⟩, f⟩
  · have := ag.setHead i hi u
    rw [hc] at this
    rw [h3, h4]; exact this
  · rw [h1]
    exact fun k c e cb q1 q2 => (h.ends k c e cb q1 q2).frm f fun e => s.ak b hb (e ▸ ⟨k, c, _, q1, q2⟩)

/-- one of the other entries is out -/
theorem GAt.pop {w w1 : World} {b : Nat} {D : GSt} {vc vw sl : Value} (h : GAt w b D vc vw) {es' xt' : List Ent} (ag : AgAt w1 b 4 (gCells D.now D.lock vc vw sl D.num D.vo D.nv) 94 D.eb es') (hp : HeapN es'.length es') (sub : ∀ e ∈ es', e ∈ D.es) (pm : es'.Perm (gents D.chs ++ xt')) (fr : Frm (AgF b D.eb D.es) w w1) :
    GAt w1 b { D with es := es', xt := xt' } vc vw := by
  have s := h.sep
  exact ⟨⟨sl, ag⟩, hp, row_frm h.chs fr fun x hx he => s.ac x he hx, h.ws.frm fr fun x hx he => s.av x he hx, fun j d e cb h1 h2 => (h.ends j d e cb h1 h2).frm fr fun he => s.ak cb he ⟨j, d, e, h1, h2⟩, pm,
    ⟨fun x hx => s.ac x (AgF_sub2 sub hx), fun x hx => s.av x (AgF_sub2 sub hx), fun x hx => s.ak x (AgF_sub2 sub hx), s.cv, s.ck, s.vk⟩⟩

/-- another entry has come -/
theorem GAt.put {w w1 : World} {b : Nat} {D : GSt} {vc vw sl : Value} (h : GAt w b D vc vw) {es' xt' : List Ent} {eb' : Option Nat} {num : Int} (agn : ∀ y, AgF b eb' es' y → AgF b D.eb D.es y ∨ w.heap.size ≤ y) (ag : AgAt w1 b 4 (gCells D.now D.lock vc vw sl num D.vo D.nv) 94 eb' es') (hp : HeapN es'.length es')
    (pm : es'.Perm (gents D.chs ++ xt')) (fr : Frm (AgF b D.eb D.es) w w1) : GAt w1 b { D with es := es', xt := xt', eb := eb', num := num } vc vw := by
  have s := h.sep
  have hlt := h.lt
  refine ⟨⟨sl, ag⟩, hp, row_frm h.chs fr fun x hx he => s.ac x he hx, h.ws.frm fr fun x hx he => s.av x he hx, fun j d e cb h1 h2 => (h.ends j d e cb h1 h2).frm fr fun he => s.ak cb he ⟨j, d, e, h1, h2⟩, pm, ?_⟩
  refine ⟨?_, ?_, ?_, s.cv, s.ck, s.vk⟩
  · intro y hy hc
    rcases agn y hy with e | e
    · exact s.ac y e hc
    · have := hlt y (Or.inr (Or.inl hc)); omega
  · intro y hy hc
    rcases agn y hy with e | e
    · exact s.av y e hc
    · have := hlt y (Or.inr (Or.inr (Or.inl hc))); omega
  · intro y hy hc
    rcases agn y hy with e | e
    · exact s.ak y e hc
    · have := hlt y (Or.inr (Or.inr (Or.inr hc))); omega

/-- the windows have turned -/
theorem GAt.turned {w wr : World} {b : Nat} {D : GSt} {vc vw : Value} {ws' : List Wd} (h : GAt w b D vc vw) (lie : WsAt wr vw ws') (foot : ∀ x, WsF vw ws' x ↔ WsF vw D.ws x) (f : Frm (WsF vw D.ws) w wr) : GAt wr b { D with ws := ws' } vc vw := by
  obtain ⟨sl, ag⟩ := h.ag
  have s := h.sep
  exact ⟨⟨sl, ag.frm f fun x hx => s.av x hx⟩, h.heap, row_frm h.chs f fun x hx => s.cv x hx, lie, fun k c e cb h1 h2 => (h.ends k c e cb h1 h2).frm f fun e => s.vk cb e ⟨k, c, _, h1, h2⟩, h.perm,
    ⟨s.ac, fun x hx e => s.av x hx ((foot x).1 e), s.ak, fun x hx e => s.cv x hx ((foot x).1 e), s.ck, fun x hx => s.vk x ((foot x).1 hx)⟩⟩

theorem gCells_sl (now lock : Int) (vc vw sl sl' : Value) (num : Int) (vo : Value) (nv : Int) : (gCells now lock vc vw sl num vo nv).setIfInBounds 4 sl' = gCells now lock vc vw sl' num vo nv := by simp [gCells]
theorem gCells_num (now lock : Int) (vc vw sl : Value) (num num' : Int) (vo : Value) (nv : Int) : (gCells now lock vc vw sl num vo nv).setIfInBounds 5 (I num') = gCells now lock vc vw sl num' vo nv := by simp [gCells]

end Go.Proofs.YtahiolfelcmikaaGreat

/- A channel's entry goes, comes. -/
namespace Go.Proofs.YtahiolfelcmikaaGreat
open Go.RowKit

/-- the channel's entry is out (or there was none), and its cells are written -/
theorem GAt.out {w w1 : World} {b : Nat} {D : GSt} {vc vw sl : Value} (h : GAt w b D vc vw) {k g cap : Nat} {c : GCh} (hk : D.chs[k]? = some c) (hv : vc = .slice (some ⟨g, 0, none⟩) D.chs.length cap) {es' : List Ent} (r : Int)
    (ag : AgAt w1 b 4 (gCells D.now D.lock vc vw sl D.num D.vo D.nv) 94 D.eb es') (hp : HeapN es'.length es') (sub : ∀ e ∈ es', e ∈ D.es) (pm : es'.Perm (gents (D.chs.set k { c with rate := r, ent := none }) ++ D.xt)) (fr : Frm (AgF b D.eb D.es) w w1) :
    GAt ((w1.setCell ⟨g, k * 5, none⟩ (I r)).setCell ⟨g, k * 5 + 1, none⟩ (.pointer none)) b { D with chs := D.chs.set k { c with rate := r, ent := none }, es := es' } vc vw ∧
      Frm (GW b D vc vw) w ((w1.setCell ⟨g, k * 5, none⟩ (I r)).setCell ⟨g, k * 5 + 1, none⟩ (.pointer none)) ∧ ∀ x, GF b { D with chs := D.chs.set k { c with rate := r, ent := none }, es := es' } vc vw x → GF b D vc vw x := by
  have hvb : CsF vc g := by rw [hv]; rfl
  have hkl : k < D.chs.length := (List.getElem?_eq_some_iff.1 hk).1
  have f2 : Frm (CsF vc) w1 ((w1.setCell ⟨g, k * 5, none⟩ (I r)).setCell ⟨g, k * 5 + 1, none⟩ (.pointer none)) :=
    ((Frm.refl (CsF vc) w1).setCell (p := ⟨g, k * 5, none⟩) hvb (I r)).setCell (p := ⟨g, k * 5 + 1, none⟩) hvb (.pointer none)
  have s := h.sep
  refine ⟨⟨⟨sl, ag.frm f2 fun x hx => s.ac x (AgF_sub2 sub hx)⟩, hp, ?_, ?_, ?_, pm, ?_⟩, ?_, ?_⟩
  · have h1 : w1.ownsRow 0 116 5 vc D.chs.length (D.chs.flatMap gchC) := row_frm h.chs fr fun x hx he => s.ac x he hx
    have h2 := gchs_set (i := 0) h1 hv hk (by omega) (c' := { c with rate := r }) (u := I r) rfl
    have h3 := gchs_set (i := 1) (c := { c with rate := r }) h2 hv (k := k) (by rw [List.getElem?_set_self hkl]) (by omega) (c' := { c with rate := r, ent := none }) (u := .pointer none) rfl
    rw [List.set_set] at h3
    simpa using h3
  · exact (h.ws.frm fr fun x hx he => s.av x he hx).frm f2 fun x hx he => s.cv x he hx
  · intro j d e cb h1 h2
    by_cases q : k = j
    · subst q; rw [List.getElem?_set_self hkl] at h1; simp at h1; subst h1; simp at h2
    · rw [List.getElem?_set_ne q] at h1
      have hK : GKsF D.chs cb := ⟨j, d, e, h1, h2⟩
      exact ((h.ends j d e cb h1 h2).frm fr fun he => s.ak cb he hK).frm f2 fun he => s.ck cb he hK
  · exact ⟨fun x hx => s.ac x (AgF_sub2 sub hx), fun x hx => s.av x (AgF_sub2 sub hx), fun x hx hK => s.ak x (AgF_sub2 sub hx) (GKsF_out rfl hK), s.cv, fun x hx hK => s.ck x hx (GKsF_out rfl hK), fun x hx hK => s.vk x hx (GKsF_out rfl hK)⟩
  · exact (fr.mono fun x _ hx => Or.inl hx).trans (f2.mono fun x _ hx => Or.inr (Or.inl hx))
  · rintro x (e | e | e | e)
    · exact Or.inl (AgF_sub2 sub e)
    · exact Or.inr (Or.inl e)
    · exact Or.inr (Or.inr (Or.inl e))
    · exact Or.inr (Or.inr (Or.inr (GKsF_out rfl e)))

/-- an entry has come for the channel -/
theorem GAt.come {w w1 : World} {b : Nat} {D : GSt} {vc vw sl : Value} (h : GAt w b D vc vw) {k g cap cb : Nat} {c : GCh} (hk : D.chs[k]? = some c) (hn : c.ent = none) (hv : vc = .slice (some ⟨g, 0, none⟩) D.chs.length cap) (hcb : Blk w cb #[ptr g (k * 5)] 113) (hno : ¬ GF b D vc vw cb)
    {es' : List Ent} {eb' : Option Nat} {x : Ent} {num : Int} (ha : x.act = .func (.func 61) #[] #[ptr cb 0]) (hx : w.heap.size ≤ x.blk) (heb : eb' = D.eb ∨ ∃ q, eb' = some q ∧ w.heap.size ≤ q)
    (ag : AgAt w1 b 4 (gCells D.now D.lock vc vw sl num D.vo D.nv) 94 eb' es') (hp : HeapN es'.length es') (pm : es'.Perm (x :: D.es)) (fr : Frm (AgF b D.eb D.es) w w1) :
    GAt (w1.setCell ⟨g, k * 5 + 1, none⟩ (ptr x.blk 0)) b { D with chs := D.chs.set k { c with ent := some (x, cb) }, es := es', eb := eb', num := num } vc vw ∧
      Frm (GW b D vc vw) w (w1.setCell ⟨g, k * 5 + 1, none⟩ (ptr x.blk 0)) ∧ ∀ y, GF b { D with chs := D.chs.set k { c with ent := some (x, cb) }, es := es', eb := eb', num := num } vc vw y → GF b D vc vw y ∨ y = cb ∨ w.heap.size ≤ y := by
  have hvb : CsF vc g := by rw [hv]; rfl
  have hkl : k < D.chs.length := (List.getElem?_eq_some_iff.1 hk).1
  have f2 : Frm (CsF vc) w1 (w1.setCell ⟨g, k * 5 + 1, none⟩ (ptr x.blk 0)) := (Frm.refl (CsF vc) w1).setCell (p := ⟨g, k * 5 + 1, none⟩) hvb (ptr x.blk 0)
  have s := h.sep
  have hlt := h.lt
  have agf : ∀ y, AgF b eb' es' y → AgF b D.eb D.es y ∨ w.heap.size ≤ y := by
    rintro y (e | e | ⟨e, he, rfl⟩)
    · exact Or.inl (Or.inl e)
    · rcases heb with q | ⟨q, e1, e2⟩
      · exact Or.inl (Or.inr (Or.inl (by rw [← q]; exact e)))
      · rw [e1] at e; injection e with e; exact Or.inr (by omega)
    · rcases List.mem_cons.1 (pm.mem_iff.1 he) with rfl | h'
      · exact Or.inr hx
      · exact Or.inl (Or.inr (Or.inr ⟨e, h', rfl⟩))
  have ksf : ∀ y, GKsF (D.chs.set k { c with ent := some (x, cb) }) y → GKsF D.chs y ∨ y = cb := by
    rintro y ⟨j, d, e, h1, h2⟩
    by_cases q : k = j
    · subst q; rw [List.getElem?_set_self hkl] at h1; simp at h1; subst h1; simp at h2; exact Or.inr h2.2.symm
    · rw [List.getElem?_set_ne q] at h1; exact Or.inl ⟨j, d, e, h1, h2⟩
  have hcl := hcb.lt
  refine ⟨⟨⟨sl, ag.frm f2 ?_⟩, hp, ?_, ?_, ?_, ?_, ?_⟩, ?_, ?_⟩
  · intro y hy hc'
    rcases agf y hy with e | e
    · exact s.ac y e hc'
    · have := hlt y (Or.inr (Or.inl hc')); omega
  · have h1 : w1.ownsRow 0 116 5 vc D.chs.length (D.chs.flatMap gchC) := row_frm h.chs fr fun y hy he => s.ac y he hy
    have h2 := gchs_set (i := 1) h1 hv hk (by omega) (c' := { c with ent := some (x, cb) }) (u := ptr x.blk 0) rfl
    simpa using h2
  · exact (h.ws.frm fr fun y hy he => s.av y he hy).frm f2 fun y hy he => s.cv y he hy
  · intro j d e cb' h1 h2
    by_cases q : k = j
    · subst q; rw [List.getElem?_set_self hkl] at h1; simp at h1; subst h1; simp at h2
      obtain ⟨rfl, rfl⟩ := h2
      refine ⟨ha, g, _, cap, hv, (hcb.frm fr fun he => hno (Or.inl he)).frm f2 fun he => hno (Or.inr (Or.inl he))⟩
    · rw [List.getElem?_set_ne q] at h1
      have hK : GKsF D.chs cb' := ⟨j, d, e, h1, h2⟩
      exact ((h.ends j d e cb' h1 h2).frm fr fun he => s.ak cb' he hK).frm f2 fun he => s.ck cb' he hK
  · exact pm.trans ((h.perm.cons x).trans ((gents_in (cb := cb) { c with ent := some (x, cb) } rfl D.chs k c hk hn).symm.append_right D.xt))
  · refine ⟨?_, ?_, ?_, s.cv, ?_, ?_⟩
    · intro y hy hc'
      rcases agf y hy with e | e
      · exact s.ac y e hc'
      · have := hlt y (Or.inr (Or.inl hc')); omega
    · intro y hy hc'
      rcases agf y hy with e | e
      · exact s.av y e hc'
      · have := hlt y (Or.inr (Or.inr (Or.inl hc'))); omega
    · intro y hy hc'
      rcases agf y hy with e | e <;> rcases ksf y hc' with e' | e'
      · exact s.ak y e e'
      · subst e'; exact hno (Or.inl e)
      · have := hlt y (Or.inr (Or.inr (Or.inr e'))); omega
      · omega
    · intro y hy hc'
      rcases ksf y hc' with e' | e'
      · exact s.ck y hy e'
      · subst e'; exact hno (Or.inr (Or.inl hy))
    · intro y hy hc'
      rcases ksf y hc' with e' | e'
      · exact s.vk y hy e'
      · subst e'; exact hno (Or.inr (Or.inr (Or.inl hy)))
  · exact (fr.mono fun y _ hy => Or.inl hy).trans (f2.mono fun y _ hy => Or.inr (Or.inl hy))
  · rintro y (e | e | e | e)
    · rcases agf y e with e | e
      · exact Or.inl (Or.inl e)
      · exact Or.inr (Or.inr e)
    · exact Or.inl (Or.inr (Or.inl e))
    · exact Or.inl (Or.inr (Or.inr (Or.inl e)))
    · rcases ksf y e with e | e
      · exact Or.inl (Or.inr (Or.inr (Or.inr e)))
      · exact Or.inr (Or.inl e)

end Go.Proofs.YtahiolfelcmikaaGreat

/- The orders of the program's pump in memory. -/
namespace Go.Proofs.YtahiolfelcmikaaGreat
open Go.RowKit

/-- an order: its block; what it is; the entry with which it begins (and its cells), the one with which it ends -/
structure OrdD where
  blk : Nat
  rest : Int
  start : Int
  stop : Int
  ch : Nat
  beg : Option (Ent × Nat × Nat)
  fin : Option (Ent × Nat × Nat × Nat)

def OrdD.on (o : OrdD) (k : Nat) : Bool := o.ch == k && o.beg.isNone && o.fin.isSome
/-- the orders of a channel whose ticks go by -/
def going (ods : List OrdD) (k : Nat) : List OrdD := ods.filter fun o => o.on k
def begsOf (ods : List OrdD) : List Ent := ods.filterMap fun o => o.beg.map (·.1)
def finsOf (ods : List OrdD) : List Ent := ods.filterMap fun o => o.fin.map (·.1)

def ChCell (w : World) (vc : Value) (k cc : Nat) : Prop := ∃ g n cap, vc = .slice (some ⟨g, 0, none⟩) n cap ∧ Blk w cc #[ptr g (k * 5)] 113

structure OAt (w : World) (b : Nat) (vc : Value) (sos : List Value) (vo : Value) (xt : List Ent) (nv : Int) (ods : List OrdD) : Prop where
  ords : ∀ (j : Nat) (o : OrdD), ods[j]? = some o → Blk w o.blk #[I ((j : Int) + 1), I o.rest, I o.stop] 109
  dup : ∀ (i j : Nat) (o p : OrdD), ods[i]? = some o → ods[j]? = some p → o.blk = p.blk → i = j
  vor : w.ownsRow 0 110 1 vo ods.length (ods.flatMap fun o => [pt o.blk])
  so : ∀ (k : Nat) (s : Value), sos[k]? = some s → w.ownsRow 0 110 1 s (going ods k).length ((going ods k).flatMap fun o => [pt o.blk])
  begs : ∀ (j : Nat) (o : OrdD) (e : Ent) (cc oc : Nat), ods[j]? = some o → o.beg = some (e, cc, oc) → e.tick = o.start ∧ e.act = .func (.func 83) #[] #[ptr cc 0, ptr oc 0] ∧ ChCell w vc o.ch cc ∧ Blk w oc #[pt o.blk] 110
  fins : ∀ (j : Nat) (o : OrdD) (e : Ent) (cc oc pc : Nat), ods[j]? = some o → o.fin = some (e, cc, oc, pc) → e.tick = o.stop ∧ e.act = .func (.func 85) #[] #[ptr cc 0, ptr oc 0, ptr pc 0] ∧ ChCell w vc o.ch cc ∧ Blk w oc #[pt o.blk] 110 ∧ Blk w pc #[ptr b 0] 43
  xtp : xt.Perm (begsOf ods ++ finsOf ods)
  ss : ∀ (k l : Nat) (s t : Value), sos[k]? = some s → sos[l]? = some t → k ≠ l → Dis s t
  sv : ∀ (k : Nat) (s : Value), sos[k]? = some s → Dis s vo
  bo : ∀ (j : Nat) (o : OrdD) (e : Ent) (cc oc : Nat), ods[j]? = some o → o.beg = some (e, cc, oc) → (∀ (k : Nat) (s : Value), sos[k]? = some s → s.ownBlock ≠ some oc) ∧ vo.ownBlock ≠ some oc
  fo : ∀ (j : Nat) (o : OrdD) (e : Ent) (cc oc pc : Nat), ods[j]? = some o → o.fin = some (e, cc, oc, pc) → (∀ (k : Nat) (s : Value), sos[k]? = some s → s.ownBlock ≠ some oc) ∧ vo.ownBlock ≠ some oc
  chn : ∀ (j : Nat) (o : OrdD), ods[j]? = some o → o.ch < sos.length
  bf : ∀ (j : Nat) (o : OrdD), ods[j]? = some o → o.beg ≠ none → o.fin ≠ none
  lt : ∀ (j : Nat) (o : OrdD), ods[j]? = some o → o.start < o.stop
  cnt : nv = ((finsOf ods).length : Int)

def OTy (T : TypeId) : Prop := T = 109 ∨ T = 110 ∨ T = 113 ∨ T = 43
theorem GTy.noO {T : TypeId} (h : GTy T) (k : OTy T) : False := by
  have := h.no
  rcases k with e | e | e | e
  · exact this.1 e
  · exact this.2.1 e
  · exact this.2.2.1 e
  · exact this.2.2.2 e

theorem OAt.frm {S : Nat → Prop} {w w' : World} {b : Nat} {vc : Value} {sos : List Value} {vo : Value} {xt : List Ent} {nv : Int} {ods : List OrdD} (h : OAt w b vc sos vo xt nv ods) (f : Frm S w w') (hs : ∀ x T, HasT w x T → OTy T → ¬ S x) : OAt w' b vc sos vo xt nv ods := by
  have hb : ∀ {x : Nat} {c : Array Value} {T : TypeId}, Blk w x c T → OTy T → Blk w' x c T := fun hx ht => hx.frm f (hs _ _ ⟨_, hx⟩ ht)
  have o1 : OTy 109 := Or.inl rfl
  have o2 : OTy 110 := Or.inr (Or.inl rfl)
  have o3 : OTy 113 := Or.inr (Or.inr (Or.inl rfl))
  have o4 : OTy 43 := Or.inr (Or.inr (Or.inr rfl))
  have hc : ∀ {k cc : Nat}, ChCell w vc k cc → ChCell w' vc k cc := by
    rintro k cc ⟨g, n, cap, e, hq⟩
    exact ⟨g, n, cap, e, hb hq o3⟩
  have hr : ∀ {v : Value} {n : Nat} {xs : List Value}, w.ownsRow 0 110 1 v n xs → w'.ownsRow 0 110 1 v n xs := fun hq => row_frm hq f fun g hg => hs _ _ (row_ty hq hg) o2
  refine ⟨fun j o hj => hb (h.ords j o hj) o1, h.dup, hr h.vor, fun k s hk => hr (h.so k s hk), ?_, ?_, h.xtp, h.ss, h.sv, h.bo, h.fo, h.chn, h.bf, h.lt, h.cnt⟩
  · intro j o e cc oc hj he
    obtain ⟨q1, q2, q3, q4⟩ := h.begs j o e cc oc hj he
    exact ⟨q1, q2, hc q3, hb q4 o2⟩
  · intro j o e cc oc pc hj he
    obtain ⟨q1, q2, q3, q4, q5⟩ := h.fins j o e cc oc pc hj he
    exact ⟨q1, q2, hc q3, hb q4 o2, hb q5 o4⟩

/-- what the pump's other part writes is not the orders' -/
theorem OAt.frmG {w w' : World} {b : Nat} {D : GSt} {vc vw : Value} {sos : List Value} {vo : Value} {xt : List Ent} {nv : Int} {ods : List OrdD} (h : OAt w b vc sos vo xt nv ods) (g : GAt w b D vc vw) (f : Frm (GW b D vc vw) w w') : OAt w' b vc sos vo xt nv ods :=
  h.frm f fun x T hT ho hx => by
    obtain ⟨T', q1, q2⟩ := g.ty hx
    have e := hT.uniq q1
    subst e
    exact q2.noO ho

theorem OAt.keep {w w' : World} {b : Nat} {vc : Value} {sos : List Value} {vo : Value} {xt : List Ent} {nv : Int} {ods : List OrdD} (h : OAt w b vc sos vo xt nv ods) (k : Keep w w') : OAt w' b vc sos vo xt nv ods := h.frm k fun _ _ _ _ e => e

def OF (sos : List Value) (vo : Value) (ods : List OrdD) : Nat → Prop := fun x => (∃ (j : Nat) (o : OrdD), ods[j]? = some o ∧ (x = o.blk ∨ (∃ e cc oc, o.beg = some (e, cc, oc) ∧ (x = cc ∨ x = oc)) ∨ (∃ e cc oc pc, o.fin = some (e, cc, oc, pc) ∧ (x = cc ∨ x = oc ∨ x = pc)))) ∨ vo.ownBlock = some x ∨ ∃ (k : Nat) (s : Value), sos[k]? = some s ∧ s.ownBlock = some x

theorem OAt.hasT {w : World} {b : Nat} {vc : Value} {sos : List Value} {vo : Value} {xt : List Ent} {nv : Int} {ods : List OrdD} (h : OAt w b vc sos vo xt nv ods) {x : Nat} (hx : OF sos vo ods x) : ∃ T, HasT w x T ∧ OTy T := by
  rcases hx with ⟨j, o, hj, rfl | ⟨e, cc, oc, he, q⟩ | ⟨e, cc, oc, pc, he, q⟩⟩ | e | ⟨k, s, hk, e⟩
  · exact ⟨_, ⟨_, h.ords j o hj⟩, Or.inl rfl⟩
  · obtain ⟨-, -, ⟨g, n, cap, -, b3⟩, b4⟩ := h.begs j o e cc oc hj he
    rcases q with rfl | rfl
    · exact ⟨_, ⟨_, b3⟩, Or.inr (Or.inr (Or.inl rfl))⟩
    · exact ⟨_, ⟨_, b4⟩, Or.inr (Or.inl rfl)⟩
  · obtain ⟨-, -, ⟨g, n, cap, -, b3⟩, b4, b5⟩ := h.fins j o e cc oc pc hj he
    rcases q with rfl | rfl | rfl
    · exact ⟨_, ⟨_, b3⟩, Or.inr (Or.inr (Or.inl rfl))⟩
    · exact ⟨_, ⟨_, b4⟩, Or.inr (Or.inl rfl)⟩
    · exact ⟨_, ⟨_, b5⟩, Or.inr (Or.inr (Or.inr rfl))⟩
  · exact ⟨_, row_ty h.vor e, Or.inr (Or.inl rfl)⟩
  · exact ⟨_, row_ty (h.so k s hk) e, Or.inr (Or.inl rfl)⟩

theorem HasT.lt {w : World} {x : Nat} {T : TypeId} (h : HasT w x T) : x < w.heap.size := by
  obtain ⟨c, h⟩ := h
  exact h.lt

theorem going_set (ods : List OrdD) (j k : Nat) (o o' : OrdD) (hj : ods[j]? = some o) (hb : o'.blk = o.blk) (he : o'.on k = o.on k) : (going (ods.set j o') k).flatMap (fun o => [pt o.blk]) = (going ods k).flatMap fun o => [pt o.blk] := by
  induction ods generalizing j with
  | nil => simp at hj
  | cons a l ih =>
    cases j with
    | zero =>
      simp at hj; subst hj
      simp only [List.set_cons_zero, going, List.filter_cons, he]
      split
      · simp [hb]
      · rfl
    | succ j =>
      simp at hj
      have := ih j hj
      simp only [List.set_cons_succ, going, List.filter_cons] at this ⊢
      split
      · simpa using this
      · simpa using this

theorem fm_len {α : Type} (f : α → Value) (l : List α) : (l.flatMap fun o => [f o]).length = l.length := by
  induction l with
  | nil => rfl
  | cons a l ih => simp [ih]

theorem going_len_set (ods : List OrdD) (j k : Nat) (o o' : OrdD) (hj : ods[j]? = some o) (hb : o'.blk = o.blk) (he : o'.on k = o.on k) : (going (ods.set j o') k).length = (going ods k).length := by
  have := congrArg List.length (going_set ods j k o o' hj hb he)
  rw [fm_len, fm_len] at this
  exact this

/-- an order's rest is written -/
theorem OAt.setRest {w : World} {b : Nat} {vc : Value} {sos : List Value} {vo : Value} {xt : List Ent} {nv : Int} {ods : List OrdD} (h : OAt w b vc sos vo xt nv ods) {j : Nat} {o : OrdD} (hj : ods[j]? = some o) (r : Int) :
    OAt (w.setCell ⟨o.blk, 1, none⟩ (I r)) b vc sos vo xt nv (ods.set j { o with rest := r }) ∧ Frm (fun x => x = o.blk) w (w.setCell ⟨o.blk, 1, none⟩ (I r)) := by
  have hl : j < ods.length := (List.getElem?_eq_some_iff.1 hj).1
  have f : Frm (fun x => x = o.blk) w (w.setCell ⟨o.blk, 1, none⟩ (I r)) := (Frm.refl (fun x => x = o.blk) w).setCell (p := ⟨o.blk, 1, none⟩) rfl (I r)
  have ho : HasT w o.blk 109 := ⟨_, h.ords j o hj⟩
  have hb : ∀ {x : Nat} {c : Array Value} {T : TypeId}, Blk w x c T → T ≠ 109 → Blk (w.setCell ⟨o.blk, 1, none⟩ (I r)) x c T := fun hx ht => hx.frm f fun e => ht (by
    have := (HasT.uniq ⟨_, hx⟩ (e ▸ ho)); exact this)
  have hr : ∀ {v : Value} {n : Nat} {xs : List Value}, w.ownsRow 0 110 1 v n xs → (w.setCell ⟨o.blk, 1, none⟩ (I r)).ownsRow 0 110 1 v n xs := fun hq => row_frm hq f fun g hg e => by
    have := (row_ty hq hg).uniq (e ▸ ho); revert this; decide
  have key : ∀ (i : Nat) (p : OrdD), (ods.set j { o with rest := r })[i]? = some p → ∃ p0, ods[i]? = some p0 ∧ p.blk = p0.blk ∧ p.start = p0.start ∧ p.stop = p0.stop ∧ p.ch = p0.ch ∧ p.beg = p0.beg ∧ p.fin = p0.fin := by
    intro i p hp
    by_cases q : j = i
    · subst q; rw [List.getElem?_set_self hl] at hp; simp at hp; subst hp; exact ⟨o, hj, rfl, rfl, rfl, rfl, rfl, rfl⟩
    · rw [List.getElem?_set_ne q] at hp; exact ⟨p, hp, rfl, rfl, rfl, rfl, rfl, rfl⟩
  have fm : ∀ {β : Type} (g : OrdD → Option β), g { o with rest := r } = g o → (ods.set j { o with rest := r }).filterMap g = ods.filterMap g := by
    intro β g hg
    have e : ods.set j { o with rest := r } = ods.set j { o with rest := r } := rfl
    clear e
    have : ∀ (l : List OrdD) (i : Nat), l[i]? = some o → (l.set i { o with rest := r }).filterMap g = l.filterMap g := by
      intro l
      induction l with
      | nil => intro i hi; simp at hi
      | cons a l ih =>
        intro i hi
        cases i with
        | zero => simp at hi; subst hi; simp [List.filterMap_cons, hg]
        | succ i => simp at hi; simp [List.filterMap_cons, ih i hi]
    exact this ods j hj
  refine ⟨⟨?_, ?_, ?_, ?_, ?_, ?_, ?_, h.ss, h.sv, ?_, ?_, ?_, ?_, ?_, ?_⟩, f⟩
  · intro i p hp
    by_cases q : j = i
    · subst q
      rw [List.getElem?_set_self hl] at hp; simp at hp; subst hp
      have := (h.ords j o hj).set 1 (I r)
      simpa using this
    · rw [List.getElem?_set_ne q] at hp
      exact (h.ords i p hp).frm f fun e => q (h.dup j i o p hj hp e.symm)
  · intro i i' p p' hp hp' e
    obtain ⟨p0, a1, a2, -⟩ := key i p hp
    obtain ⟨p0', b1, b2, -⟩ := key i' p' hp'
    exact h.dup i i' p0 p0' a1 b1 (by rw [← a2, ← b2]; exact e)
  · have e1 : (ods.set j { o with rest := r }).flatMap (fun o => [pt o.blk]) = ods.flatMap fun o => [pt o.blk] := by
      simp only [← List.map_eq_flatMap]
      rw [List.map_set]
      apply List.ext_getElem?
      intro i
      rw [List.getElem?_set]
      split
      · rename_i q; subst q
        simp [hl]
        have := (List.getElem?_eq_some_iff.1 hj).2
        simp [this]
      · rfl
    rw [e1, List.length_set]
    exact hr h.vor
  · intro k s hk
    rw [going_set ods j k o { o with rest := r } hj rfl rfl, going_len_set ods j k o { o with rest := r } hj rfl rfl]
    exact hr (h.so k s hk)
  · intro i p e cc oc hp he
    obtain ⟨p0, a1, a2, a3, a4, a5, a6, a7⟩ := key i p hp
    obtain ⟨q1, q2, ⟨g, n, cap, q3, q3'⟩, q4⟩ := h.begs i p0 e cc oc a1 (by rw [← a6]; exact he)
    exact ⟨by rw [a3]; exact q1, q2, ⟨g, n, cap, q3, by rw [a5]; exact hb q3' (by decide)⟩, by rw [a2]; exact hb q4 (by decide)⟩
  · intro i p e cc oc pc hp he
    obtain ⟨p0, a1, a2, a3, a4, a5, a6, a7⟩ := key i p hp
    obtain ⟨q1, q2, ⟨g, n, cap, q3, q3'⟩, q4, q5⟩ := h.fins i p0 e cc oc pc a1 (by rw [← a7]; exact he)
    exact ⟨by rw [a4]; exact q1, q2, ⟨g, n, cap, q3, by rw [a5]; exact hb q3' (by decide)⟩, by rw [a2]; exact hb q4 (by decide), hb q5 (by decide)⟩
  · unfold begsOf finsOf
    rw [fm _ rfl, fm _ rfl]
    exact h.xtp
  · intro i p e cc oc hp he
    obtain ⟨p0, a1, -, -, -, -, a6, -⟩ := key i p hp
    exact h.bo i p0 e cc oc a1 (by rw [← a6]; exact he)
  · intro i p e cc oc pc hp he
    obtain ⟨p0, a1, -, -, -, -, -, a7⟩ := key i p hp
    exact h.fo i p0 e cc oc pc a1 (by rw [← a7]; exact he)
  · intro i p hp
    obtain ⟨p0, a1, -, -, -, a5, -, -⟩ := key i p hp
    rw [a5]; exact h.chn i p0 a1
  · intro i p hp
    obtain ⟨p0, a1, -, -, -, -, a6, a7⟩ := key i p hp
    rw [a6, a7]; exact h.bf i p0 a1
  · intro i p hp
    obtain ⟨p0, a1, -, a3, a4, -⟩ := key i p hp
    rw [a3, a4]; exact h.lt i p0 a1
  · unfold finsOf
    rw [fm _ rfl]
    exact h.cnt

end Go.Proofs.YtahiolfelcmikaaGreat

/- part, wants, share. -/
namespace Go.Proofs.YtahiolfelcmikaaGreat
open Go.RowKit

def pD (now : Int) (o : OrdD) : Int := (o.rest + (o.stop - now) - 1) / (o.stop - now)

theorem pD_bd {now : Int} {o : OrdD} (h0 : 0 ≤ o.rest) (hs : now < o.stop) : 0 ≤ pD now o ∧ pD now o ≤ o.rest := by
  unfold pD
  have hL : 0 < o.stop - now := by omega
  refine ⟨Int.ediv_nonneg (by omega) (by omega), ?_⟩
  by_cases hz : o.rest = 0
  · rw [hz, Int.ediv_eq_zero_of_lt (by omega) (by omega)]
    exact Int.le_refl _
  · have h7 : o.rest + (o.stop - now) - 1 ≤ o.rest * (o.stop - now) := by
      have : 0 ≤ (o.rest - 1) * ((o.stop - now) - 1) := Int.mul_nonneg (by omega) (by omega)
      rw [Int.sub_mul, Int.mul_sub] at this
      omega
    have h8 := Int.ediv_le_ediv hL h7
    rwa [Int.mul_ediv_cancel _ (by omega)] at h8

set_option maxRecDepth 100000 in
set_option maxHeartbeats 800000 in
theorem opart_any (x : Nat) (num rest stop now : Int) (w : World) (hb : Blk w x #[I num, I rest, I stop] 109) (r0 : 0 ≤ rest) (r1 : rest ≤ 1000) (s0 : now < stop) (s1 : stop ≤ 2000) (n0 : 0 ≤ now) :
    Calls Tryz.prog 87 #[pt x, I now] w fun e w' => e = .returned (I ((rest + (stop - now) - 1) / (stop - now))) ∧ w' = w := by
  have c1 : w.cell? ⟨x, 1, none⟩ = some (I rest) := by rw [hb.cell]; rfl
  have c2 : w.cell? ⟨x, 2, none⟩ = some (I stop) := by rw [hb.cell]; rfl
  clear hb
  go_enter Tryz.func87, Tryz.ntmps87
  go_wp2
  go_ret
  exact ⟨rfl, rfl⟩

/-- orders that may be asked for a part -/
structure OFine (now : Int) (ods : List OrdD) : Prop where
  n0 : 0 ≤ now
  len : ods.length ≤ 3300
  rest0 : ∀ o ∈ ods, 0 ≤ o.rest
  rest1 : ∀ o ∈ ods, o.rest ≤ 1000
  stop1 : ∀ o ∈ ods, o.stop ≤ 2000
  on : ∀ o ∈ ods, ∀ k, o.on k = true → now < o.stop

def psum (now : Int) (l : List OrdD) : Int := (l.map (pD now)).sum
theorem psum_snoc (now : Int) (l : List OrdD) (o : OrdD) : psum now (l ++ [o]) = psum now l + pD now o := by simp [psum]
theorem psum_bd {now : Int} (l : List OrdD) (h : ∀ o ∈ l, 0 ≤ pD now o ∧ pD now o ≤ 1000) : 0 ≤ psum now l ∧ psum now l ≤ 1000 * l.length := by
  induction l with
  | nil => simp [psum]
  | cons o l ih =>
    have h1 := h o (by simp)
    have h2 := ih fun x hx => h x (List.mem_cons_of_mem _ hx)
    simp only [psum, List.map_cons, List.sum_cons, List.length_cons] at h2 ⊢
    omega

theorem going_mem {ods : List OrdD} {k : Nat} {o : OrdD} (h : o ∈ going ods k) : o ∈ ods ∧ o.on k = true := List.mem_filter.1 h

theorem OFine.pd {now : Int} {ods : List OrdD} (f : OFine now ods) {k : Nat} {o : OrdD} (h : o ∈ going ods k) : 0 ≤ pD now o ∧ pD now o ≤ 1000 := by
  obtain ⟨h1, h2⟩ := going_mem h
  have := pD_bd (f.rest0 o h1) (f.on o h1 k h2)
  have := f.rest1 o h1
  omega

theorem going_le (ods : List OrdD) (k : Nat) : (going ods k).length ≤ ods.length := List.length_filter_le _ _

set_option maxRecDepth 100000 in
set_option maxHeartbeats 1600000 in
theorem wants_any (b : Nat) (vc : Value) (sos : List Value) (vo : Value) (xt : List Ent) (nv : Int) (ods : List OrdD) (g k : Nat) (r now _free : Int) (rests : Bool) (s : Value) (w : World) (h : OAt w b vc sos vo xt nv ods) (f : OFine now ods) (hs : sos[k]? = some s)
    (c0 : w.cell? ⟨g, k * 5, none⟩ = some (I r)) (c2 : w.cell? ⟨g, k * 5 + 2, none⟩ = some s) (c3 : w.cell? ⟨g, k * 5 + 3, none⟩ = some (.bool rests)) (r0 : 0 ≤ r) (r1 : r ≤ 1000) :
    Calls Tryz.prog 71 #[ptr g (k * 5), I now] w fun e w' => e = .returned (I (if rests = true then 0 else r + psum now (going ods k))) ∧ ∃ n, w' = w.drewN n := by
  have hso := h.so k s hs
  obtain ⟨sa, sc, rfl⟩ := row_slice hso
  have hgl : (going ods k).length ≤ 3300 := Nat.le_trans (going_le ods k) f.len
  cases rests with
  | true =>
    clear h f hs hso
    go_enter Tryz.func71, Tryz.ntmps71
    go_wp2_with fail
    go_ret
    exact ⟨rfl, 0, rfl⟩
  | false =>
    have H := hide (And.intro h (And.intro f hso))
    clear h f hs hso
    go_enter Tryz.func71, Tryz.ntmps71
    go_wp2_with fail
    go_loopg [5, 7, 21] (going ods k).length (fun q a _ i wr => ∃ j : Nat, q + j = (going ods k).length ∧ i = I j ∧ a = I (r + psum now ((going ods k).take j)) ∧ Hid (∃ m, wr = w.drewN m))
    case atStart => exact ⟨0, by omega, rfl, by simp [psum], 0, rfl⟩
    case round =>
      obtain ⟨j, hq, rfl, rfl, hd⟩ := hrel
      by_cases hj : j < (going ods k).length
      · obtain ⟨o, ho⟩ : ∃ o, (going ods k)[j]? = some o := ⟨_, List.getElem?_eq_getElem hj⟩
        have hom := List.mem_of_getElem? ho
        obtain ⟨hm, hon⟩ := going_mem hom
        obtain ⟨i, hi⟩ := List.getElem?_of_mem hm
        have hoW : OAt wr b vc sos vo xt nv ods := by obtain ⟨m, rfl⟩ := hd.out; exact (H.out).1.keep ((Frm.refl _ _).drewN m)
        have hsoW : wr.ownsRow 0 110 1 (.slice sa (going ods k).length sc) (going ods k).length ((going ods k).flatMap fun o => [pt o.blk]) := by obtain ⟨m, rfl⟩ := hd.out; exact row_frm (H.out).2.2 ((Frm.refl (fun _ => False) _).drewN m) fun _ _ e => e
        obtain ⟨g', cap', hv, -, hcell, -⟩ := row_at hsoW (fun _ => rfl) ho (by decide)
        injection hv with hv1 hv2 hv3
        subst hv1
        have d0 := hcell 0 (by decide)
        simp at d0
        have fo := (H.out).2.1
        have PA := hide (opart_any o.blk _ o.rest o.stop now wr (hoW.ords i o hi) (fo.rest0 o hm) (fo.rest1 o hm) (fo.on o hm k hon) (fo.stop1 o hm) fo.n0)
        have hsn := psum_snoc now ((going ods k).take j) o
        rw [← take_snoc' ho] at hsn
        have hpd := fo.pd hom
        have hbd := psum_bd ((going ods k).take j) fun x hx => fo.pd (List.mem_of_mem_take hx)
        have htl : ((going ods k).take j).length ≤ 3300 := by simp; omega
        have hpe : (o.rest + (o.stop - now) - 1) / (o.stop - now) = pD now o := rfl
        rw [hpe] at PA
        generalize psum now ((going ods k).take j) = P at *
        generalize pD now o = Q at *
        have HS := hide (And.intro hsn hq)
        clear hsn hq hoW hsoW hcell hv2 hv3 ho hom hm hon hi fo hpe
        go_wp2_with fail
        refine (PA.out).mono ?_
        rintro e w1 ⟨rfl, hw⟩
        have hw' := hw.symm
        subst hw'
        go_wp2_with fail
        go_roundg (gk - 1)
        case measure => have := (HS.out).2; omega
        case rel => exact ⟨j + 1, by have := (HS.out).2; omega, by simp, by rw [(HS.out).1]; congr 1; omega, hd.out⟩
      · have hje : j = (going ods k).length := by omega
        have HK := hide hje
        clear hq hje
        go_wp2_with fail
        go_ret
        exact ⟨ret_int (by rw [HK.out, List.take_length]), hd.out⟩

end Go.Proofs.YtahiolfelcmikaaGreat

/- share. -/
namespace Go.Proofs.YtahiolfelcmikaaGreat
open Go.RowKit

/-- what share leaves of the orders, and of the amount -/
def shareL (now : Int) (k : Nat) : List OrdD → Int → List OrdD × Int
  | [], n => ([], n)
  | o :: l, n => if o.on k = true then ({ o with rest := o.rest - min (pD now o) n } :: (shareL now k l (n - min (pD now o) n)).1, (shareL now k l (n - min (pD now o) n)).2) else (o :: (shareL now k l n).1, (shareL now k l n).2)

theorem shareL_append (now : Int) (k : Nat) : ∀ (A B : List OrdD) (n : Int), shareL now k (A ++ B) n = ((shareL now k A n).1 ++ (shareL now k B (shareL now k A n).2).1, (shareL now k B (shareL now k A n).2).2) := by
  intro A
  induction A with
  | nil => intro B n; simp [shareL]
  | cons o A ih =>
    intro B n
    simp only [List.cons_append, shareL]
    split
    · rw [ih]; simp
    · rw [ih]; simp

theorem shareL_skip (now : Int) (k : Nat) : ∀ (A : List OrdD) (n : Int), (∀ o ∈ A, o.on k = false) → shareL now k A n = (A, n) := by
  intro A
  induction A with
  | nil => intro n _; rfl
  | cons o A ih =>
    intro n h
    have h1 := h o (by simp)
    simp [shareL, h1, ih n fun x hx => h x (List.mem_cons_of_mem _ hx)]

theorem shareL_len (now : Int) (k : Nat) : ∀ (A : List OrdD) (n : Int), (shareL now k A n).1.length = A.length := by
  intro A
  induction A with
  | nil => intro n; rfl
  | cons o A ih =>
    intro n
    simp only [shareL]
    split
    · simp [ih]
    · simp [ih]

theorem shareL_get (now : Int) (k : Nat) : ∀ (A : List OrdD) (n : Int) (i : Nat) (p : OrdD), (shareL now k A n).1[i]? = some p → ∃ o, A[i]? = some o ∧ p.blk = o.blk ∧ p.start = o.start ∧ p.stop = o.stop ∧ p.ch = o.ch ∧ p.beg = o.beg ∧ p.fin = o.fin := by
  intro A
  induction A with
  | nil => intro n i p h; simp [shareL] at h
  | cons o A ih =>
    intro n i p h
    simp only [shareL] at h
    cases i with
    | zero =>
      split at h
      · simp at h; subst h; exact ⟨o, rfl, rfl, rfl, rfl, rfl, rfl, rfl⟩
      · simp at h; subst h; exact ⟨o, rfl, rfl, rfl, rfl, rfl, rfl, rfl⟩
    | succ i =>
      split at h
      · simp at h; exact ih _ i p h
      · simp at h; exact ih _ i p h

/-- the next order that goes -/
theorem next_going (k : Nat) : ∀ (post : List OrdD) (o : OrdD) (tl : List OrdD), going post k = o :: tl → ∃ skip rest, post = skip ++ o :: rest ∧ (∀ x ∈ skip, x.on k = false) ∧ o.on k = true ∧ going rest k = tl := by
  intro post
  induction post with
  | nil => intro o tl h; simp [going] at h
  | cons a l ih =>
    intro o tl h
    unfold going at h
    rw [List.filter_cons] at h
    split at h
    · rename_i ha
      injection h with h1 h2
      subst h1
      exact ⟨[], l, rfl, by simp, ha, h2⟩
    · rename_i ha
      obtain ⟨skip, rest, e1, e2, e3, e4⟩ := ih o tl h
      refine ⟨a :: skip, rest, by rw [e1]; rfl, ?_, e3, e4⟩
      intro x hx
      rcases List.mem_cons.1 hx with rfl | hx
      · simpa using ha
      · exact e2 x hx

theorem going_append (A B : List OrdD) (k : Nat) : going (A ++ B) k = going A k ++ going B k := List.filter_append ..

set_option maxRecDepth 100000 in
set_option maxHeartbeats 3200000 in
theorem share_any (b : Nat) (vc : Value) (sos : List Value) (vo : Value) (xt : List Ent) (nv : Int) (ods : List OrdD) (g k : Nat) (now n : Int) (s : Value) (w : World) (h : OAt w b vc sos vo xt nv ods) (f : OFine now ods) (hs : sos[k]? = some s)
    (c2 : w.cell? ⟨g, k * 5 + 2, none⟩ = some s) (n0 : 0 ≤ n) (n1 : n ≤ 1000) :
    Calls Tryz.prog 88 #[ptr g (k * 5), I now, I n] w fun e w' => e = .returned (.tuple #[]) ∧ OAt w' b vc sos vo xt nv (shareL now k ods n).1 ∧ Frm (fun x => ∃ o ∈ ods, x = o.blk) w w' := by
  have hso := h.so k s hs
  obtain ⟨sa, sc, rfl⟩ := row_slice hso
  have hgl : (going ods k).length ≤ 3300 := Nat.le_trans (going_le ods k) f.len
  have H := hide (And.intro h (And.intro f hs))
  clear h f hs hso
  go_enter Tryz.func88, Tryz.ntmps88
  go_wp2_with fail
  go_loopg [2, 7, 8, 14] (going ods k).length (fun q a _ _ i wr => ∃ (j : Nat) (m : Int), q + j = (going ods k).length ∧ i = I j ∧ a = I m ∧ 0 ≤ m ∧ m ≤ 1000 ∧ Hid (∃ pre post, ods = pre ++ post ∧ (going pre k).length = j ∧ (shareL now k pre n).2 = m ∧ OAt wr b vc sos vo xt nv ((shareL now k pre n).1 ++ post) ∧ Frm (fun x => ∃ o ∈ ods, x = o.blk) w wr))
  case atStart => exact ⟨0, n, by omega, rfl, rfl, n0, n1, [], ods, rfl, rfl, rfl, (H.out).1, Frm.refl _ _⟩
  case round =>
    obtain ⟨j, m, hq, rfl, rfl, m0, m1, hst⟩ := hrel
    obtain ⟨pre, post, e1, e2, e3, ho, fr⟩ := hst.out
    by_cases hj : j < (going ods k).length
    · have hgp : going ods k = going pre k ++ going post k := by rw [e1, going_append]
      obtain ⟨o, tl, hot⟩ : ∃ o tl, going post k = o :: tl := by
        cases hh : going post k with
        | nil => rw [hgp, hh] at hj; simp at hj; omega
        | cons o tl => exact ⟨o, tl, rfl⟩
      obtain ⟨skip, rest, p1, p2, p3, p4⟩ := next_going k post o tl hot
      have hcur : (shareL now k pre n).1 ++ post = ((shareL now k pre n).1 ++ skip) ++ o :: rest := by rw [p1]; simp
      have hpos : ((shareL now k pre n).1 ++ post)[pre.length + skip.length]? = some o := by
        rw [hcur, List.getElem?_append_right (by simp [shareL_len])]
        simp [shareL_len]
      have hsoW := ho.so k _ (H.out).2.2
      have hglen : (going ((shareL now k pre n).1 ++ post) k).length = (going ods k).length := by
        obtain ⟨x, y, hxy⟩ := row_slice hsoW
        injection hxy with q1 q2 q3
        omega
      have hgs : (going ((shareL now k pre n).1 ++ post) k)[j]? = some o := by
        have hl : (going (shareL now k pre n).1 k).length = j := by
          have t1 := congrArg List.length (going_append (shareL now k pre n).1 post k)
          have t2 := congrArg List.length hgp
          simp only [List.length_append] at t1 t2
          omega
        rw [going_append, List.getElem?_append_right (by omega), hl, hot]
        simp
      obtain ⟨g', cap', hv, -, hcell, -⟩ := row_at hsoW (fun _ => rfl) hgs (by decide)
      injection hv with hv1 hv2 hv3
      subst hv1
      have d0 := hcell 0 (by decide)
      simp at d0
      have fo := (H.out).2.1
      have hmo : o ∈ ods := by rw [e1, p1]; simp
      have hbl := ho.ords _ o hpos
      have PA := hide (opart_any o.blk _ o.rest o.stop now wr hbl (fo.rest0 o hmo) (fo.rest1 o hmo) (fo.on o hmo k p3) (fo.stop1 o hmo) fo.n0)
      have b1 : wr.cell? ⟨o.blk, 1, none⟩ = some (I o.rest) := by rw [hbl.cell]; rfl
      have f1 := hbl.frozen 1
      have hpd := fo.pd (k := k) (o := o) (List.mem_filter.2 ⟨hmo, p3⟩)
      have hr0 := fo.rest0 o hmo
      have hr1 := fo.rest1 o hmo
      have hpe : (o.rest + (o.stop - now) - 1) / (o.stop - now) = pD now o := rfl
      rw [hpe] at PA
      have FIN : Hid (∀ (c x : Int), c = min (pD now o) m → x = o.rest - c → ∃ k' : Nat, k' < gk ∧ ∃ (j' : Nat) (m' : Int), k' + j' = (going ods k).length ∧ I ((j : Int) + 1) = I j' ∧ I (m - c) = I m' ∧ 0 ≤ m' ∧ m' ≤ 1000 ∧ Hid (∃ pre post, ods = pre ++ post ∧ (going pre k).length = j' ∧ (shareL now k pre n).2 = m' ∧ OAt (wr.setCell ⟨o.blk, 1, none⟩ (I x)) b vc sos vo xt nv ((shareL now k pre n).1 ++ post) ∧ Frm (fun x => ∃ o ∈ ods, x = o.blk) w (wr.setCell ⟨o.blk, 1, none⟩ (I x)))) := by
        intro c x hc hx
        obtain ⟨q1, q2⟩ := ho.setRest hpos x
        have hsh : shareL now k (pre ++ skip ++ [o]) n = ((shareL now k pre n).1 ++ skip ++ [{ o with rest := x }], m - c) := by
          rw [List.append_assoc, shareL_append, shareL_append, shareL_skip now k skip _ p2]
          simp only [shareL, p3, if_true, e3]
          rw [← hc, ← hx]
          simp
        refine ⟨gk - 1, by omega, j + 1, m - c, by omega, by simp, rfl, by omega, by omega, pre ++ skip ++ [o], rest, by rw [e1, p1]; simp, ?_, by rw [hsh], ?_, ?_⟩
        · rw [going_append, going_append]
          have : going skip k = [] := List.filter_eq_nil_iff.2 fun x hx => by simp [p2 x hx]
          simp [going, p3, ← e2]
          exact p2
        · rw [hsh]
          have e5 : ((shareL now k pre n).1 ++ post).set (pre.length + skip.length) { o with rest := x } = (shareL now k pre n).1 ++ skip ++ [{ o with rest := x }] ++ rest := by
            rw [hcur, List.set_append_right _ _ (by simp [shareL_len])]
            simp [shareL_len]
          rw [← e5]; exact q1
        · exact fr.trans (q2.mono fun y _ hy => ⟨o, hmo, hy⟩)
      generalize pD now o = Q at *
      have HQ := hide hq
      clear hq hst ho fr e1 e2 e3 hgp hot p1 p2 p3 p4 hcur hpos hsoW hglen hgs hcell hv2 hv3 hmo hbl fo hpe
      go_wp2_with fail
      refine (PA.out).mono ?_
      rintro e w1 ⟨rfl, hw⟩
      have hw' := hw.symm
      subst hw'
      by_cases hmin : Q ≤ m
      · have hc : min Q m = Q := by omega
        obtain ⟨k', m1', m2'⟩ := FIN.out Q (o.rest - Q) hc.symm rfl
        have M1 := hide m1'
        have M2 := hide m2'
        clear m1' m2' FIN hc
        go_wp2_with fail
        go_roundg k'
        case measure => exact M1.out
        case rel => exact M2.out
      · have hc : min Q m = m := by omega
        obtain ⟨k', m1', m2'⟩ := FIN.out m (o.rest - m) hc.symm rfl
        have M1 := hide m1'
        have M2 := hide m2'
        clear m1' m2' FIN hc
        go_wp2_with fail
        go_roundg k'
        case measure => exact M1.out
        case rel =>
          obtain ⟨j', m', r1, r2, r3, r4⟩ := M2.out
          have e0 : m - m = 0 := by omega
          rw [e0] at r3
          exact ⟨j', m', r1, r2, r3, r4⟩
    · have hje : j = (going ods k).length := by omega
      have hall : going post k = [] := by
        have hgp : going ods k = going pre k ++ going post k := by rw [e1, going_append]
        have t2 := congrArg List.length hgp
        simp only [List.length_append] at t2
        exact List.eq_nil_of_length_eq_zero (by omega)
      have FI : Hid (OAt wr b vc sos vo xt nv (shareL now k ods n).1 ∧ Frm (fun x => ∃ o ∈ ods, x = o.blk) w wr) := by
        have hsk : ∀ x ∈ post, x.on k = false := fun x hx => by
          have := (List.filter_eq_nil_iff.1 hall) x hx
          simpa using this
        rw [e1, shareL_append, shareL_skip now k post _ hsk]
        exact ⟨ho, by rw [← e1]; exact fr⟩
      clear hq hst ho fr e1 e2 e3 hall hje
      go_wp2_with fail
      go_end0
      exact ⟨rfl, (FI.out).1, (FI.out).2⟩

end Go.Proofs.YtahiolfelcmikaaGreat
