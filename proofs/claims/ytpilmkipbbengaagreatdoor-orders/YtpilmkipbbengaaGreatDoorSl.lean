/- slices.Insert at the orders' list. -/
import Derived.Test.YtpilmkipbbengaaGreatDoorBase
import Derived.Lib.Overlaps
import Derived.Lib.AppendZerosOnto
import Derived.Laws.IdiomCopy
import Derived.Laws.NewBlocks
import Derived.Deep.RegionLaw
namespace Go.Proofs.YtpilmkipbbengaaGreatDoor
open Go.RowKit

theorem infoPO : (Tryz.prog.info? 149).map (fun i => (i.zero, i.size, i.bytes)) = some (some (.pointer none), 1, 8) := by kernel_rfl

/-- copy as a step of a walk, where its run is known -/
theorem wpList_copy {P : Program} (w : World) {ops : Array Oper} {rest : List Oper} {o : Oper} {a : Act} {Q : Exit → Act → World → Prop} (hgd : o.guard = none) (d s : Operand) (t t' : TypeId)
    (ho : o.op = .call { callee := .builtin .copy, args := #[d, s], argTypes := #[t, t'] }) (v u : Value) (hd : a.eval d = v) (hs : a.eval s = u) {v' : Value} {w' : World}
    (hr : (Builtin.copy_ #[t, t'] o.type #[v, u]).run P w = .ok v' w') (h : wpList P ops Q rest (a.put o.dst v') w') : wpList P ops Q (o :: rest) a w :=
  wpList_plain hgd fun _ hK => by
    unfold Oper.wp execOp
    simp only [ho, resolve, invoke, builtin, Sem.run_bind, Sem.run_pure, Result.andThen_ok, List.map_toArray, List.map_cons, List.map_nil, hd, hs, hr]
    exact hK _ _ h

/-- append, likewise -/
theorem wpList_app {P : Program} (w : World) {ops : Array Oper} {rest : List Oper} {o : Oper} {a : Act} {Q : Exit → Act → World → Prop} (hgd : o.guard = none) (d s : Operand) (t t' : TypeId)
    (ho : o.op = .call { callee := .builtin .append, args := #[d, s], argTypes := #[t, t'] }) (v u : Value) (hd : a.eval d = v) (hs : a.eval s = u) {v' : Value} {w' : World}
    (hr : (Builtin.append_ #[t, t'] o.type #[v, u]).run P w = .ok v' w') (h : wpList P ops Q rest (a.put o.dst v') w') : wpList P ops Q (o :: rest) a w :=
  wpList_plain hgd fun _ hK => by
    unfold Oper.wp execOp
    simp only [ho, resolve, invoke, builtin, Sem.run_bind, Sem.run_pure, Result.andThen_ok, List.map_toArray, List.map_cons, List.map_nil, hd, hs, hr]
    exact hK _ _ h

/-- .. and as a step of a region that draws -/
theorem step_copy {P : Program} {ops : Array Oper} {o : Oper} {a : Act} {w : World} {K : Act → World → Prop} {Q : Exit → Act → World → Prop} {E : Prop} (hg : o.guard = none) (d x : Operand) (dT sT : TypeId)
    (hop : o.op = Op.call { callee := Callee.builtin Builtin.copy, args := #[d, x], argTypes := #[dT, sT] }) (v u : Value) (hd : a.eval d = v) (hx : a.eval x = u) {v' : Value} {w' : World}
    (hr : (Builtin.copy_ #[dT, sT] o.type #[v, u]).run P w = .ok v' w') (hK : K (a.put o.dst v') w') : if Region.wanted o (yielded ops a.tmps) = true then Oper.wp P o a w K Q else E := by
  have hw : Region.wanted o (yielded ops a.tmps) = true := by simp [Region.wanted, hg]
  rw [if_pos hw]
  unfold Oper.wp
  simp [execOp, hop, resolve, invoke, builtin, hd, hx, hr]
  exact hK

theorem Blk.setCells {T : TypeId} (g : Nat) : ∀ (vs : List Value) (o : Nat) (w : World) (cur : Array Value), Blk w g cur T → ∃ cur', Blk (w.setCells g o vs) g cur' T ∧ cur'.size = cur.size ∧
    ∀ k, k < cur.size → cur'[k]? = if o ≤ k ∧ k < o + vs.length then vs[k - o]? else cur[k]? := by
  intro vs
  induction vs with
  | nil =>
    intro o w cur h
    refine ⟨cur, h, rfl, fun k _ => ?_⟩
    rw [if_neg (by intro e; simp at e; omega)]
  | cons v vs ih =>
    intro o w cur h
    obtain ⟨cur', h1, h2, h3⟩ := ih (o + 1) (w.setCell ⟨g, o, none⟩ v) (cur.setIfInBounds o v) (h.set o v)
    refine ⟨cur', h1, by rw [h2]; simp, fun k hk => ?_⟩
    rw [h3 k (by simpa using hk), Array.getElem?_setIfInBounds]
    by_cases q1 : o + 1 ≤ k ∧ k < o + 1 + vs.length
    · rw [if_pos q1, if_pos (by simp; omega)]
      have : k - o = k - (o + 1) + 1 := by omega
      rw [this]; simp
    · rw [if_neg q1]
      by_cases q2 : o = k
      · subst q2
        simp [hk]
      · rw [if_neg q2, if_neg (by simp; omega)]

theorem Frm.setCells {S : Nat → Prop} {a : World} {g : Nat} (hg : S g) : ∀ (vs : List Value) (o : Nat) (b : World), Frm S a b → Frm S a (b.setCells g o vs) := by
  intro vs
  induction vs with
  | nil => intro o b h; exact h
  | cons v vs ih => intro o b h; exact ih (o + 1) _ (h.setCell (p := ⟨g, o, none⟩) hg v)

theorem Blk.setCellsOther {T : TypeId} {b g : Nat} (hb : b ≠ g) : ∀ (vs : List Value) (o : Nat) (w : World) (cur : Array Value), Blk w b cur T → Blk (w.setCells g o vs) b cur T := by
  intro vs
  induction vs with
  | nil => intro o w cur h; exact h
  | cons v vs ih => intro o w cur h; exact ih (o + 1) _ cur (h.other (p := ⟨g, o, none⟩) hb v)

def ins (xs : List Value) (i : Nat) (p : Value) : List Value := xs.take i ++ p :: xs.drop i

theorem ins_len (xs : List Value) (i : Nat) (p : Value) (h : i ≤ xs.length) : (ins xs i p).length = xs.length + 1 := by simp [ins]; omega

theorem ins_get (xs : List Value) (i : Nat) (p : Value) (h : i ≤ xs.length) (k : Nat) : (ins xs i p)[k]? = if k < i then xs[k]? else if k = i then some p else xs[k - 1]? := by
  unfold ins
  rw [List.getElem?_append]
  have hl : (xs.take i).length = i := by simp; omega
  rw [hl]
  by_cases h1 : k < i
  · rw [if_pos h1, if_pos h1, List.getElem?_take_of_lt h1]
  · rw [if_neg h1, if_neg h1]
    by_cases h2 : k = i
    · subst h2; simp
    · rw [if_neg h2]
      have : k - i = (k - i - 1) + 1 := by omega
      rw [this, List.getElem?_cons_succ, List.getElem?_drop]
      congr 1; omega

/-- a row out of a block's cells -/
theorem row_mk {w : World} {g cap n : Nat} {cur : Array Value} {T : TypeId} {xs : List Value} (h : Blk w g cur T) (h1 : n ≤ cap) (h2 : cap ≤ maxLen) (h3 : cur.size = cap) (h4 : xs.length = n) (h5 : ∀ k, k < n → cur[k]? = xs[k]?) : w.ownsRow 0 T 1 (.slice (some ⟨g, 0, none⟩) n cap) n xs := by
  refine ⟨by omega, Or.inr ⟨g, cap, cur, rfl, Nat.zero_le _, h, h1, h2, by omega, ?_⟩⟩
  rw [Nat.mul_one]
  apply List.ext_getElem?
  intro k
  by_cases hk : k < n
  · rw [List.getElem?_take_of_lt hk, ← h5 k hk]; simp
  · rw [List.getElem?_eq_none (by simp; omega), List.getElem?_eq_none (by omega)]

/-- what Insert leaves -/
def InsEnd (w : World) (v : Value) (n : Nat) (xs : List Value) (i : Nat) (p : Value) (e : Ending) (w' : World) : Prop :=
  ∃ v', e = .returned v' ∧ w'.ownsRow 0 149 1 v' (n + 1) (ins xs i p) ∧ (v'.ownBlock = v.ownBlock ∨ ∃ g, v'.ownBlock = some g ∧ w.heap.size ≤ g) ∧ Frm (fun x => v.ownBlock = some x) w w'

set_option maxRecDepth 100000 in
set_option maxHeartbeats 1600000 in
theorem insert_end (v : Value) (n : Nat) (xs : List Value) (vb : Nat) (p : Value) (w : World) (hr : w.ownsRow 0 149 1 v n xs) (hp1 : p.oneCell' = true) (hn : n ≤ 100000) (hvb : Blk w vb #[p] 149) :
    Calls Tryz.prog 123 #[v, I n, .slice (some ⟨vb, 0, none⟩) 1 1] w fun e w' => InsEnd w v n xs n p e w' := by
  obtain ⟨iO, hiO, hzO0, hzO1, hzO2⟩ := info_parts infoPO
  obtain ⟨a, cap, rfl⟩ := row_slice hr
  have hcap : n ≤ cap := by
    rcases hr.2 with ⟨e, -⟩ | ⟨g, c, cur, e, -, -, h3, -⟩
    · injection e with e1 e2 e3; omega
    · injection e with e1 e2 e3; omega
  have hxl : xs.length = n := by have := hr.1; omega
  have hcell : ∀ j u, [p][j]? = some u → w.cell? ((⟨vb, 0, none⟩ : Addr).add j) = some u := by
    intro j u hj
    rw [Addr.add_lit, hvb.cell]
    simpa using hj
  have H := hide (And.intro hr hcell)
  clear hr hcell hvb
  have e1 : ins xs n p = xs ++ [p] := by simp [ins, ← hxl]
  have hnone : a = none → n = 0 := by
    intro e
    rcases (H.out).1.2 with ⟨e', h0⟩ | ⟨g, c, cur, e', _⟩
    · exact h0
    · rw [e] at e'; injection e' with e1; cases e1
  have FI : Hid (∀ v' w', w'.ownsRow 0 149 1 v' (n + 1) (xs ++ [p]) → w.grownBy w' (Value.slice a n cap).ownBlock → (v'.ownBlock = (Value.slice a n cap).ownBlock ∨ (v'.ownBlock = some w.heap.size ∧ w.grownBy w' none)) → InsEnd w (.slice a n cap) n xs n p (.returned v') w') := by
    intro v' w' h1 h2 h3
    refine ⟨v', rfl, by rw [e1]; exact h1, ?_, grown_frm h2⟩
    rcases h3 with e | ⟨e, -⟩
    · exact Or.inl e
    · exact Or.inr ⟨_, e, Nat.le_refl _⟩
  clear e1 hxl
  go_enter Tryz.func123, Tryz.ntmps123
  go_wp2_with (at_builtin; refine wpList_append_row _ rfl _ _ 73 rfl 149 iO (.pointer none) 1 8 Tryz.underlying73 hiO hzO0 hzO1 hzO2 rfl (by decide) _ _ _ rfl (H.out).1 ⟨vb, 0, none⟩ 1 1 [p] rfl rfl (H.out).2 (by intro u hu; simp at hu; subst hu; exact hp1) (by unfold maxLen; omega) (by omega) ?_; intro v' w' hown hgr hnew; have FF := hide (FI.out v' w' hown hgr hnew); clear hown hgr hnew)
  all_goals go_ret
  all_goals first | exact FF.out | (subst h; exact FF.out)

theorem Blk.shape {w : World} {b : Nat} {c : Array Value} {T : TypeId} (h : Blk w b c T) : w.shape? b = some (T, c.size) := by
  unfold Blk at h
  simp [World.shape?, h]

theorem isSome_setCells' {T : TypeId} {g : Nat} {w : World} {cur : Array Value} (h : Blk w g cur T) {k : Nat} (hk : k < cur.size) : (w.cell? ⟨g, k, none⟩).isSome = true := by
  rw [h.cell, Array.getElem?_eq_getElem hk]; rfl

theorem sizeO (w : World) : (Go.sizeOf 149).run Tryz.prog w = .ok 1 w := by kernel_rfl

set_option maxRecDepth 100000 in
set_option maxHeartbeats 4000000 in
theorem insert_shift (g n cap i vb : Nat) (xs : List Value) (cur : Array Value) (p : Value) (w : World) (hg : Blk w g cur 149) (hcs : cur.size = cap) (hcm : cap ≤ maxLen) (hxl : xs.length = n) (hxs : ∀ k, k < n → cur[k]? = xs[k]?) (hx1 : ∀ u ∈ xs, u.oneCell' = true) (hp1 : p.oneCell' = true) (hi : i < n) (hroom : n + 1 ≤ cap) (hn : n ≤ 100000)
    (hvb : Blk w vb #[p] 149) (hne : vb ≠ g) :
    Calls Tryz.prog 123 #[.slice (some ⟨g, 0, none⟩) n cap, I i, .slice (some ⟨vb, 0, none⟩) 1 1] w fun e w' => InsEnd w (.slice (some ⟨g, 0, none⟩) n cap) n xs i p e w' := by
  have hsz : (Tryz.prog.info? 149).map (·.size) = some 1 := by
    obtain ⟨iO, hiO, h0, h1, h2⟩ := info_parts infoPO
    rw [hiO]; simp [h1]
  have hfe : w.frozen? ⟨vb, 1, none⟩ = false := hvb.frozen 1
  have hov : ∀ lb cb, (callFunc 143 #[.slice (some ⟨vb, 0, none⟩) 1 1, .slice (some ⟨g, i + 1, none⟩) lb cb]).run Tryz.prog w = .ok (.value (.bool false)) w := fun lb cb => by
    rw [run_callFunc_extern Tryz.func143 (by kernel_rfl) (by kernel_rfl) (by kernel_rfl) (e := Extern.SlicesOverlaps.overlaps #[73, 73] #[4]) (by kernel_rfl),
      Lib.run_overlaps_apart w 73 4 149 Tryz.underlying73 1 sizeO ⟨vb, 0, none⟩ ⟨g, i + 1, none⟩ 1 1 lb cb hne 149 149 1 cap hvb.shape (by rw [hg.shape, hcs]) (by omega) (hvb.frozen 0) hfe]
    rfl
  have hdl : (xs.drop i).length = n - i := by rw [List.length_drop, hxl]
  have hcp1 : ∀ ty dc sc, (Builtin.copy_ #[73, 73] ty #[.slice (some ⟨g, i + 1, none⟩) (n - i) dc, .slice (some ⟨g, i, none⟩) (n + 1 - i) sc]).run Tryz.prog w.drew = .ok (goInt (xs.drop i).length) (w.drew.setCells g (i + 1) (xs.drop i)) := fun ty dc sc =>
    run_copy_cells w.drew _ _ ty 149 g (i + 1) (n - i) dc ⟨g, i, none⟩ (n + 1 - i) sc (xs.drop i) Tryz.underlying73 hsz (by rw [hdl]; simp only [Nat.min_def]; split <;> omega)
      (fun j v hj => by
        rw [Addr.add_lit, hg.drew.cell]
        rw [List.getElem?_drop] at hj
        rw [hxs (i + j) (by have := (List.getElem?_eq_some_iff.1 hj).1; omega)]; exact hj)
      (fun j hj => isSome_setCells' hg.drew (by omega)) (fun j _ => hg.drew.frozen _) (fun v hv => hx1 v (List.mem_of_mem_drop hv))
  obtain ⟨c1, b1, s1, e1⟩ := Blk.setCells g (xs.drop i) (i + 1) w.drew cur hg.drew
  have v1 : Blk (w.drew.setCells g (i + 1) (xs.drop i)) vb #[p] 149 := Blk.setCellsOther hne _ _ _ _ hvb.drew
  have f1 : Frm (fun x => x = g) w (w.drew.setCells g (i + 1) (xs.drop i)) := Frm.setCells (S := fun x => x = g) (g := g) rfl _ _ _ ((Frm.refl (fun x => x = g) w).drew)
  generalize hW1 : w.drew.setCells g (i + 1) (xs.drop i) = W1 at *
  have hcp2 : ∀ ty dc, (Builtin.copy_ #[73, 73] ty #[.slice (some ⟨g, i, none⟩) (n + 1 - i) dc, .slice (some ⟨vb, 0, none⟩) 1 1]).run Tryz.prog W1 = .ok (goInt [p].length) (W1.setCells g i [p]) := fun ty dc =>
    run_copy_cells W1 _ _ ty 149 g i (n + 1 - i) dc ⟨vb, 0, none⟩ 1 1 [p] Tryz.underlying73 hsz (by simp only [Nat.min_def, List.length_singleton]; split <;> omega)
      (fun j v hj => by rw [Addr.add_lit, v1.cell]; simpa using hj)
      (fun j hj => isSome_setCells' b1 (by simp at hj; omega)) (fun j _ => b1.frozen _) (fun v hv => by simp at hv; subst hv; exact hp1)
  obtain ⟨c2, b2, s2, e2⟩ := Blk.setCells g [p] i W1 c1 b1
  have f2 : Frm (fun x => x = g) w (W1.setCells g i [p]) := Frm.setCells (S := fun x => x = g) (g := g) rfl _ _ _ f1
  have FI : Hid (InsEnd w (.slice (some ⟨g, 0, none⟩) n cap) n xs i p (.returned (.slice (some ⟨g, 0, none⟩) (n + 1) cap)) (W1.setCells g i [p])) := by
    refine ⟨_, rfl, row_mk b2 hroom hcm (by omega) (by rw [ins_len _ _ _ (by omega)]; omega) ?_, Or.inl rfl, f2.mono fun x _ e => by rw [e]; rfl⟩
    intro k hk
    rw [e2 k (by omega), ins_get xs i p (by omega)]
    by_cases q1 : k < i
    · rw [if_neg (by simp; omega), if_pos q1, e1 k (by omega), if_neg (by simp; omega), hxs k (by omega)]
    · by_cases q2 : k = i
      · subst q2; simp
      · rw [if_neg (by simp; omega), if_neg q1, if_neg q2, e1 k (by omega), if_pos (by rw [hdl]; omega), List.getElem?_drop]
        congr 1; omega
  have hz2 : ¬ ((i : Int) = (n : Int)) := by omega
  have hw1 : IntKind.i64.wrap ((i : Int) + 1) = (i : Int) + 1 := wrap_id _ (by omega) (by omega)
  have hb1 : (0 : Int) ≤ (i : Int) + 1 := by omega
  have hin : i ≤ n := by omega
  have htn : ((i : Int) + 1).toNat = i + 1 := by omega
  have hb2 : ¬ (cap = i + 1) := by omega
  have hb3 : (i : Int) ≤ (n : Int) + 1 := by omega
  have hb4 : ¬ (cap = i) := by omega
  have hc63 : cap ≤ 9223372036854775807 := by unfold maxLen at hcm; omega
  have HCP1 := hide hcp1
  have HCP2 := hide hcp2
  clear hcp1 hcp2 hW1 e1 e2 s1 s2 b1 b2 v1 f1 f2 hxs hx1 hg hvb hdl
  go_enter Tryz.func123, Tryz.ntmps123
  go_wp2_with (simp only [hov])
  go_region_law (refine step_copy rfl (.tmp 73) (.tmp 76) 73 73 rfl (.slice (some ⟨g, i + 1, none⟩) (n - i) (cap - (i + 1))) (.slice (some ⟨g, i, none⟩) (n + 1 - i) (cap - i)) (by simp [Act.eval, Act.put]) (by simp [Act.eval, Act.put]) (HCP1.out _ _ _) ?_)
  go_wp2_with fail
  rw [HCP2.out]
  go_wp2_with fail
  go_ret
  exact FI.out


set_option maxRecDepth 100000 in
set_option maxHeartbeats 4000000 in
theorem insert_grow (g n i vb : Nat) (xs : List Value) (cur : Array Value) (p : Value) (w : World) (hg : Blk w g cur 149) (hcs : cur.size = n) (hxl : xs.length = n) (hxs : ∀ k, k < n → cur[k]? = xs[k]?) (hx1 : ∀ u ∈ xs, u.oneCell' = true) (hp1 : p.oneCell' = true) (hi : i < n) (hn : n ≤ 100000)
    (hvb : Blk w vb #[p] 149) :
    Calls Tryz.prog 123 #[.slice (some ⟨g, 0, none⟩) n n, I i, .slice (some ⟨vb, 0, none⟩) 1 1] w fun e w' => InsEnd w (.slice (some ⟨g, 0, none⟩) n n) n xs i p e w' := by
  obtain ⟨iO, hiO, hz0, hzs, hzb⟩ := info_parts infoPO
  have hsz : (Tryz.prog.info? 149).map (·.size) = some 1 := by rw [hiO]; simp [hzs]
  have hgl := hg.lt
  have hvl := hvb.lt
  have hold : (Builtin.firstCells iO.size i (.slice (some ⟨g, 0, none⟩) i n)).run Tryz.prog w.drew = .ok (xs.take i).toArray w.drew := by
    rw [hzs]
    exact run_firstCells_some w.drew 1 i ⟨g, 0, none⟩ i n (xs.take i) (by rw [List.length_take]; omega) (fun j v hj => by
      rw [Addr.add_lit, hg.drew.cell, Nat.zero_add]
      rw [List.getElem?_take] at hj
      split at hj
      · rw [hxs j (by omega)]; exact hj
      · cases hj)
  have hik : i + (n + 1 - i) = n + 1 := by omega
  have hkk : (n : Int) + 1 - (i : Int) = ((n + 1 - i : Nat) : Int) := by omega
  have hrz : ∀ ty, (Builtin.append_ #[73, 3] ty #[.slice (some ⟨g, 0, none⟩) i n, .int .i64 ((n : Int) + 1 - (i : Int))]).run Tryz.prog w =
      .ok (.slice (some ⟨w.heap.size, 0, none⟩) (n + 1) (grownCap w (n + 1) n 149)) (w.drew.alloc (.cells ((xs.take i).toArray ++ Builtin.zeroCells (Value.pointer none).cells (n + 1 - i) ++ Builtin.zeroCells (Value.pointer none).cells (grownCap w (n + 1) n 149 - (n + 1))) 149)) := fun ty => by
    have h := Lib.run_append_grow_zeros w 73 3 ty 149 iO _ .i64 .i64 Tryz.underlying73 Tryz.underlying3 hiO hz0 (some ⟨g, 0, none⟩) i n (xs.take i) hold (n + 1 - i) (by omega) (by omega) (by omega) (by omega) (by rw [hzb]; omega) (by rw [hzb, hik]; exact growslice_fits (by omega) (by omega))
    rw [hik] at h
    rw [hkk]
    exact h
  have hGn : n + 1 ≤ grownCap w (n + 1) n 149 := grownCap_ge w _ _ _
  have hG63 : grownCap w (n + 1) n 149 ≤ maxLen := grownCap_le_maxLen w (n + 1) n 149 (by unfold maxLen; omega)
  generalize grownCap w (n + 1) n 149 = G at *
  generalize hROW : (xs.take i).toArray ++ Builtin.zeroCells (Value.pointer none).cells (n + 1 - i) ++ Builtin.zeroCells (Value.pointer none).cells (G - (n + 1)) = ROW at *
  have hRs : ROW.size = G := by
    rw [← hROW]
    simp [Builtin.zeroCells, Value.cells]
    omega
  have hRx : ∀ k, k < i → ROW[k]? = xs[k]? := by
    intro k hk
    rw [← hROW, Array.getElem?_append, if_pos (by simp; omega), Array.getElem?_append, if_pos (by simp; omega)]
    simp [List.getElem?_take_of_lt hk]
  have b1 : Blk (w.drew.alloc (.cells ROW 149)) w.heap.size ROW 149 := Blk.new w.drew ROW 149
  have v1 : Blk (w.drew.alloc (.cells ROW 149)) vb #[p] 149 := hvb.drew.alloc _
  have g1 : Blk (w.drew.alloc (.cells ROW 149)) g cur 149 := hg.drew.alloc _
  have f1 : Frm (fun x => w.heap.size ≤ x) w (w.drew.alloc (.cells ROW 149)) := ((Frm.refl _ _).drew).alloc _
  generalize hW1 : w.drew.alloc (.cells ROW 149) = W1 at *
  have hcpA : ∀ ty dc, (Builtin.copy_ #[73, 73] ty #[.slice (some ⟨w.heap.size, i, none⟩) (n + 1 - i) dc, .slice (some ⟨vb, 0, none⟩) 1 1]).run Tryz.prog W1 = .ok (goInt [p].length) (W1.setCells w.heap.size i [p]) := fun ty dc =>
    run_copy_cells W1 _ _ ty 149 w.heap.size i (n + 1 - i) dc ⟨vb, 0, none⟩ 1 1 [p] Tryz.underlying73 hsz (by simp only [Nat.min_def, List.length_singleton]; split <;> omega)
      (fun j v hj => by rw [Addr.add_lit, v1.cell]; simpa using hj)
      (fun j hj => isSome_setCells' b1 (by simp at hj; omega)) (fun j _ => b1.frozen _) (fun v hv => by simp at hv; subst hv; exact hp1)
  obtain ⟨c2, b2, s2, e2⟩ := Blk.setCells w.heap.size [p] i W1 ROW b1
  have g2 : Blk (W1.setCells w.heap.size i [p]) g cur 149 := Blk.setCellsOther (by omega) _ _ _ _ g1
  have f2 : Frm (fun x => w.heap.size ≤ x) w (W1.setCells w.heap.size i [p]) := Frm.setCells (S := fun x => w.heap.size ≤ x) (g := w.heap.size) (Nat.le_refl _) _ _ _ f1
  generalize hW2 : W1.setCells w.heap.size i [p] = W2 at *
  have hdl : (xs.drop i).length = n - i := by rw [List.length_drop, hxl]
  have hcpB : ∀ ty dc sc, (Builtin.copy_ #[73, 73] ty #[.slice (some ⟨w.heap.size, i + 1, none⟩) (n - i) dc, .slice (some ⟨g, i, none⟩) (n - i) sc]).run Tryz.prog W2.drew = .ok (goInt (xs.drop i).length) (W2.drew.setCells w.heap.size (i + 1) (xs.drop i)) := fun ty dc sc =>
    run_copy_cells W2.drew _ _ ty 149 w.heap.size (i + 1) (n - i) dc ⟨g, i, none⟩ (n - i) sc (xs.drop i) Tryz.underlying73 hsz (by rw [hdl]; simp only [Nat.min_def]; split <;> omega)
      (fun j v hj => by
        rw [Addr.add_lit, g2.drew.cell]
        rw [List.getElem?_drop] at hj
        rw [hxs (i + j) (by have := (List.getElem?_eq_some_iff.1 hj).1; omega)]; exact hj)
      (fun j hj => isSome_setCells' b2.drew (by omega)) (fun j _ => b2.drew.frozen _) (fun v hv => hx1 v (List.mem_of_mem_drop hv))
  obtain ⟨c3, b3, s3, e3⟩ := Blk.setCells w.heap.size (xs.drop i) (i + 1) W2.drew c2 b2.drew
  have f3 : Frm (fun x => w.heap.size ≤ x) w (W2.drew.setCells w.heap.size (i + 1) (xs.drop i)) := Frm.setCells (S := fun x => w.heap.size ≤ x) (g := w.heap.size) (Nat.le_refl _) _ _ _ f2.drew
  have FI : Hid (InsEnd w (.slice (some ⟨g, 0, none⟩) n n) n xs i p (.returned (.slice (some ⟨w.heap.size, 0, none⟩) (n + 1) G)) (W2.drew.setCells w.heap.size (i + 1) (xs.drop i))) := by
    refine ⟨_, rfl, row_mk b3 hGn hG63 (by omega) (by rw [ins_len _ _ _ (by omega)]; omega) ?_, Or.inr ⟨_, rfl, Nat.le_refl _⟩, f3.mono fun x hx e => absurd e (by omega)⟩
    intro k hk
    rw [e3 k (by omega), ins_get xs i p (by omega)]
    by_cases q1 : k < i
    · rw [if_neg (by omega), if_pos q1, e2 k (by omega), if_neg (by omega), hRx k q1]
    · by_cases q2 : k = i
      · subst q2
        rw [if_neg (by omega), if_neg q1, if_pos rfl, e2 k (by omega), if_pos (by simp)]
        simp
      · rw [if_pos (by rw [hdl]; omega), if_neg q1, if_neg q2, List.getElem?_drop]
        congr 1; omega
  have hz2 : ¬ ((i : Int) = (n : Int)) := by omega
  have hw1 : IntKind.i64.wrap ((i : Int) + 1) = (i : Int) + 1 := wrap_id _ (by omega) (by omega)
  have hb1 : (0 : Int) ≤ (i : Int) + 1 := by omega
  have hin : i ≤ n := by omega
  have htn : ((i : Int) + 1).toNat = i + 1 := by omega
  have hb3 : (i : Int) ≤ (n : Int) + 1 := by omega
  have hb4 : ¬ (n = i) := by omega
  have hGi : ¬ (G = i) := by omega
  have hGim : ¬ (G = i + 1) := by omega
  have hG63' : G ≤ 9223372036854775807 := by unfold maxLen at hG63; omega
  have HRZ := hide hrz
  have HCA := hide hcpA
  have HCB := hide hcpB
  clear hrz hcpA hcpB hW1 hW2 hROW e2 e3 s2 s3 b1 b2 b3 v1 g1 g2 f1 f2 f3 hxs hx1 hg hvb hdl hRs hRx hold hik hkk hG63 hGn
  go_enter Tryz.func123, Tryz.ntmps123
  go_wp2_with (at_builtin; refine wpList_app _ rfl (.tmp 34) (.tmp 39) 73 3 rfl (.slice (some ⟨g, 0, none⟩) i n) (.int .i64 ((n : Int) + 1 - (i : Int))) rfl rfl (HRZ.out _) ?_)
  rw [HCA.out]
  go_wp2_with fail
  go_region_law (refine step_copy rfl (.tmp 50) (.tmp 53) 73 73 rfl (.slice (some ⟨w.heap.size, i + 1, none⟩) (n - i) (G - (i + 1))) (.slice (some ⟨g, i, none⟩) (n - i) (n - i)) (by simp [Act.eval, Act.put]) (by simp [Act.eval, Act.put]) (HCB.out _ _ _) ?_)
  go_wp2_with fail
  go_ret
  exact FI.out

theorem insert_any (v : Value) (n : Nat) (xs : List Value) (i vb : Nat) (p : Value) (w : World) (hr : w.ownsRow 0 149 1 v n xs) (hx1 : ∀ u ∈ xs, u.oneCell' = true) (hp1 : p.oneCell' = true) (hi : i ≤ n) (hn : n ≤ 100000) (hvb : Blk w vb #[p] 149) (hne : v.ownBlock ≠ some vb) :
    Calls Tryz.prog 123 #[v, I i, .slice (some ⟨vb, 0, none⟩) 1 1] w fun e w' => InsEnd w v n xs i p e w' := by
  by_cases h : i = n
  · subst h
    exact insert_end v i xs vb p w hr hp1 hn hvb
  · have hxl : xs.length = n := by have := hr.1; omega
    rcases hr.2 with ⟨-, h0⟩ | ⟨g, cap, cur, rfl, -, h2, h3, h4, h5, h6⟩
    · omega
    · have hg : Blk w g cur 149 := h2
      have hxs : ∀ k, k < n → cur[k]? = xs[k]? := by
        intro k hk
        rw [← h6, List.getElem?_take_of_lt (by omega)]
        simp
      have hne' : vb ≠ g := fun e => hne (by rw [e]; rfl)
      by_cases hc : n + 1 ≤ cap
      · exact insert_shift g n cap i vb xs cur p w hg (by omega) h4 hxl hxs hx1 hp1 (by omega) hc hn hvb hne'
      · have hcn : cap = n := by omega
        subst hcn
        exact insert_grow g cap i vb xs cur p w hg (by omega) hxl hxs hx1 hp1 (by omega) hn hvb

end Go.Proofs.YtpilmkipbbengaaGreatDoor
