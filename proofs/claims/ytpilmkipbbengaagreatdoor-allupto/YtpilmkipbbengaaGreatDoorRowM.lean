/- The argument, opened: a script that stands in memory. -/
import Derived.Test.YtpilmkipbbengaaGreatDoorStpM
import Derived.ProofKit
import Derived.OpenShut
import Derived.JoinedCond
import Derived.Deep.Slices
import Derived.Carry
namespace Go.Proofs.YtpilmkipbbengaaGreatDoor
open Go.ChangeShapes Go.WideShapes Go.ChangeAt Go.RowKit

theorem bulk_one {H : Type} (d : DataW H) : 1 ≤ Rows.uptoBulk d := by
  cases d with
  | lit l => cases l <;> simp [Rows.uptoBulk]
  | nil => simp [Rows.uptoBulk]
  | ptr d => simp [Rows.uptoBulk]
  | slice elems spare => simp [Rows.uptoBulk]
  | agg parts => simp [Rows.uptoBulk]
  | iface t d => simp [Rows.uptoBulk]
  | map entries => simp [Rows.uptoBulk]
  | held h => simp [Rows.uptoBulk]
theorem bulk_part {H : Type} {d : DataW H} {l : List (DataW H)} (h : d ∈ l) : Rows.uptoBulk d ≤ Rows.uptoBulkAll l := by
  induction l with
  | nil => cases h
  | cons x r ih =>
    simp only [Rows.uptoBulkAll]
    cases List.mem_cons.1 h with
    | inl e => subst e; omega
    | inr e => have := ih e; omega
theorem bulk_len {H : Type} (l : List (DataW H)) : l.length ≤ Rows.uptoBulkAll l := by
  induction l with
  | nil => simp [Rows.uptoBulkAll]
  | cons x r ih => have := bulk_one x; simp only [Rows.uptoBulkAll, List.length_cons]; omega
theorem bulk_slice {H : Type} (elems spare : List (DataW H)) : Rows.uptoBulkAll elems + 1 ≤ Rows.uptoBulk (.slice elems spare) := by
  simp only [Rows.uptoBulk]; omega

theorem bulk_len2 {H : Type} (l : List (DataW H)) (h : ∀ d ∈ l, 2 ≤ Rows.uptoBulk d) : 2 * l.length ≤ Rows.uptoBulkAll l := by
  induction l with
  | nil => simp [Rows.uptoBulkAll]
  | cons x r ih => have := h x (by simp); have := ih fun d hd => h d (List.mem_cons_of_mem _ hd); simp only [Rows.uptoBulkAll, List.length_cons]; omega

theorem cellsL : Tryz.prog.cellsOf 60 = 3 := by kernel_rfl
theorem cellsI : Tryz.prog.cellsOf 3 = 1 := by kernel_rfl
theorem cellsSL : Tryz.prog.cellsOf 28 = 1 := by kernel_rfl
theorem cellsCfg : Tryz.prog.cellsOf 30 = 3 := by kernel_rfl
theorem cellsStr : Tryz.prog.cellsOf 9 = 1 := by kernel_rfl
theorem cellsOp : Tryz.prog.cellsOf 62 = 10 := by kernel_rfl

theorem add_at (a : Addr) (h : a.spot = none) (i : Nat) : a.add i = ⟨a.block, a.off + i, none⟩ := by
  cases a with
  | mk b o s => simp at h; subst h; exact Addr.add_lit ..

section
variable {H : Type} {enc : TypeId × Value → H} {W : World}

set_option maxRecDepth 100000 in
theorem open_lim {n : Nat} {cs : List Value} {x : DataW H × List MemPlace} (h : DataW.trod enc Tryz.prog W 0 (fun _ => true) true n 60 cs = some x) : ∃ l : Lim, cs = [I l.ch, I l.win, I l.cap] := by
  obtain ⟨xs, k, hk, hx, hl, hxl, hf⟩ := DataW.trod_struct Tryz.underlying60 h
  rw [cellsL] at hl
  match cs, hl with
  | [v0, v1, v2], _ =>
    have g0 := hf 0 _ rfl
    have g1 := hf 1 _ rfl
    have g2 := hf 2 _ rfl
    simp [cellsI] at g0 g1 g2
    have l0 : 0 < xs.length := by rw [hxl]; decide
    have l1 : 1 < xs.length := by rw [hxl]; decide
    have l2 : 2 < xs.length := by rw [hxl]; decide
    rw [List.getElem?_eq_getElem l0] at g0
    rw [List.getElem?_eq_getElem l1] at g1
    rw [List.getElem?_eq_getElem l2] at g2
    obtain ⟨n0, e0, -⟩ := DataW.trod_int Tryz.underlying3 g0
    obtain ⟨n1, e1, -⟩ := DataW.trod_int Tryz.underlying3 g1
    obtain ⟨n2, e2, -⟩ := DataW.trod_int Tryz.underlying3 g2
    simp at e0 e1 e2
    exact ⟨⟨n0, n1, n2⟩, by rw [e0, e1, e2]⟩

set_option maxRecDepth 100000 in
theorem open_lims {n : Nat} {v : Value} {x : DataW H × List MemPlace} (h : DataW.trod enc Tryz.prog W 0 (fun _ => true) true n 28 [v] = some x) :
    ∃ a lims cap, v = .slice a (List.length (α := Lim) lims) cap ∧ SeeL W a lims ∧ (a = none → lims.length = 0 ∧ cap = 0) ∧ lims.length ≤ cap ∧ lims.length ≤ Rows.uptoBulk x.1 := by
  rcases Deep.open_slice Tryz.underlying28 h with ⟨h0, -⟩ | ⟨a, len, cap, m, k, D, Pl, h0, hb, hl, hm, hmm, rfl, hx⟩
  · simp at h0; subst h0
    exact ⟨none, [], 0, rfl, Or.inl rfl, fun _ => ⟨rfl, rfl⟩, Nat.le_refl _, by simp⟩
  · simp at h0; subst h0
    have hmm : m = cap := by simpa using hmm
    have each : ∀ i, i < len → ∃ l : Lim, W.cell? (a.add (i * 3)) = some (I l.ch) ∧ W.cell? (a.add (i * 3 + 1)) = some (I l.win) ∧ W.cell? (a.add (i * 3 + 2)) = some (I l.cap) := by
      intro i hi
      obtain ⟨cs', h1, h2⟩ := hx i (by omega)
      rw [cellsL] at h1
      obtain ⟨l, rfl⟩ := open_lim h2
      obtain ⟨-, -, hc⟩ := World.cells?_some h1
      have c0 := hc 0 (by decide)
      have c1 := hc 1 (by decide)
      have c2 := hc 2 (by decide)
      rw [Deep.add_add] at c0 c1 c2
      exact ⟨l, by simpa using c0, by simpa using c1, by simpa using c2⟩
    have inh : Inhabited Lim := ⟨⟨0, 0, 0⟩⟩
    obtain ⟨f, hf⟩ := Deep.choose_lt each
    refine ⟨some a, (List.range len).map f, cap, by simp, ?_, by simp, by simpa using hl, ?_⟩
    · by_cases h0 : len = 0
      · subst h0; exact Or.inl rfl
      · have c0 := (hf 0 (by omega)).1
        have hsp : a.spot = none := by
          have := World.cell?_spot c0
          simpa [Addr.add] using this
        have hblk := World.block_lt_of_cell? _ _ c0
        refine Or.inr ⟨a.block, a.off, ?_, ?_, ?_⟩
        · cases a with
          | mk b o s => simp at hsp; subst hsp; rfl
        · rw [add_at a hsp] at hblk; exact hblk
        · intro i l hi
          rw [List.getElem?_map] at hi
          by_cases hil : i < len
          · rw [List.getElem?_range hil] at hi
            simp at hi; subst hi
            obtain ⟨q0, q1, q2⟩ := hf i hil
            rw [add_at a hsp] at q0 q1 q2
            exact ⟨q0, by rw [Nat.add_assoc]; exact q1, by rw [Nat.add_assoc]; exact q2⟩
          · rw [List.getElem?_eq_none (by simpa using hil)] at hi; simp at hi
    · have h1 := bulk_len ((List.range len).map D)
      have h2 := bulk_slice ((List.range len).map D) ((List.range (m - len)).map fun j => D (len + j))
      simp at h1
      have e : ((List.range len).map f).length = len := by simp
      rw [e]
      show len ≤ Rows.uptoBulk (.slice ((List.range len).map D) ((List.range (m - len)).map fun j => D (len + j)))
      omega

set_option maxRecDepth 100000 in
theorem open_op {n : Nat} {cs : List Value} {x : DataW H × List MemPlace} (h : DataW.trod enc Tryz.prog W 0 (fun _ => true) true n 62 cs = some x) (hb : Rows.uptoBulk x.1 ≤ 1048576) :
    ∃ r : OpR, cs = r.cells ∧ r.Ok W ∧ 2 ≤ Rows.uptoBulk x.1 := by
  obtain ⟨xs, k, hk, hx, hl, hxl, hf⟩ := DataW.trod_struct Tryz.underlying62 h
  rw [cellsOp] at hl
  match cs, hl with
  | [v0, v1, v2, v3, v4, v5, v6, v7, v8, v9], _ =>
    have g0 := hf 0 _ rfl
    have g1 := hf 1 _ rfl
    have g2 := hf 2 _ rfl
    have g3 := hf 3 _ rfl
    have g4 := hf 4 _ rfl
    have g5 := hf 5 _ rfl
    have g6 := hf 6 _ rfl
    have g7 := hf 7 _ rfl
    simp [cellsI, cellsCfg, cellsStr] at g0 g1 g2 g3 g4 g5 g6 g7
    have l7 : 7 < xs.length := by rw [hxl]; decide
    rw [List.getElem?_eq_getElem (by omega)] at g0 g1 g2 g3 g4 g5 g6 g7
    obtain ⟨n0, e0, -⟩ := DataW.trod_int Tryz.underlying3 g0
    obtain ⟨n1, e1, -, w1⟩ := DataW.trod_int Tryz.underlying3 g1
    obtain ⟨n2, e2, -⟩ := DataW.trod_int Tryz.underlying3 g2
    obtain ⟨n3, e3, -⟩ := DataW.trod_int Tryz.underlying3 g3
    obtain ⟨n4, e4, -⟩ := DataW.trod_int Tryz.underlying3 g4
    obtain ⟨n5, e5, -⟩ := DataW.trod_int Tryz.underlying3 g5
    obtain ⟨s, e7, -⟩ := DataW.trod_string Tryz.underlying9 g7
    obtain ⟨ys, k2, hk2, hy, hl2, hyl, hf2⟩ := DataW.trod_struct Tryz.underlying30 g6
    have m0 := hf2 0 _ rfl
    have m1 := hf2 1 _ rfl
    have m2 := hf2 2 _ rfl
    simp [cellsI, cellsSL] at m0 m1 m2
    have l2 : 2 < ys.length := by rw [hyl]; decide
    rw [List.getElem?_eq_getElem (by omega)] at m0 m1 m2
    obtain ⟨n6, e6, -⟩ := DataW.trod_int Tryz.underlying3 m0
    obtain ⟨n8, e8, -⟩ := DataW.trod_int Tryz.underlying3 m2
    obtain ⟨a, lims, cap, e9, s1, s2, s3, s4⟩ := open_lims m1
    simp at e0 e1 e2 e3 e4 e5 e7 e6 e8
    have b6 : Rows.uptoBulk xs[6].1 ≤ 1048576 := by
      have q1 : Rows.uptoBulk xs[6].1 ≤ Rows.uptoBulkAll (xs.map (·.1)) := bulk_part (List.mem_map.2 ⟨xs[6], List.getElem_mem _, rfl⟩)
      rw [hx] at hb
      simp only [Rows.uptoBulk] at hb
      omega
    have b1 : Rows.uptoBulk ys[1].1 ≤ 1048576 := by
      have q1 : Rows.uptoBulk ys[1].1 ≤ Rows.uptoBulkAll (ys.map (·.1)) := bulk_part (List.mem_map.2 ⟨ys[1], List.getElem_mem _, rfl⟩)
      rw [hy] at b6
      simp only [Rows.uptoBulk] at b6
      omega
    have hw : -9223372036854775808 ≤ n1 ∧ n1 ≤ 9223372036854775807 := by
      have e1 : IntKind.i64.min = -9223372036854775808 := by decide
      have e2 : IntKind.i64.max = 9223372036854775807 := by decide
      simp only [Lit.wf, e1, e2, Bool.and_eq_true, decide_eq_true_eq] at w1
      exact w1
    refine ⟨⟨n0, n1, n2, n3, n4, n5, n6, a, lims, cap, n8, s⟩, ?_, ⟨s1, s2, s3, show lims.length ≤ 5864062014634 by omega, hw.1, hw.2⟩, ?_⟩
    · rw [e0, e1, e2, e3, e4, e5, e6, e7, e8, e9]
      rfl
    · have q1 := bulk_len (xs.map (·.1))
      rw [List.length_map] at q1
      rw [hx]
      simp only [Rows.uptoBulk]
      omega

set_option maxRecDepth 100000 in
theorem open_script {v : Value} {d : DataW H} {ps : List MemPlace} {base : Nat} {r : Reach} (hv : Value.okWide Tryz.prog W r base 22 v) (h : DataW.Trod enc Tryz.prog W 0 (fun _ => true) true 22 v d ps) (hb : Rows.uptoBulk d ≤ 1048576) :
    ∃ al rs cap, v = .slice al (List.length (α := OpR) rs) cap ∧ ScriptAt W al rs ∧ rs.length ≤ 1353245080300 := by
  obtain ⟨a0, len0, cap0, rfl⟩ := okWide_slice Tryz.underlying22 hv
  obtain ⟨fuel, h⟩ := h
  rcases Deep.open_slice Tryz.underlying22 h with ⟨h0, -⟩ | ⟨a, len, cap, m, k, D, Pl, h0, hbb, hl, hm, hmm, hd, hx⟩
  · simp [Value.cells] at h0
    obtain ⟨rfl, rfl, rfl⟩ := h0
    exact ⟨none, [], 0, rfl, Or.inl rfl, by simp⟩
  · simp [Value.cells] at h0
    obtain ⟨rfl, rfl, rfl⟩ := h0
    have hmm : m = cap0 := by simpa using hmm
    simp only [Prod.mk.injEq] at hd
    have q2 := bulk_slice ((List.range len0).map D) ((List.range (m - len0)).map fun j => D (len0 + j))
    rw [hd.1] at hb
    have hbulk : ∀ i, i < len0 → Rows.uptoBulk (D i) ≤ 1048576 := by
      intro i hi
      have q1 : Rows.uptoBulk (D i) ≤ Rows.uptoBulkAll ((List.range len0).map D) := bulk_part (List.mem_map.2 ⟨i, List.mem_range.2 hi, rfl⟩)
      omega
    have each : ∀ i, i < len0 → ∃ r : OpR, (∀ j : Nat, j < 10 → W.cell? (a.add (i * 10 + j)) = r.cells[j]?) ∧ r.Ok W ∧ 2 ≤ Rows.uptoBulk (D i) := by
      intro i hi
      obtain ⟨cs', h1, h2⟩ := hx i (by omega)
      rw [cellsOp] at h1
      obtain ⟨r, rfl, hr, h2b⟩ := open_op h2 (hbulk i hi)
      obtain ⟨-, -, hc⟩ := World.cells?_some h1
      refine ⟨r, fun j hj => ?_, hr, h2b⟩
      have := hc j hj
      rw [Deep.add_add] at this
      exact this
    have inh : Inhabited OpR := ⟨⟨0, 0, 0, 0, 0, 0, 0, none, [], 0, 0, ⟨#[]⟩⟩⟩
    obtain ⟨f, hf⟩ := Deep.choose_lt each
    have hlen : len0 ≤ 1353245080300 := by
      have q3 := bulk_len2 ((List.range len0).map D) (by
        intro d hd'
        obtain ⟨i, hi, rfl⟩ := List.mem_map.1 hd'
        exact (hf i (List.mem_range.1 hi)).2.2)
      simp only [List.length_map, List.length_range] at q3
      omega
    refine ⟨some a, (List.range len0).map f, cap0, by simp, ?_, by simpa using hlen⟩
    by_cases h0 : len0 = 0
    · subst h0; exact Or.inl rfl
    · have c0 := (hf 0 (by omega)).1 0 (by decide)
      have c0' : W.cell? (a.add (0 * 10 + 0)) = some (I (f 0).k) := c0
      have hsp : a.spot = none := by
        have := World.cell?_spot c0'
        simpa [Addr.add] using this
      have hblk := World.block_lt_of_cell? _ _ c0'
      refine Or.inr ⟨a.block, a.off, ?_, ?_, ?_⟩
      · cases a with
        | mk b o s => simp at hsp; subst hsp; rfl
      · rw [add_at a hsp] at hblk; exact hblk
      · intro i r hi
        rw [List.getElem?_map] at hi
        by_cases hil : i < len0
        · rw [List.getElem?_range hil] at hi
          simp at hi; subst hi
          obtain ⟨q0, q1, -⟩ := hf i hil
          refine ⟨fun j hj => ?_, q1⟩
          have := q0 j hj
          rw [add_at a hsp] at this
          rw [Nat.add_assoc]; exact this
        · rw [List.getElem?_eq_none (by simpa using hil)] at hi; simp at hi
end

end Go.Proofs.YtpilmkipbbengaaGreatDoor

/- The argument, opened: its texts are small. -/
namespace Go.Proofs.YtpilmkipbbengaaGreatDoor
open Go.ChangeShapes Go.WideShapes Go.ChangeAt Go.RowKit

section
variable {H : Type} {enc : TypeId × Value → H} {W : World}

set_option maxRecDepth 100000 in
theorem open_op2 {n : Nat} {cs : List Value} {x : DataW H × List MemPlace} (h : DataW.trod enc Tryz.prog W 0 (fun _ => true) true n 62 cs = some x) (hb : Rows.uptoBulk x.1 ≤ 1048576) :
    ∃ r : OpR, cs = r.cells ∧ r.Ok W ∧ 2 ≤ Rows.uptoBulk x.1 ∧ r.s.data.toList.length ≤ 1048576 := by
  obtain ⟨xs, k, hk, hx, hl, hxl, hf⟩ := DataW.trod_struct Tryz.underlying62 h
  rw [cellsOp] at hl
  match cs, hl with
  | [v0, v1, v2, v3, v4, v5, v6, v7, v8, v9], _ =>
    have g0 := hf 0 _ rfl
    have g1 := hf 1 _ rfl
    have g2 := hf 2 _ rfl
    have g3 := hf 3 _ rfl
    have g4 := hf 4 _ rfl
    have g5 := hf 5 _ rfl
    have g6 := hf 6 _ rfl
    have g7 := hf 7 _ rfl
    simp [cellsI, cellsCfg, cellsStr] at g0 g1 g2 g3 g4 g5 g6 g7
    have l7 : 7 < xs.length := by rw [hxl]; decide
    rw [List.getElem?_eq_getElem (by omega)] at g0 g1 g2 g3 g4 g5 g6 g7
    obtain ⟨n0, e0, -⟩ := DataW.trod_int Tryz.underlying3 g0
    obtain ⟨n1, e1, -, w1⟩ := DataW.trod_int Tryz.underlying3 g1
    obtain ⟨n2, e2, -⟩ := DataW.trod_int Tryz.underlying3 g2
    obtain ⟨n3, e3, -⟩ := DataW.trod_int Tryz.underlying3 g3
    obtain ⟨n4, e4, -⟩ := DataW.trod_int Tryz.underlying3 g4
    obtain ⟨n5, e5, -⟩ := DataW.trod_int Tryz.underlying3 g5
    obtain ⟨s, e7, x7, -⟩ := DataW.trod_string Tryz.underlying9 g7
    obtain ⟨ys, k2, hk2, hy, hl2, hyl, hf2⟩ := DataW.trod_struct Tryz.underlying30 g6
    have m0 := hf2 0 _ rfl
    have m1 := hf2 1 _ rfl
    have m2 := hf2 2 _ rfl
    simp [cellsI, cellsSL] at m0 m1 m2
    have l2 : 2 < ys.length := by rw [hyl]; decide
    rw [List.getElem?_eq_getElem (by omega)] at m0 m1 m2
    obtain ⟨n6, e6, -⟩ := DataW.trod_int Tryz.underlying3 m0
    obtain ⟨n8, e8, -⟩ := DataW.trod_int Tryz.underlying3 m2
    obtain ⟨a, lims, cap, e9, s1, s2, s3, s4⟩ := open_lims m1
    simp at e0 e1 e2 e3 e4 e5 e7 e6 e8
    have b6 : Rows.uptoBulk xs[6].1 ≤ 1048576 := by
      have q1 : Rows.uptoBulk xs[6].1 ≤ Rows.uptoBulkAll (xs.map (·.1)) := bulk_part (List.mem_map.2 ⟨xs[6], List.getElem_mem _, rfl⟩)
      rw [hx] at hb
      simp only [Rows.uptoBulk] at hb
      omega
    have b1 : Rows.uptoBulk ys[1].1 ≤ 1048576 := by
      have q1 : Rows.uptoBulk ys[1].1 ≤ Rows.uptoBulkAll (ys.map (·.1)) := bulk_part (List.mem_map.2 ⟨ys[1], List.getElem_mem _, rfl⟩)
      rw [hy] at b6
      simp only [Rows.uptoBulk] at b6
      omega
    have hw : -9223372036854775808 ≤ n1 ∧ n1 ≤ 9223372036854775807 := by
      have e1 : IntKind.i64.min = -9223372036854775808 := by decide
      have e2 : IntKind.i64.max = 9223372036854775807 := by decide
      simp only [Lit.wf, e1, e2, Bool.and_eq_true, decide_eq_true_eq] at w1
      exact w1
    refine ⟨⟨n0, n1, n2, n3, n4, n5, n6, a, lims, cap, n8, s⟩, ?_, ⟨s1, s2, s3, show lims.length ≤ 5864062014634 by omega, hw.1, hw.2⟩, ?_⟩
    · rw [e0, e1, e2, e3, e4, e5, e6, e7, e8, e9]
      rfl
    · refine ⟨?_, ?_⟩
      · have q1 := bulk_len (xs.map (·.1))
        rw [List.length_map] at q1
        rw [hx]
        simp only [Rows.uptoBulk]
        omega
      · have q1 : Rows.uptoBulk xs[7].1 ≤ Rows.uptoBulkAll (xs.map (·.1)) := bulk_part (List.mem_map.2 ⟨xs[7], List.getElem_mem _, rfl⟩)
        rw [hx] at hb
        simp only [Rows.uptoBulk] at hb
        rw [x7] at q1
        simp only [Rows.uptoBulk] at q1
        show s.data.toList.length ≤ 1048576
        omega

set_option maxRecDepth 100000 in
theorem open_script2 {v : Value} {d : DataW H} {ps : List MemPlace} {base : Nat} {r : Reach} (hv : Value.okWide Tryz.prog W r base 22 v) (h : DataW.Trod enc Tryz.prog W 0 (fun _ => true) true 22 v d ps) (hb : Rows.uptoBulk d ≤ 1048576) :
    ∃ al rs cap, v = .slice al (List.length (α := OpR) rs) cap ∧ ScriptAt W al rs ∧ rs.length ≤ 1353245080300 ∧ ∀ r ∈ rs, r.s.data.toList.length ≤ 100000000 := by
  obtain ⟨a0, len0, cap0, rfl⟩ := okWide_slice Tryz.underlying22 hv
  obtain ⟨fuel, h⟩ := h
  rcases Deep.open_slice Tryz.underlying22 h with ⟨h0, -⟩ | ⟨a, len, cap, m, k, D, Pl, h0, hbb, hl, hm, hmm, hd, hx⟩
  · simp [Value.cells] at h0
    obtain ⟨rfl, rfl, rfl⟩ := h0
    exact ⟨none, [], 0, rfl, Or.inl rfl, by simp, by simp⟩
  · simp [Value.cells] at h0
    obtain ⟨rfl, rfl, rfl⟩ := h0
    have hmm : m = cap0 := by simpa using hmm
    simp only [Prod.mk.injEq] at hd
    have q2 := bulk_slice ((List.range len0).map D) ((List.range (m - len0)).map fun j => D (len0 + j))
    rw [hd.1] at hb
    have hbulk : ∀ i, i < len0 → Rows.uptoBulk (D i) ≤ 1048576 := by
      intro i hi
      have q1 : Rows.uptoBulk (D i) ≤ Rows.uptoBulkAll ((List.range len0).map D) := bulk_part (List.mem_map.2 ⟨i, List.mem_range.2 hi, rfl⟩)
      omega
    have each : ∀ i, i < len0 → ∃ r : OpR, (∀ j : Nat, j < 10 → W.cell? (a.add (i * 10 + j)) = r.cells[j]?) ∧ r.Ok W ∧ 2 ≤ Rows.uptoBulk (D i) ∧ r.s.data.toList.length ≤ 1048576 := by
      intro i hi
      obtain ⟨cs', h1, h2⟩ := hx i (by omega)
      rw [cellsOp] at h1
      obtain ⟨r, rfl, hr, h2b⟩ := open_op2 h2 (hbulk i hi)
      obtain ⟨-, -, hc⟩ := World.cells?_some h1
      refine ⟨r, fun j hj => ?_, hr, h2b⟩
      have := hc j hj
      rw [Deep.add_add] at this
      exact this
    have inh : Inhabited OpR := ⟨⟨0, 0, 0, 0, 0, 0, 0, none, [], 0, 0, ⟨#[]⟩⟩⟩
    obtain ⟨f, hf⟩ := Deep.choose_lt each
    have hlen : len0 ≤ 1353245080300 := by
      have q3 := bulk_len2 ((List.range len0).map D) (by
        intro d hd'
        obtain ⟨i, hi, rfl⟩ := List.mem_map.1 hd'
        exact (hf i (List.mem_range.1 hi)).2.2.1)
      simp only [List.length_map, List.length_range] at q3
      omega
    refine ⟨some a, (List.range len0).map f, cap0, by simp, ?_, by simpa using hlen, fun r hr => by
      obtain ⟨i, hi, rfl⟩ := List.mem_map.1 hr
      have := (hf i (List.mem_range.1 hi)).2.2.2
      omega⟩
    by_cases h0 : len0 = 0
    · subst h0; exact Or.inl rfl
    · have c0 := (hf 0 (by omega)).1 0 (by decide)
      have c0' : W.cell? (a.add (0 * 10 + 0)) = some (I (f 0).k) := c0
      have hsp : a.spot = none := by
        have := World.cell?_spot c0'
        simpa [Addr.add] using this
      have hblk := World.block_lt_of_cell? _ _ c0'
      refine Or.inr ⟨a.block, a.off, ?_, ?_, ?_⟩
      · cases a with
        | mk b o s => simp at hsp; subst hsp; rfl
      · rw [add_at a hsp] at hblk; exact hblk
      · intro i r hi
        rw [List.getElem?_map] at hi
        by_cases hil : i < len0
        · rw [List.getElem?_range hil] at hi
          simp at hi; subst hi
          obtain ⟨q0, q1, -⟩ := hf i hil
          refine ⟨fun j hj => ?_, q1⟩
          have := q0 j hj
          rw [add_at a hsp] at this
          rw [Nat.add_assoc]; exact this
        · rw [List.getElem?_eq_none (by simpa using hil)] at hi; simp at hi
end

end Go.Proofs.YtpilmkipbbengaaGreatDoor
