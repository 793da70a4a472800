/- The argument, opened, of any size: a script that stands in memory. -/
import Derived.Test.YtpilmkipbbengaaGreatDoorStpM
import Derived.SizedLaws
import Derived.ProofKit
import Derived.OpenShut
import Derived.JoinedCond
import Derived.Deep.Slices
import Derived.Carry
namespace Go.Proofs.YtpilmkipbbengaaGreatDoor
open Go.ChangeShapes Go.WideShapes Go.ChangeAt Go.RowKit

theorem weights_mem_all {H : Type} {P : Program} {e : TypeId} {l : List (DataW H)} {d : DataW H} (h : d ∈ l) : ∀ n ∈ d.weights P e, n ∈ DataW.weightsAll P e l := by
  induction l with
  | nil => cases h
  | cons x r ih =>
    intro n hn
    simp only [DataW.weightsAll, List.mem_append]
    cases List.mem_cons.1 h with
    | inl q => subst q; exact Or.inl hn
    | inr q => exact Or.inr (ih q n hn)

theorem bytesL : Tryz.prog.bytesOf 60 = 24 := by kernel_rfl
theorem bytesOp : Tryz.prog.bytesOf 62 = 104 := by kernel_rfl
theorem cellsL : Tryz.prog.cellsOf 60 = 3 := by kernel_rfl
theorem cellsI : Tryz.prog.cellsOf 3 = 1 := by kernel_rfl
theorem cellsSL : Tryz.prog.cellsOf 28 = 1 := by kernel_rfl
theorem cellsCfg : Tryz.prog.cellsOf 30 = 3 := by kernel_rfl
theorem cellsStr : Tryz.prog.cellsOf 9 = 1 := by kernel_rfl
theorem cellsOp : Tryz.prog.cellsOf 62 = 10 := by kernel_rfl

theorem add_at (a : Addr) (h : a.spot = none) (i : Nat) : a.add i = ⟨a.block, a.off + i, none⟩ := by
  cases a with
  | mk b o s => simp at h; subst h; exact Addr.add_lit ..

section
variable {H : Type} {enc : TypeId × Value → H} {W : World}

set_option maxRecDepth 100000 in
theorem open_lim {n : Nat} {cs : List Value} {x : DataW H × List MemPlace} (h : DataW.trod enc Tryz.prog W 0 (fun _ => true) true n 60 cs = some x) : ∃ l : Lim, cs = [I l.ch, I l.win, I l.cap] := by
  obtain ⟨xs, k, hk, hx, hl, hxl, hf⟩ := DataW.trod_struct Tryz.underlying60 h
  rw [cellsL] at hl
  match cs, hl with
  | [v0, v1, v2], _ =>
    have g0 := hf 0 _ rfl
    have g1 := hf 1 _ rfl
    have g2 := hf 2 _ rfl
    simp [cellsI] at g0 g1 g2
    have l0 : 0 < xs.length := by rw [hxl]; decide
    have l1 : 1 < xs.length := by rw [hxl]; decide
    have l2 : 2 < xs.length := by rw [hxl]; decide
    rw [List.getElem?_eq_getElem l0] at g0
    rw [List.getElem?_eq_getElem l1] at g1
    rw [List.getElem?_eq_getElem l2] at g2
    obtain ⟨n0, e0, -⟩ := DataW.trod_int Tryz.underlying3 g0
    obtain ⟨n1, e1, -⟩ := DataW.trod_int Tryz.underlying3 g1
    obtain ⟨n2, e2, -⟩ := DataW.trod_int Tryz.underlying3 g2
    simp at e0 e1 e2
    exact ⟨⟨n0, n1, n2⟩, by rw [e0, e1, e2]⟩

set_option maxRecDepth 100000 in
theorem open_lims {n : Nat} {v : Value} {x : DataW H × List MemPlace} (h : DataW.trod enc Tryz.prog W 0 (fun _ => true) true n 28 [v] = some x) (hz : ∀ n ∈ x.1.weights Tryz.prog 28, n ≤ reachBytes) :
    ∃ a lims cap, v = .slice a (List.length (α := Lim) lims) cap ∧ SeeL W a lims ∧ (a = none → lims.length = 0 ∧ cap = 0) ∧ lims.length ≤ cap ∧ lims.length ≤ 5864062014634 := by
  rcases Deep.open_slice Tryz.underlying28 h with ⟨h0, -⟩ | ⟨a, len, cap, m, k, D, Pl, h0, hb, hl, hm, hmm, rfl, hx⟩
  · simp at h0; subst h0
    exact ⟨none, [], 0, rfl, Or.inl rfl, fun _ => ⟨rfl, rfl⟩, Nat.le_refl _, by simp⟩
  · simp at h0; subst h0
    have hmm : m = cap := by simpa using hmm
    have each : ∀ i, i < len → ∃ l : Lim, W.cell? (a.add (i * 3)) = some (I l.ch) ∧ W.cell? (a.add (i * 3 + 1)) = some (I l.win) ∧ W.cell? (a.add (i * 3 + 2)) = some (I l.cap) := by
      intro i hi
      obtain ⟨cs', h1, h2⟩ := hx i (by omega)
      rw [cellsL] at h1
      obtain ⟨l, rfl⟩ := open_lim h2
      obtain ⟨-, -, hc⟩ := World.cells?_some h1
      have c0 := hc 0 (by decide)
      have c1 := hc 1 (by decide)
      have c2 := hc 2 (by decide)
      rw [Deep.add_add] at c0 c1 c2
      exact ⟨l, by simpa using c0, by simpa using c1, by simpa using c2⟩
    have inh : Inhabited Lim := ⟨⟨0, 0, 0⟩⟩
    obtain ⟨f, hf⟩ := Deep.choose_lt each
    refine ⟨some a, (List.range len).map f, cap, by simp, ?_, by simp, by simpa using hl, ?_⟩
    · by_cases h0 : len = 0
      · subst h0; exact Or.inl rfl
      · have c0 := (hf 0 (by omega)).1
        have hsp : a.spot = none := by
          have := World.cell?_spot c0
          simpa [Addr.add] using this
        have hblk := World.block_lt_of_cell? _ _ c0
        refine Or.inr ⟨a.block, a.off, ?_, ?_, ?_⟩
        · cases a with
          | mk b o s => simp at hsp; subst hsp; rfl
        · rw [add_at a hsp] at hblk; exact hblk
        · intro i l hi
          rw [List.getElem?_map] at hi
          by_cases hil : i < len
          · rw [List.getElem?_range hil] at hi
            simp at hi; subst hi
            obtain ⟨q0, q1, q2⟩ := hf i hil
            rw [add_at a hsp] at q0 q1 q2
            exact ⟨q0, by rw [Nat.add_assoc]; exact q1, by rw [Nat.add_assoc]; exact q2⟩
          · rw [List.getElem?_eq_none (by simpa using hil)] at hi; simp at hi
    · have h1 := hz ((((List.range len).map D).length + ((List.range (m - len)).map fun j => D (len + j)).length) * Tryz.prog.bytesOf 60) (by simp [DataW.weights, Tryz.underlying28])
      rw [bytesL] at h1
      simp only [List.length_map, List.length_range, reachBytes] at h1
      have e : ((List.range len).map f).length = len := by simp
      rw [e]
      omega

set_option maxRecDepth 100000 in
theorem open_op {n : Nat} {cs : List Value} {x : DataW H × List MemPlace} (h : DataW.trod enc Tryz.prog W 0 (fun _ => true) true n 62 cs = some x) (hz : ∀ n ∈ x.1.weights Tryz.prog 62, n ≤ reachBytes) :
    ∃ r : OpR, cs = r.cells ∧ r.Ok W := by
  obtain ⟨xs, k, hk, hx, hl, hxl, hf⟩ := DataW.trod_struct Tryz.underlying62 h
  rw [cellsOp] at hl
  match cs, hl with
  | [v0, v1, v2, v3, v4, v5, v6, v7, v8, v9], _ =>
    have g0 := hf 0 _ rfl
    have g1 := hf 1 _ rfl
    have g2 := hf 2 _ rfl
    have g3 := hf 3 _ rfl
    have g4 := hf 4 _ rfl
    have g5 := hf 5 _ rfl
    have g6 := hf 6 _ rfl
    have g7 := hf 7 _ rfl
    simp [cellsI, cellsCfg, cellsStr] at g0 g1 g2 g3 g4 g5 g6 g7
    have l7 : 7 < xs.length := by rw [hxl]; decide
    rw [List.getElem?_eq_getElem (by omega)] at g0 g1 g2 g3 g4 g5 g6 g7
    obtain ⟨n0, e0, -⟩ := DataW.trod_int Tryz.underlying3 g0
    obtain ⟨n1, e1, -, w1⟩ := DataW.trod_int Tryz.underlying3 g1
    obtain ⟨n2, e2, -⟩ := DataW.trod_int Tryz.underlying3 g2
    obtain ⟨n3, e3, -⟩ := DataW.trod_int Tryz.underlying3 g3
    obtain ⟨n4, e4, -⟩ := DataW.trod_int Tryz.underlying3 g4
    obtain ⟨n5, e5, -⟩ := DataW.trod_int Tryz.underlying3 g5
    obtain ⟨s, e7, -⟩ := DataW.trod_string Tryz.underlying9 g7
    obtain ⟨ys, k2, hk2, hy, hl2, hyl, hf2⟩ := DataW.trod_struct Tryz.underlying30 g6
    have m0 := hf2 0 _ rfl
    have m1 := hf2 1 _ rfl
    have m2 := hf2 2 _ rfl
    simp [cellsI, cellsSL] at m0 m1 m2
    have l2 : 2 < ys.length := by rw [hyl]; decide
    rw [List.getElem?_eq_getElem (by omega)] at m0 m1 m2
    obtain ⟨n6, e6, -⟩ := DataW.trod_int Tryz.underlying3 m0
    obtain ⟨n8, e8, -⟩ := DataW.trod_int Tryz.underlying3 m2
    have z6 : ∀ n ∈ xs[6].1.weights Tryz.prog 30, n ≤ reachBytes := by
      intro n hn
      refine hz n ?_
      rw [hx]
      simp only [DataW.weights, Tryz.underlying62]
      exact DataW.weights_mem_each (j := 6) (t := 30) rfl (by rw [List.getElem?_map, List.getElem?_eq_getElem (by omega)]; rfl) n hn
    have z1 : ∀ n ∈ ys[1].1.weights Tryz.prog 28, n ≤ reachBytes := by
      intro n hn
      refine z6 n ?_
      rw [hy]
      simp only [DataW.weights, Tryz.underlying30]
      exact DataW.weights_mem_each (j := 1) (t := 28) rfl (by rw [List.getElem?_map, List.getElem?_eq_getElem (by omega)]; rfl) n hn
    obtain ⟨a, lims, cap, e9, s1, s2, s3, s4⟩ := open_lims m1 z1
    simp at e0 e1 e2 e3 e4 e5 e7 e6 e8
    have hw : -9223372036854775808 ≤ n1 ∧ n1 ≤ 9223372036854775807 := by
      have e1 : IntKind.i64.min = -9223372036854775808 := by decide
      have e2 : IntKind.i64.max = 9223372036854775807 := by decide
      simp only [Lit.wf, e1, e2, Bool.and_eq_true, decide_eq_true_eq] at w1
      exact w1
    refine ⟨⟨n0, n1, n2, n3, n4, n5, n6, a, lims, cap, n8, s⟩, ?_, ⟨s1, s2, s3, s4, hw.1, hw.2⟩⟩
    rw [e0, e1, e2, e3, e4, e5, e6, e7, e8, e9]
    rfl

set_option maxRecDepth 100000 in
theorem open_script {v : Value} {d : DataW H} {ps : List MemPlace} {base : Nat} {r : Reach} (hv : Value.okWide Tryz.prog W r base 22 v) (h : DataW.Trod enc Tryz.prog W 0 (fun _ => true) true 22 v d ps) (hz : ∀ n ∈ d.weights Tryz.prog 22, n ≤ reachBytes) :
    ∃ al rs cap, v = .slice al (List.length (α := OpR) rs) cap ∧ ScriptAt W al rs ∧ rs.length ≤ 1353245080300 := by
  obtain ⟨a0, len0, cap0, rfl⟩ := okWide_slice Tryz.underlying22 hv
  obtain ⟨fuel, h⟩ := h
  rcases Deep.open_slice Tryz.underlying22 h with ⟨h0, -⟩ | ⟨a, len, cap, m, k, D, Pl, h0, hbb, hl, hm, hmm, hd, hx⟩
  · simp [Value.cells] at h0
    obtain ⟨rfl, rfl, rfl⟩ := h0
    exact ⟨none, [], 0, rfl, Or.inl rfl, by simp⟩
  · simp [Value.cells] at h0
    obtain ⟨rfl, rfl, rfl⟩ := h0
    have hmm : m = cap0 := by simpa using hmm
    simp only [Prod.mk.injEq] at hd
    rw [hd.1] at hz
    simp only [DataW.weights, Tryz.underlying22] at hz
    have hbulk : ∀ i, i < len0 → ∀ n ∈ (D i).weights Tryz.prog 62, n ≤ reachBytes := by
      intro i hi n hn
      exact hz n (List.mem_cons_of_mem _ (List.mem_append_left _ (weights_mem_all (List.mem_map.2 ⟨i, List.mem_range.2 hi, rfl⟩) n hn)))
    have each : ∀ i, i < len0 → ∃ r : OpR, (∀ j : Nat, j < 10 → W.cell? (a.add (i * 10 + j)) = r.cells[j]?) ∧ r.Ok W := by
      intro i hi
      obtain ⟨cs', h1, h2⟩ := hx i (by omega)
      rw [cellsOp] at h1
      obtain ⟨r, rfl, hr⟩ := open_op h2 (hbulk i hi)
      obtain ⟨-, -, hc⟩ := World.cells?_some h1
      refine ⟨r, fun j hj => ?_, hr⟩
      have := hc j hj
      rw [Deep.add_add] at this
      exact this
    have inh : Inhabited OpR := ⟨⟨0, 0, 0, 0, 0, 0, 0, none, [], 0, 0, ⟨#[]⟩⟩⟩
    obtain ⟨f, hf⟩ := Deep.choose_lt each
    have hlen : len0 ≤ 1353245080300 := by
      have q := hz _ (List.mem_cons_self ..)
      rw [bytesOp] at q
      simp only [List.length_map, List.length_range, reachBytes] at q
      omega
    refine ⟨some a, (List.range len0).map f, cap0, by simp, ?_, by simpa using hlen⟩
    by_cases h0 : len0 = 0
    · subst h0; exact Or.inl rfl
    · have c0 := (hf 0 (by omega)).1 0 (by decide)
      have c0' : W.cell? (a.add (0 * 10 + 0)) = some (I (f 0).k) := c0
      have hsp : a.spot = none := by
        have := World.cell?_spot c0'
        simpa [Addr.add] using this
      have hblk := World.block_lt_of_cell? _ _ c0'
      refine Or.inr ⟨a.block, a.off, ?_, ?_, ?_⟩
      · cases a with
        | mk b o s => simp at hsp; subst hsp; rfl
      · rw [add_at a hsp] at hblk; exact hblk
      · intro i r hi
        rw [List.getElem?_map] at hi
        by_cases hil : i < len0
        · rw [List.getElem?_range hil] at hi
          simp at hi; subst hi
          obtain ⟨q0, q1⟩ := hf i hil
          refine ⟨fun j hj => ?_, q1⟩
          have := q0 j hj
          rw [add_at a hsp] at this
          rw [Nat.add_assoc]; exact this
        · rw [List.getElem?_eq_none (by simpa using hil)] at hi; simp at hi
end

end Go.Proofs.YtpilmkipbbengaaGreatDoor
