/- dripkeep: the arguments, opened. -/
import Derived.Test.YtpilmkipbbengaaGreatDoorKbM
import Derived.Test.YtpilmkipbbengaaGreatDoorKcfg
import Derived.ProofKit
import Derived.OpenShut
import Derived.JoinedOf
import Derived.JoinedAt
import Derived.Deep.Slices
import Derived.Carry
namespace Go.Proofs.YtpilmkipbbengaaGreatDoor
open Go.ChangeShapes Go.WideShapes Go.ChangeAt Go.RowKit

theorem kcellsCap : Tryz.prog.cellsOf 64 = 3 := by kernel_rfl
theorem kcellsStep : Tryz.prog.cellsOf 48 = 5 := by kernel_rfl
theorem kcellsI : Tryz.prog.cellsOf 3 = 1 := by kernel_rfl
theorem own_knob : ownKnob Tryz.prog.godebug = none := by kernel_rfl
theorem laid_out : laidOutB Tryz.prog = true := by kernel_rfl

theorem kadd_at (a : Addr) (h : a.spot = none) (i : Nat) : a.add i = ⟨a.block, a.off + i, none⟩ := by
  cases a with
  | mk b o s => simp at h; subst h; exact Addr.add_lit ..

theorem in64_of {n : Int} (h : (Lit.int .i64 n).wf = true) : In64 n := by
  have e1 : IntKind.i64.min = -9223372036854775808 := by decide
  have e2 : IntKind.i64.max = 9223372036854775807 := by decide
  simp only [Lit.wf, e1, e2, Bool.and_eq_true, decide_eq_true_eq] at h
  exact h

section
variable {H : Type} {enc : TypeId × Value → H} {W : World}

set_option maxRecDepth 100000 in
theorem open_cap {n : Nat} {cs : List Value} {x : DataW H × List MemPlace} (h : DataW.trod enc Tryz.prog W 0 (fun _ => true) true n 64 cs = some x) : ∃ l : Lim, cs = [I l.ch, I l.win, I l.cap] ∧ l.In := by
  obtain ⟨xs, k, hk, hx, hl, hxl, hf⟩ := DataW.trod_struct Tryz.underlying64 h
  rw [kcellsCap] at hl
  match cs, hl with
  | [v0, v1, v2], _ =>
    have g0 := hf 0 _ rfl
    have g1 := hf 1 _ rfl
    have g2 := hf 2 _ rfl
    simp [kcellsI] at g0 g1 g2
    have l2 : 2 < xs.length := by rw [hxl]; decide
    rw [List.getElem?_eq_getElem (by omega)] at g0 g1 g2
    obtain ⟨n0, e0, -, w0⟩ := DataW.trod_int Tryz.underlying3 g0
    obtain ⟨n1, e1, -, w1⟩ := DataW.trod_int Tryz.underlying3 g1
    obtain ⟨n2, e2, -, w2⟩ := DataW.trod_int Tryz.underlying3 g2
    simp at e0 e1 e2
    exact ⟨⟨n0, n1, n2⟩, by rw [e0, e1, e2], in64_of w0, in64_of w1, in64_of w2⟩

set_option maxRecDepth 100000 in
theorem open_caps {v : Value} {d : DataW H} {ps : List MemPlace} {base : Nat} {r : Reach} (hv : Value.okWide Tryz.prog W r base 25 v) (h : DataW.Trod enc Tryz.prog W 0 (fun _ => true) true 25 v d ps) :
    ∃ a caps cap, v = .slice a (List.length (α := Lim) caps) cap ∧ SeeL W a caps ∧ ∀ x ∈ caps, x.In := by
  obtain ⟨a0, len0, cap0, rfl⟩ := okWide_slice Tryz.underlying25 hv
  obtain ⟨fuel, h⟩ := h
  rcases Deep.open_slice Tryz.underlying25 h with ⟨h0, -⟩ | ⟨a, len, cap, m, k, D, Pl, h0, hbb, hl, hm, hmm, hd, hx⟩
  · simp [Value.cells] at h0
    obtain ⟨rfl, rfl, rfl⟩ := h0
    exact ⟨none, [], 0, rfl, Or.inl rfl, by simp⟩
  · simp [Value.cells] at h0
    obtain ⟨rfl, rfl, rfl⟩ := h0
    have hmm : m = cap0 := by simpa using hmm
    have each : ∀ i, i < len0 → ∃ l : Lim, (W.cell? (a.add (i * 3)) = some (I l.ch) ∧ W.cell? (a.add (i * 3 + 1)) = some (I l.win) ∧ W.cell? (a.add (i * 3 + 2)) = some (I l.cap)) ∧ l.In := by
      intro i hi
      obtain ⟨cs', h1, h2⟩ := hx i (by omega)
      rw [kcellsCap] at h1
      obtain ⟨l, rfl, hin⟩ := open_cap h2
      obtain ⟨-, -, hc⟩ := World.cells?_some h1
      have c0 := hc 0 (by decide)
      have c1 := hc 1 (by decide)
      have c2 := hc 2 (by decide)
      rw [Deep.add_add] at c0 c1 c2
      exact ⟨l, ⟨by simpa using c0, by simpa using c1, by simpa using c2⟩, hin⟩
    have inh : Inhabited Lim := ⟨⟨0, 0, 0⟩⟩
    obtain ⟨f, hf⟩ := Deep.choose_lt each
    refine ⟨some a, (List.range len0).map f, cap0, by simp, ?_, ?_⟩
    · by_cases h0 : len0 = 0
      · subst h0; exact Or.inl rfl
      · have c0 := (hf 0 (by omega)).1.1
        have hsp : a.spot = none := by
          have := World.cell?_spot c0
          simpa [Addr.add] using this
        have hblk := World.block_lt_of_cell? _ _ c0
        refine Or.inr ⟨a.block, a.off, ?_, ?_, ?_⟩
        · cases a with
          | mk b o s => simp at hsp; subst hsp; rfl
        · rw [kadd_at a hsp] at hblk; exact hblk
        · intro i l hi
          rw [List.getElem?_map] at hi
          by_cases hil : i < len0
          · rw [List.getElem?_range hil] at hi
            simp at hi; subst hi
            obtain ⟨⟨q0, q1, q2⟩, -⟩ := hf i hil
            rw [kadd_at a hsp] at q0 q1 q2
            exact ⟨q0, by rw [Nat.add_assoc]; exact q1, by rw [Nat.add_assoc]; exact q2⟩
          · rw [List.getElem?_eq_none (by simpa using hil)] at hi; simp at hi
    · intro x hx'
      obtain ⟨i, hi, rfl⟩ := List.mem_map.1 hx'
      exact (hf i (List.mem_range.1 hi)).2

set_option maxRecDepth 100000 in
theorem open_step {n : Nat} {cs : List Value} {x : DataW H × List MemPlace} (h : DataW.trod enc Tryz.prog W 0 (fun _ => true) true n 48 cs = some x) : ∃ s : StepR, cs = [I s.kind, I s.a, I s.b, I s.c, I s.d] ∧ s.Ok := by
  obtain ⟨xs, k, hk, hx, hl, hxl, hf⟩ := DataW.trod_struct Tryz.underlying48 h
  rw [kcellsStep] at hl
  match cs, hl with
  | [v0, v1, v2, v3, v4], _ =>
    have g0 := hf 0 _ rfl
    have g1 := hf 1 _ rfl
    have g2 := hf 2 _ rfl
    have g3 := hf 3 _ rfl
    have g4 := hf 4 _ rfl
    simp [kcellsI] at g0 g1 g2 g3 g4
    have l4 : 4 < xs.length := by rw [hxl]; decide
    rw [List.getElem?_eq_getElem (by omega)] at g0 g1 g2 g3 g4
    obtain ⟨n0, e0, -, w0⟩ := DataW.trod_int Tryz.underlying3 g0
    obtain ⟨n1, e1, -, w1⟩ := DataW.trod_int Tryz.underlying3 g1
    obtain ⟨n2, e2, -, w2⟩ := DataW.trod_int Tryz.underlying3 g2
    obtain ⟨n3, e3, -, w3⟩ := DataW.trod_int Tryz.underlying3 g3
    obtain ⟨n4, e4, -, w4⟩ := DataW.trod_int Tryz.underlying3 g4
    simp at e0 e1 e2 e3 e4
    exact ⟨⟨n0, n1, n2, n3, n4⟩, by rw [e0, e1, e2, e3, e4], in64_of w0, in64_of w1, in64_of w2, in64_of w3, in64_of w4⟩

set_option maxRecDepth 100000 in
theorem open_steps {v : Value} {d : DataW H} {ps : List MemPlace} {base : Nat} {r : Reach} (hv : Value.okWide Tryz.prog W r base 26 v) (h : DataW.Trod enc Tryz.prog W 0 (fun _ => true) true 26 v d ps) :
    ∃ a ss cap, v = .slice a (List.length (α := StepR) ss) cap ∧ SeeS (fun x => W.heap.size ≤ x) W a ss ∧ ∀ s ∈ ss, s.Ok := by
  obtain ⟨a0, len0, cap0, rfl⟩ := okWide_slice Tryz.underlying26 hv
  obtain ⟨fuel, h⟩ := h
  rcases Deep.open_slice Tryz.underlying26 h with ⟨h0, -⟩ | ⟨a, len, cap, m, k, D, Pl, h0, hbb, hl, hm, hmm, hd, hx⟩
  · simp [Value.cells] at h0
    obtain ⟨rfl, rfl, rfl⟩ := h0
    exact ⟨none, [], 0, rfl, Or.inl rfl, by simp⟩
  · simp [Value.cells] at h0
    obtain ⟨rfl, rfl, rfl⟩ := h0
    have hmm : m = cap0 := by simpa using hmm
    have each : ∀ i, i < len0 → ∃ s : StepR, (W.cell? (a.add (i * 5)) = some (I s.kind) ∧ W.cell? (a.add (i * 5 + 1)) = some (I s.a) ∧ W.cell? (a.add (i * 5 + 2)) = some (I s.b) ∧ W.cell? (a.add (i * 5 + 3)) = some (I s.c) ∧ W.cell? (a.add (i * 5 + 4)) = some (I s.d)) ∧ s.Ok := by
      intro i hi
      obtain ⟨cs', h1, h2⟩ := hx i (by omega)
      rw [kcellsStep] at h1
      obtain ⟨s, rfl, hin⟩ := open_step h2
      obtain ⟨-, -, hc⟩ := World.cells?_some h1
      have c0 := hc 0 (by decide)
      have c1 := hc 1 (by decide)
      have c2 := hc 2 (by decide)
      have c3 := hc 3 (by decide)
      have c4 := hc 4 (by decide)
      rw [Deep.add_add] at c0 c1 c2 c3 c4
      exact ⟨s, ⟨by simpa using c0, by simpa using c1, by simpa using c2, by simpa using c3, by simpa using c4⟩, hin⟩
    have inh : Inhabited StepR := ⟨⟨0, 0, 0, 0, 0⟩⟩
    obtain ⟨f, hf⟩ := Deep.choose_lt each
    refine ⟨some a, (List.range len0).map f, cap0, by simp, ?_, ?_⟩
    · by_cases h0 : len0 = 0
      · subst h0; exact Or.inl rfl
      · have c0 := (hf 0 (by omega)).1.1
        have hsp : a.spot = none := by
          have := World.cell?_spot c0
          simpa [Addr.add] using this
        have hblk := World.block_lt_of_cell? _ _ c0
        refine Or.inr ⟨a.block, a.off, ?_, ?_, ?_⟩
        · cases a with
          | mk b o s => simp at hsp; subst hsp; rfl
        · rw [kadd_at a hsp] at hblk; exact Nat.not_le.2 hblk
        · intro i l hi
          rw [List.getElem?_map] at hi
          by_cases hil : i < len0
          · rw [List.getElem?_range hil] at hi
            simp at hi; subst hi
            obtain ⟨⟨q0, q1, q2, q3, q4⟩, -⟩ := hf i hil
            rw [kadd_at a hsp] at q0 q1 q2 q3 q4
            exact ⟨q0, by rw [Nat.add_assoc]; exact q1, by rw [Nat.add_assoc]; exact q2, by rw [Nat.add_assoc]; exact q3, by rw [Nat.add_assoc]; exact q4⟩
          · rw [List.getElem?_eq_none (by simpa using hil)] at hi; simp at hi
    · intro x hx'
      obtain ⟨i, hi, rfl⟩ := List.mem_map.1 hx'
      exact (hf i (List.mem_range.1 hi)).2
end

theorem below_of {W W' : World} (hf : Keep W W') : Below W.heap.size W W' := ⟨hf.os, hf.tape, hf.output, hf.size, fun k hk => hf.block k hk (fun e => e)⟩

end Go.Proofs.YtpilmkipbbengaaGreatDoor
