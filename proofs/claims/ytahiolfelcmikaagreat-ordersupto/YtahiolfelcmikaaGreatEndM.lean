/- The argument, opened: a script that stands in memory. -/
import Derived.Test.YtahiolfelcmikaaGreatRates
import Derived.ProofKit
import Derived.OpenShut
import Derived.JoinedCond
import Derived.Deep.Slices
import Derived.Carry
import Derived.Test.YtahiolfelcmikaaGreatDpump
import Derived.Test.YtahiolfelcmikaaGreatTakeM
import Derived.Test.YtahiolfelcmikaaGreatObas2
import Derived.Test.YtahiolfelcmikaaGreatPlayM
namespace Go.Proofs.YtahiolfelcmikaaGreat
open Go.ChangeShapes Go.WideShapes Go.ChangeAt Go.RowKit

theorem bulk_one {H : Type} (d : DataW H) : 1 ≤ Rows.uptoBulk d := by
  cases d with
  | lit l => cases l <;> simp [Rows.uptoBulk]
  | nil => simp [Rows.uptoBulk]
  | ptr d => simp [Rows.uptoBulk]
  | slice elems spare => simp [Rows.uptoBulk]
  | agg parts => simp [Rows.uptoBulk]
  | iface t d => simp [Rows.uptoBulk]
  | map entries => simp [Rows.uptoBulk]
  | held h => simp [Rows.uptoBulk]
theorem bulk_part {H : Type} {d : DataW H} {l : List (DataW H)} (h : d ∈ l) : Rows.uptoBulk d ≤ Rows.uptoBulkAll l := by
  induction l with
  | nil => cases h
  | cons x r ih =>
    simp only [Rows.uptoBulkAll]
    cases List.mem_cons.1 h with
    | inl e => subst e; omega
    | inr e => have := ih e; omega
theorem bulk_len {H : Type} (l : List (DataW H)) : l.length ≤ Rows.uptoBulkAll l := by
  induction l with
  | nil => simp [Rows.uptoBulkAll]
  | cons x r ih => have := bulk_one x; simp only [Rows.uptoBulkAll, List.length_cons]; omega
theorem bulk_slice {H : Type} (elems spare : List (DataW H)) : Rows.uptoBulkAll elems + 1 ≤ Rows.uptoBulk (.slice elems spare) := by
  simp only [Rows.uptoBulk]; omega

theorem bulk_len2 {H : Type} (l : List (DataW H)) (h : ∀ d ∈ l, 2 ≤ Rows.uptoBulk d) : 2 * l.length ≤ Rows.uptoBulkAll l := by
  induction l with
  | nil => simp [Rows.uptoBulkAll]
  | cons x r ih => have := h x (by simp); have := ih fun d hd => h d (List.mem_cons_of_mem _ hd); simp only [Rows.uptoBulkAll, List.length_cons]; omega

theorem cellsL : Tryz.prog.cellsOf 34 = 3 := by kernel_rfl
theorem cellsI : Tryz.prog.cellsOf 3 = 1 := by kernel_rfl
theorem cellsSL : Tryz.prog.cellsOf 35 = 1 := by kernel_rfl
theorem cellsCfg : Tryz.prog.cellsOf 37 = 3 := by kernel_rfl
theorem cellsStr : Tryz.prog.cellsOf 9 = 1 := by kernel_rfl
theorem cellsOp : Tryz.prog.cellsOf 39 = 10 := by kernel_rfl

theorem add_at (a : Addr) (h : a.spot = none) (i : Nat) : a.add i = ⟨a.block, a.off + i, none⟩ := by
  cases a with
  | mk b o s => simp at h; subst h; exact Addr.add_lit ..

section
variable {H : Type} {enc : TypeId × Value → H} {W : World}

set_option maxRecDepth 100000 in
theorem open_lim {n : Nat} {cs : List Value} {x : DataW H × List MemPlace} (h : DataW.trod enc Tryz.prog W 0 (fun _ => true) true n 34 cs = some x) : ∃ l : Lim, cs = [I l.ch, I l.win, I l.cap] := by
  obtain ⟨xs, k, hk, hx, hl, hxl, hf⟩ := DataW.trod_struct Tryz.underlying34 h
  rw [cellsL] at hl
  match cs, hl with
  | [v0, v1, v2], _ =>
    have g0 := hf 0 _ rfl
    have g1 := hf 1 _ rfl
    have g2 := hf 2 _ rfl
    simp [cellsI] at g0 g1 g2
    have l0 : 0 < xs.length := by rw [hxl]; decide
    have l1 : 1 < xs.length := by rw [hxl]; decide
    have l2 : 2 < xs.length := by rw [hxl]; decide
    rw [List.getElem?_eq_getElem l0] at g0
    rw [List.getElem?_eq_getElem l1] at g1
    rw [List.getElem?_eq_getElem l2] at g2
    obtain ⟨n0, e0, -⟩ := DataW.trod_int Tryz.underlying3 g0
    obtain ⟨n1, e1, -⟩ := DataW.trod_int Tryz.underlying3 g1
    obtain ⟨n2, e2, -⟩ := DataW.trod_int Tryz.underlying3 g2
    simp at e0 e1 e2
    exact ⟨⟨n0, n1, n2⟩, by rw [e0, e1, e2]⟩

set_option maxRecDepth 100000 in
theorem open_lims {n : Nat} {v : Value} {x : DataW H × List MemPlace} (h : DataW.trod enc Tryz.prog W 0 (fun _ => true) true n 35 [v] = some x) :
    ∃ a lims cap, v = .slice a (List.length (α := Lim) lims) cap ∧ SeeL W a lims ∧ (a = none → lims.length = 0 ∧ cap = 0) ∧ lims.length ≤ cap ∧ lims.length ≤ Rows.uptoBulk x.1 := by
  rcases Deep.open_slice Tryz.underlying35 h with ⟨h0, -⟩ | ⟨a, len, cap, m, k, D, Pl, h0, hb, hl, hm, hmm, rfl, hx⟩
  · simp at h0; subst h0
    exact ⟨none, [], 0, rfl, Or.inl rfl, fun _ => ⟨rfl, rfl⟩, Nat.le_refl _, by simp⟩
  · simp at h0; subst h0
    have hmm : m = cap := by simpa using hmm
    have each : ∀ i, i < len → ∃ l : Lim, W.cell? (a.add (i * 3)) = some (I l.ch) ∧ W.cell? (a.add (i * 3 + 1)) = some (I l.win) ∧ W.cell? (a.add (i * 3 + 2)) = some (I l.cap) := by
      intro i hi
      obtain ⟨cs', h1, h2⟩ := hx i (by omega)
      rw [cellsL] at h1
      obtain ⟨l, rfl⟩ := open_lim h2
      obtain ⟨-, -, hc⟩ := World.cells?_some h1
      have c0 := hc 0 (by decide)
      have c1 := hc 1 (by decide)
      have c2 := hc 2 (by decide)
      rw [Deep.add_add] at c0 c1 c2
      exact ⟨l, by simpa using c0, by simpa using c1, by simpa using c2⟩
    have inh : Inhabited Lim := ⟨⟨0, 0, 0⟩⟩
    obtain ⟨f, hf⟩ := Deep.choose_lt each
    refine ⟨some a, (List.range len).map f, cap, by simp, ?_, by simp, by simpa using hl, ?_⟩
    · by_cases h0 : len = 0
      · subst h0; exact Or.inl rfl
      · have c0 := (hf 0 (by omega)).1
        have hsp : a.spot = none := by
          have := World.cell?_spot c0
          simpa [Addr.add] using this
        have hblk := World.block_lt_of_cell? _ _ c0
        refine Or.inr ⟨a.block, a.off, ?_, ?_, ?_⟩
        · cases a with
          | mk b o s => simp at hsp; subst hsp; rfl
        · rw [add_at a hsp] at hblk; exact hblk
        · intro i l hi
          rw [List.getElem?_map] at hi
          by_cases hil : i < len
          · rw [List.getElem?_range hil] at hi
            simp at hi; subst hi
            obtain ⟨q0, q1, q2⟩ := hf i hil
            rw [add_at a hsp] at q0 q1 q2
            exact ⟨q0, by rw [Nat.add_assoc]; exact q1, by rw [Nat.add_assoc]; exact q2⟩
          · rw [List.getElem?_eq_none (by simpa using hil)] at hi; simp at hi
    · have h1 := bulk_len ((List.range len).map D)
      have h2 := bulk_slice ((List.range len).map D) ((List.range (m - len)).map fun j => D (len + j))
      simp at h1
      have e : ((List.range len).map f).length = len := by simp
      rw [e]
      show len ≤ Rows.uptoBulk (.slice ((List.range len).map D) ((List.range (m - len)).map fun j => D (len + j)))
      omega

set_option maxRecDepth 100000 in
theorem open_op {n : Nat} {cs : List Value} {x : DataW H × List MemPlace} (h : DataW.trod enc Tryz.prog W 0 (fun _ => true) true n 39 cs = some x) (hb : Rows.uptoBulk x.1 ≤ 1048576) :
    ∃ r : OpR, cs = r.cells ∧ r.Ok W ∧ 2 ≤ Rows.uptoBulk x.1 := by
  obtain ⟨xs, k, hk, hx, hl, hxl, hf⟩ := DataW.trod_struct Tryz.underlying39 h
  rw [cellsOp] at hl
  match cs, hl with
  | [v0, v1, v2, v3, v4, v5, v6, v7, v8, v9], _ =>
    have g0 := hf 0 _ rfl
    have g1 := hf 1 _ rfl
    have g2 := hf 2 _ rfl
    have g3 := hf 3 _ rfl
    have g4 := hf 4 _ rfl
    have g5 := hf 5 _ rfl
    have g6 := hf 6 _ rfl
    have g7 := hf 7 _ rfl
    simp [cellsI, cellsCfg, cellsStr] at g0 g1 g2 g3 g4 g5 g6 g7
    have l7 : 7 < xs.length := by rw [hxl]; decide
    rw [List.getElem?_eq_getElem (by omega)] at g0 g1 g2 g3 g4 g5 g6 g7
    obtain ⟨n0, e0, -⟩ := DataW.trod_int Tryz.underlying3 g0
    obtain ⟨n1, e1, -, w1⟩ := DataW.trod_int Tryz.underlying3 g1
    obtain ⟨n2, e2, -⟩ := DataW.trod_int Tryz.underlying3 g2
    obtain ⟨n3, e3, -⟩ := DataW.trod_int Tryz.underlying3 g3
    obtain ⟨n4, e4, -⟩ := DataW.trod_int Tryz.underlying3 g4
    obtain ⟨n5, e5, -⟩ := DataW.trod_int Tryz.underlying3 g5
    obtain ⟨s, e7, -⟩ := DataW.trod_string Tryz.underlying9 g7
    obtain ⟨ys, k2, hk2, hy, hl2, hyl, hf2⟩ := DataW.trod_struct Tryz.underlying37 g6
    have m0 := hf2 0 _ rfl
    have m1 := hf2 1 _ rfl
    have m2 := hf2 2 _ rfl
    simp [cellsI, cellsSL] at m0 m1 m2
    have l2 : 2 < ys.length := by rw [hyl]; decide
    rw [List.getElem?_eq_getElem (by omega)] at m0 m1 m2
    obtain ⟨n6, e6, -⟩ := DataW.trod_int Tryz.underlying3 m0
    obtain ⟨n8, e8, -⟩ := DataW.trod_int Tryz.underlying3 m2
    obtain ⟨a, lims, cap, e9, s1, s2, s3, s4⟩ := open_lims m1
    simp at e0 e1 e2 e3 e4 e5 e7 e6 e8
    have b6 : Rows.uptoBulk xs[6].1 ≤ 1048576 := by
      have q1 : Rows.uptoBulk xs[6].1 ≤ Rows.uptoBulkAll (xs.map (·.1)) := bulk_part (List.mem_map.2 ⟨xs[6], List.getElem_mem _, rfl⟩)
      rw [hx] at hb
      simp only [Rows.uptoBulk] at hb
      omega
    have b1 : Rows.uptoBulk ys[1].1 ≤ 1048576 := by
      have q1 : Rows.uptoBulk ys[1].1 ≤ Rows.uptoBulkAll (ys.map (·.1)) := bulk_part (List.mem_map.2 ⟨ys[1], List.getElem_mem _, rfl⟩)
      rw [hy] at b6
      simp only [Rows.uptoBulk] at b6
      omega
    have hw : -9223372036854775808 ≤ n1 ∧ n1 ≤ 9223372036854775807 := by
      have e1 : IntKind.i64.min = -9223372036854775808 := by decide
      have e2 : IntKind.i64.max = 9223372036854775807 := by decide
      simp only [Lit.wf, e1, e2, Bool.and_eq_true, decide_eq_true_eq] at w1
      exact w1
    refine ⟨⟨n0, n1, n2, n3, n4, n5, n6, a, lims, cap, n8, s⟩, ?_, ⟨s1, s2, s3, show lims.length ≤ 10000000 by omega, hw.1, hw.2⟩, ?_⟩
    · rw [e0, e1, e2, e3, e4, e5, e6, e7, e8, e9]
      rfl
    · have q1 := bulk_len (xs.map (·.1))
      rw [List.length_map] at q1
      rw [hx]
      simp only [Rows.uptoBulk]
      omega

set_option maxRecDepth 100000 in
theorem open_script {v : Value} {d : DataW H} {ps : List MemPlace} {base : Nat} {r : Reach} (hv : Value.okWide Tryz.prog W r base 22 v) (h : DataW.Trod enc Tryz.prog W 0 (fun _ => true) true 22 v d ps) (hb : Rows.uptoBulk d ≤ 1048576) :
    ∃ al rs cap, v = .slice al (List.length (α := OpR) rs) cap ∧ ScriptAt W al rs ∧ rs.length ≤ 1000000 := by
  obtain ⟨a0, len0, cap0, rfl⟩ := okWide_slice Tryz.underlying22 hv
  obtain ⟨fuel, h⟩ := h
  rcases Deep.open_slice Tryz.underlying22 h with ⟨h0, -⟩ | ⟨a, len, cap, m, k, D, Pl, h0, hbb, hl, hm, hmm, hd, hx⟩
  · simp [Value.cells] at h0
    obtain ⟨rfl, rfl, rfl⟩ := h0
    exact ⟨none, [], 0, rfl, Or.inl rfl, by simp⟩
  · simp [Value.cells] at h0
    obtain ⟨rfl, rfl, rfl⟩ := h0
    have hmm : m = cap0 := by simpa using hmm
    simp only [Prod.mk.injEq] at hd
    have q2 := bulk_slice ((List.range len0).map D) ((List.range (m - len0)).map fun j => D (len0 + j))
    rw [hd.1] at hb
    have hbulk : ∀ i, i < len0 → Rows.uptoBulk (D i) ≤ 1048576 := by
      intro i hi
      have q1 : Rows.uptoBulk (D i) ≤ Rows.uptoBulkAll ((List.range len0).map D) := bulk_part (List.mem_map.2 ⟨i, List.mem_range.2 hi, rfl⟩)
      omega
    have each : ∀ i, i < len0 → ∃ r : OpR, (∀ j : Nat, j < 10 → W.cell? (a.add (i * 10 + j)) = r.cells[j]?) ∧ r.Ok W ∧ 2 ≤ Rows.uptoBulk (D i) := by
      intro i hi
      obtain ⟨cs', h1, h2⟩ := hx i (by omega)
      rw [cellsOp] at h1
      obtain ⟨r, rfl, hr, h2b⟩ := open_op h2 (hbulk i hi)
      obtain ⟨-, -, hc⟩ := World.cells?_some h1
      refine ⟨r, fun j hj => ?_, hr, h2b⟩
      have := hc j hj
      rw [Deep.add_add] at this
      exact this
    have inh : Inhabited OpR := ⟨⟨0, 0, 0, 0, 0, 0, 0, none, [], 0, 0, ⟨#[]⟩⟩⟩
    obtain ⟨f, hf⟩ := Deep.choose_lt each
    have hlen : len0 ≤ 1000000 := by
      have q3 := bulk_len2 ((List.range len0).map D) (by
        intro d hd'
        obtain ⟨i, hi, rfl⟩ := List.mem_map.1 hd'
        exact (hf i (List.mem_range.1 hi)).2.2)
      simp only [List.length_map, List.length_range] at q3
      omega
    refine ⟨some a, (List.range len0).map f, cap0, by simp, ?_, by simpa using hlen⟩
    by_cases h0 : len0 = 0
    · subst h0; exact Or.inl rfl
    · have c0 := (hf 0 (by omega)).1 0 (by decide)
      have c0' : W.cell? (a.add (0 * 10 + 0)) = some (I (f 0).k) := c0
      have hsp : a.spot = none := by
        have := World.cell?_spot c0'
        simpa [Addr.add] using this
      have hblk := World.block_lt_of_cell? _ _ c0'
      refine Or.inr ⟨a.block, a.off, ?_, ?_, ?_⟩
      · cases a with
        | mk b o s => simp at hsp; subst hsp; rfl
      · rw [add_at a hsp] at hblk; exact hblk
      · intro i r hi
        rw [List.getElem?_map] at hi
        by_cases hil : i < len0
        · rw [List.getElem?_range hil] at hi
          simp at hi; subst hi
          obtain ⟨q0, q1, -⟩ := hf i hil
          refine ⟨fun j hj => ?_, q1⟩
          have := q0 j hj
          rw [add_at a hsp] at this
          rw [Nat.add_assoc]; exact this
        · rw [List.getElem?_eq_none (by simpa using hil)] at hi; simp at hi
end

end Go.Proofs.YtahiolfelcmikaaGreat

/- Rates: the statement. -/
namespace Go.Proofs.YtahiolfelcmikaaGreat
open Go.ChangeShapes Go.WideShapes Go.ChangeAt Go.RowKit

theorem own_knob : ownKnob Tryz.prog.godebug = none := by kernel_rfl
theorem laid_out : laidOutB Tryz.prog = true := by kernel_rfl

theorem bulk_bound {H : Type} {d : DataW H} (hk : Rows.uptoSmall H [d] = true) : Rows.uptoBulk d ≤ 1048576 := by
  have h : Rows.uptoBulkAll [d] ≤ 1048576 := of_decide_eq_true hk
  simp only [Rows.uptoBulkAll] at h
  omega

set_option maxRecDepth 100000 in
theorem rates_contract (H : Type) (enc : TypeId × Value → H) (W : World) (base : Nat) (args : Array Value) (ds gs : List (DataW H)) (before : List MemPlace)
    (hval : ∀ (j : Nat) t v, Tryz.f3.params[j]? = some t → args[j]? = some v → Value.okWide Tryz.prog W .any base t v)
    (hW : DataW.Whole enc Tryz.prog Tryz.f3.params.toList Rows.ratesSpec.vars false W args.toList ds gs before) (hk : Rows.uptoSmall H (ds ++ gs) = true) :
    Calls Tryz.prog 3 args W fun e W' => ∃ v, e = .returned v ∧ Rows.ratesSpec.post enc Tryz.prog Tryz.f3 false true false false W args v W' := by
  have hW' := hW
  obtain ⟨p, q, hA0, hV, rfl, hfz, hnd⟩ := hW
  have hA : DataW.TrodAll enc Tryz.prog W 0 (fun _ => true) true Tryz.f3.params.toList args.toList ds p := hA0
  rw [Tryz.params3] at hA hval
  obtain ⟨v0, vs0, d0, ds0, p0, q0, hargs, rfl, rfl, h0, r0⟩ := trodAll_cons hA
  obtain ⟨rfl, rfl, rfl⟩ := trodAll_nil r0
  obtain rfl : args = #[v0] := by cases args; simp_all
  obtain ⟨rfl, rfl⟩ := trodVars_none hV
  clear hA0
  simp only [List.append_nil] at hW' hk
  obtain ⟨al, rs, cap, rfl, hsc, hl⟩ := open_script (hval 0 22 v0 rfl rfl) h0 (bulk_bound hk)
  have hlt : ∀ x ∈ p0, x.block < W.heap.size := fun x hx => by simpa using hW'.lt x hx
  refine (rates_any pd drip_pumpy al rs cap W hsc hl).mono fun e W' ⟨he, hf⟩ => ?_
  subst he
  have hbelow : Below W.heap.size W W' := ⟨hf.os, hf.tape, hf.output, hf.size, fun k hk => hf.block k hk (by omega)⟩
  exact ⟨_, rfl, _, _, _, [], p0, [], hW', trodAll_mk1 (shut_bool Tryz.underlying4 _), trodAll_mk1 (Below.trod laid_out (by kernel_rfl) (of_decide_eq_true (by kernel_rfl)) h0 hbelow hlt), rfl, hbelow.frame _, fun h => by cases h⟩

set_option maxRecDepth 100000 in
theorem rates_lifted (os : Os) (started : os.Started) (H : Type) (enc : TypeId × Value → H) (F : Stop.Interp) :
    ReturnsInHanded {} Tryz.checked os 3 .any ((Rows.OpenSpec.upto Rows.ratesSpec).pre6 enc Tryz.prog Tryz.f3 Rows.ratesUptoRow.domain false) (((Rows.OpenSpec.upto Rows.ratesSpec).at F).post enc Tryz.prog Tryz.f3 false true false false) := by
  refine returnsInHanded_of_cond (C := Tryz.checked) (s := Rows.OpenSpec.upto Rows.ratesSpec) (k := Rows.uptoSmall) rfl own_knob started (by kernel_rfl) Tryz.func3
    (OpenSpec.witness (enc := enc) (C := Tryz.checked) (s := Rows.OpenSpec.upto Rows.ratesSpec) (k := Rows.uptoSmall) rfl false ⟨#[], #[.slice none 0 0], []⟩ 8 (by kernel_rfl) (by kernel_rfl) (by kernel_rfl)
      (x := ([.nil], [], [])) (by kernel_rfl) rfl (by kernel_rfl)) ?_
  intro W base args ds gs before hval hW _ hk _
  exact rates_contract H enc W base args ds gs before hval hW hk

theorem rates_upto_holds : Rows.RatesUptoSaid :=
  OpenClaim.holds_of_cond 3 Tryz.f3 rfl rfl rfl rfl rfl rfl rfl ⟨rfl, rfl, rfl, rfl, rfl⟩ rfl rfl rfl rfl rfl (by kernel_rfl) Tryz.func3 (by kernel_rfl)
    (of_decide_eq_true (by kernel_rfl)) (by unfold Func.isWrapper; first | (rw [if_pos (by decide +kernel)]; kernel_rfl) | (rw [if_neg (by decide +kernel)]; exact ⟨rfl, rfl⟩))
    (fun os started H enc _ F => rates_lifted os started H enc F)

end Go.Proofs.YtahiolfelcmikaaGreat

/- Order, Rest, Pause, Resume: the program's. -/
namespace Go.Proofs.YtahiolfelcmikaaGreat
open Go.RowKit

/-- what take does -/
def TakeSpec : Prop := ∀ (b : Nat) (D : GSt) (vc vw : Value) (ods : List OrdD) (R : RSt) (k : Nat) (a d t : Int) (w : World), PAt w b D vc vw ods → ORel D ods R → R.Ok → R.Full → k < D.chs.length → 1 ≤ a → a ≤ 1000 → 0 ≤ d → d ≤ 400 → 1 ≤ t → t ≤ 400 →
    Calls Tryz.prog 63 #[ptr b 0, I k, I a, I d, I t] w fun e w' => e = .returned (I ((ods.length : Int) + 1)) ∧ Goes w b D vc vw ods { R with os := R.os ++ [⟨k, R.now + d, R.now + d + t, a⟩] } w'

set_option maxRecDepth 100000 in
set_option maxHeartbeats 800000 in
theorem full_any (b : Nat) (nv : Int) (w : World) (c7 : w.cell? ⟨b, 7, none⟩ = some (I nv)) : Calls Tryz.prog 62 #[ptr b 0] w fun e w' => e = .returned (.bool (decide (8 ≤ nv))) ∧ w' = w := by
  go_enter Tryz.func62, Tryz.ntmps62
  go_wp2
  go_ret
  exact ⟨rfl, rfl⟩

theorem nv_nov {w : World} {b : Nat} {D : GSt} {vc vw : Value} {ods : List OrdD} {R : RSt} (h : PAt w b D vc vw ods) (rel : ORel D ods R) : D.nv = (nov R.now R.os : Int) := by
  rw [h.o.cnt, fins_nov ods rel.trn, ← rel.os]

set_option maxRecDepth 100000 in
set_option maxHeartbeats 1600000 in
theorem oOrder_no (b : Nat) (D : GSt) (vc vw : Value) (ods : List OrdD) (R : RSt) (k a d t : Int) (w : World) (h : PAt w b D vc vw ods) (rel : ORel D ods R) (ok : R.Ok) (hb : orderBad R k a d t = true) :
    Calls Tryz.prog 36 #[ptr b 0, I k, I a, I d, I t] w fun e w' => e = .returned (.tuple #[I 0, I 1]) ∧ w' = w := by
  have HC := hide (ohasCh b D vc vw ods R k w h rel ok)
  have W1 := hide (within_any a 1 1000 w)
  have W2 := hide (within_any d 0 400 w)
  have W3 := hide (within_any t 1 400 w)
  clear h rel ok
  cases hh : isCh R k with
  | false =>
    rw [hh] at HC
    clear hb
    go_enter Tryz.func36, Tryz.ntmps36
    go_wp2_with (go_at_call 55; refine (HC.out).mono ?_; rintro e w' ⟨rfl, rfl⟩)
    go_ret2
    exact ⟨rfl, rfl⟩
  | true =>
    rw [hh] at HC
    by_cases q1 : a < 1 ∨ 1000 < a
    · rw [within_no q1] at W1
      clear hb q1
      go_enter Tryz.func36, Tryz.ntmps36
      go_wp2_with (first | (go_at_call 55; refine (HC.out).mono ?_; rintro e w' ⟨rfl, hw⟩; subst hw) | (go_at_call 51; refine (W1.out).mono ?_; rintro e w' ⟨rfl, hw⟩; subst hw))
      go_ret2
      exact ⟨rfl, rfl⟩
    · rw [within_yes (by omega) (by omega)] at W1
      by_cases q2 : d < 0 ∨ 400 < d
      · rw [within_no q2] at W2
        clear hb q1 q2
        go_enter Tryz.func36, Tryz.ntmps36
        go_wp2_with (go_at_call 55; refine (HC.out).mono ?_; rintro e w' ⟨rfl, hw⟩; subst hw)
        refine (W1.out).mono ?_
        rintro e w1 ⟨rfl, hw⟩
        subst hw
        go_wp2_with fail
        refine (W2.out).mono ?_
        rintro e w2 ⟨rfl, hw⟩
        subst hw
        go_wp2_with fail
        go_ret2
        exact ⟨rfl, rfl⟩
      · rw [within_yes (by omega) (by omega)] at W2
        have q3 : t < 1 ∨ 400 < t := by
          simp [orderBad, hh] at hb
          omega
        rw [within_no q3] at W3
        clear hb q1 q2 q3
        go_enter Tryz.func36, Tryz.ntmps36
        go_wp2_with (go_at_call 55; refine (HC.out).mono ?_; rintro e w' ⟨rfl, hw⟩; subst hw)
        refine (W1.out).mono ?_
        rintro e w1 ⟨rfl, hw⟩
        subst hw
        go_wp2_with fail
        refine (W2.out).mono ?_
        rintro e w2 ⟨rfl, hw⟩
        subst hw
        go_wp2_with fail
        refine (W3.out).mono ?_
        rintro e w3 ⟨rfl, hw⟩
        subst hw
        go_wp2_with fail
        go_ret2
        exact ⟨rfl, rfl⟩

theorem order_good {R : RSt} {k a d t : Int} (hb : orderBad R k a d t = false) : isCh R k = true ∧ 1 ≤ a ∧ a ≤ 1000 ∧ 0 ≤ d ∧ d ≤ 400 ∧ 1 ≤ t ∧ t ≤ 400 := by
  obtain ⟨h1, h2, h3, h4, h5, h6, h7⟩ := orderGood hb
  exact ⟨h1, by have := h2; simp at this; omega, by simpa using h3, by simpa using h4, by simpa using h5, by have := h6; simp at this; omega, by simpa using h7⟩

set_option maxRecDepth 100000 in
set_option maxHeartbeats 1600000 in
theorem oOrder_on (TS : TakeSpec) (b : Nat) (D : GSt) (vc vw : Value) (ods : List OrdD) (R : RSt) (k a d t : Int) (w : World) (h : PAt w b D vc vw ods) (rel : ORel D ods R) (ok : R.Ok) (full : R.Full) (hb : orderBad R k a d t = false) :
    Calls Tryz.prog 36 #[ptr b 0, I k, I a, I d, I t] w fun e w' => e = .returned (.tuple #[I (orderN R k a d t), I (orderErr R k a d t)]) ∧ Goes w b D vc vw ods (orderR R k a d t) w' := by
  obtain ⟨hk, a0, a1, d0, d1, t0, t1⟩ := order_good hb
  have HC := hide (ohasCh b D vc vw ods R k w h rel ok)
  rw [hk] at HC
  have W1 := hide (within_any a 1 1000 w)
  have W2 := hide (within_any d 0 400 w)
  have W3 := hide (within_any t 1 400 w)
  rw [within_yes a0 a1] at W1
  rw [within_yes d0 d1] at W2
  rw [within_yes t0 t1] at W3
  obtain ⟨k0, k1⟩ := isCh_true hk
  obtain ⟨k, rfl⟩ := Int.eq_ofNat_of_zero_le k0
  have hkl : k < D.chs.length := by rw [rel.nch]; omega
  obtain ⟨sl, ag⟩ := h.g.ag
  have c7 : w.cell? ⟨b, 7, none⟩ = some (I D.nv) := by rw [ag.head.cell]; rfl
  have hnv := nv_nov h rel
  have hos : ods.length = R.os.length := by rw [rel.os]; simp
  have FU := hide (full_any b D.nv w c7)
  by_cases hm : 8 ≤ nov R.now R.os
  · have e1 : orderErr R k a d t = 2 := by simp [orderErr, hb, hm]
    have e2 : orderN R k a d t = 0 := by simp [orderN, e1]
    have e3 : orderR R k a d t = R := by simp [orderR, e1]
    rw [e1, e2, e3]
    have hd8 : decide (8 ≤ D.nv) = true := decide_eq_true (by rw [hnv]; omega)
    rw [hd8] at FU
    have H := hide (And.intro h rel)
    clear h rel ok full hb ag c7 hnv e1 e2 e3 hm hd8 hos
    go_enter Tryz.func36, Tryz.ntmps36
    go_wp2_with (go_at_call 55; refine (HC.out).mono ?_; rintro e w' ⟨rfl, hw⟩; have hw' := hw.symm; subst hw')
    refine (W1.out).mono ?_
    rintro e w1 ⟨rfl, hw⟩
    have hw' := hw.symm
    subst hw'
    go_wp2_with fail
    refine (W2.out).mono ?_
    rintro e w2 ⟨rfl, hw⟩
    have hw' := hw.symm
    subst hw'
    go_wp2_with fail
    refine (W3.out).mono ?_
    rintro e w3 ⟨rfl, hw⟩
    have hw' := hw.symm
    subst hw'
    go_wp2_with fail
    refine (FU.out).mono ?_
    rintro e w4 ⟨rfl, hw⟩
    have hw' := hw.symm
    subst hw'
    go_wp2_with fail
    go_ret2
    exact ⟨rfl, D, ods, (H.out).1, (H.out).2, fun x hx => Or.inl hx, Frm.refl _ _⟩
  · have e1 : orderErr R k a d t = 0 := by simp [orderErr, hb]; omega
    have e2 : orderN R k a d t = (ods.length : Int) + 1 := by simp [orderN, e1, hos]
    have e3 : orderR R k a d t = { R with os := R.os ++ [⟨k, R.now + d, R.now + d + t, a⟩] } := by simp [orderR, e1]
    rw [e1, e2, e3]
    have hd8 : decide (8 ≤ D.nv) = false := decide_eq_false (by rw [hnv]; omega)
    rw [hd8] at FU
    have TK := hide (TS b D vc vw ods R k a d t w h rel ok full hkl a0 a1 d0 d1 t0 t1)
    clear h rel ok full hb ag c7 hnv e1 e2 e3 hm hd8 hos
    go_enter Tryz.func36, Tryz.ntmps36
    go_wp2_with (go_at_call 55; refine (HC.out).mono ?_; rintro e w' ⟨rfl, hw⟩; have hw' := hw.symm; subst hw')
    refine (W1.out).mono ?_
    rintro e w1 ⟨rfl, hw⟩
    have hw' := hw.symm
    subst hw'
    go_wp2_with fail
    refine (W2.out).mono ?_
    rintro e w2 ⟨rfl, hw⟩
    have hw' := hw.symm
    subst hw'
    go_wp2_with fail
    refine (W3.out).mono ?_
    rintro e w3 ⟨rfl, hw⟩
    have hw' := hw.symm
    subst hw'
    go_wp2_with fail
    refine (FU.out).mono ?_
    rintro e w4 ⟨rfl, hw⟩
    have hw' := hw.symm
    subst hw'
    go_wp2_with fail
    refine (TK.out).mono ?_
    rintro e w5 ⟨rfl, hg⟩
    have HG := hide hg
    clear hg
    go_wp2_with fail
    go_ret2
    exact ⟨rfl, HG.out⟩

set_option maxRecDepth 100000 in
set_option maxHeartbeats 1600000 in
theorem oRest_any (b : Nat) (D : GSt) (vc vw : Value) (ods : List OrdD) (R : RSt) (j : Int) (w : World) (h : PAt w b D vc vw ods) (rel : ORel D ods R) (hol : ods.length ≤ 3300) :
    Calls Tryz.prog 31 #[ptr b 0, I j] w fun e w' => e = .returned (.tuple #[I (restV R j), I (restErr R j)]) ∧ w' = w := by
  have WI := hide (within_any j 1 (ods.length : Int) w)
  obtain ⟨av, cp, hvo⟩ := row_slice h.o.vor
  obtain ⟨sl, ag⟩ := h.g.ag
  have c6 : w.cell? ⟨b, 6, none⟩ = some (.slice av ods.length cp) := by rw [ag.head.cell, ← hvo]; rfl
  have hos : R.os.length = ods.length := by rw [rel.os]; simp
  by_cases q : j < 1 ∨ (ods.length : Int) < j
  · have e1 : restErr R j = 1 := by simp [restErr, hos, q]
    have e2 : restV R j = 0 := by simp [restV, hos, q]
    rw [e1, e2]
    rw [within_no q] at WI
    clear h rel ag q e1 e2
    go_enter Tryz.func31, Tryz.ntmps31
    go_wp2_with fail
    refine (WI.out).mono ?_
    rintro e w1 ⟨rfl, hw⟩
    subst hw
    go_wp2_with fail
    go_ret2
    exact ⟨rfl, rfl⟩
  · obtain ⟨i, rfl⟩ : ∃ i : Nat, j = (i : Int) + 1 := ⟨(j - 1).toNat, by omega⟩
    have hi : i < ods.length := by omega
    obtain ⟨o, ho⟩ : ∃ o, ods[i]? = some o := ⟨_, List.getElem?_eq_getElem hi⟩
    have e1 : restErr R ((i : Int) + 1) = 0 := by simp [restErr, hos]; omega
    have e2 : restV R ((i : Int) + 1) = o.rest := by
      have e3 : ((i : Int) + 1 - 1).toNat = i := by omega
      have e4 : ¬ ((i : Int) + 1 < 1 ∨ (R.os.length : Int) < (i : Int) + 1) := by rw [hos]; omega
      unfold restV
      rw [if_neg e4, e3, rel.os, List.getElem?_map, ho]
      rfl
    rw [e1, e2]
    rw [within_yes (by omega) (by omega)] at WI
    obtain ⟨g, cap, hv, -, hcell, -⟩ := row_at h.o.vor (fun _ => rfl) ho (by decide)
    rw [hvo] at hv
    injection hv with hv1 hv2 hv3
    subst hv1
    have d0 := hcell 0 (by decide)
    simp at d0
    have bo := h.o.ords i o ho
    have b1 : w.cell? ⟨o.blk, 1, none⟩ = some (I o.rest) := by rw [bo.cell]; rfl
    clear h rel ag q e1 e2 hcell bo hv2 hv3 hvo
    go_enter Tryz.func31, Tryz.ntmps31
    go_wp2_with fail
    refine (WI.out).mono ?_
    rintro e w1 ⟨rfl, hw⟩
    have hw' := hw.symm
    subst hw'
    go_wp2_with fail
    go_ret2
    exact ⟨rfl, rfl⟩

end Go.Proofs.YtahiolfelcmikaaGreat

/- Pause, Resume, Demand: the program's. -/
namespace Go.Proofs.YtahiolfelcmikaaGreat
open Go.RowKit

theorem Goes.refl {w : World} {b : Nat} {D : GSt} {vc vw : Value} {ods : List OrdD} {R : RSt} (h : PAt w b D vc vw ods) (rel : ORel D ods R) : Goes w b D vc vw ods R w := ⟨D, ods, h, rel, fun _ hx => Or.inl hx, Frm.refl _ _⟩

theorem Goes.after {w W w' : World} {b : Nat} {D D1 : GSt} {vc vw : Value} {ods ods1 : List OrdD} {R : RSt} (h : Goes W b D1 vc vw ods1 R w') (f : Frm (PF b D vc vw ods) w W) (ft : ∀ x, PF b D1 vc vw ods1 x → PF b D vc vw ods x ∨ w.heap.size ≤ x) : Goes w b D vc vw ods R w' := by
  obtain ⟨D', ods', h1, h2, h3, h4⟩ := h
  have sz := f.size
  refine ⟨D', ods', h1, h2, fun x hx => ?_, f.trans2 h4 fun x hx e => ?_⟩
  · rcases h3 x hx with q | q
    · exact ft x q
    · exact Or.inr (by omega)
  · rcases ft x e with q | q
    · exact q
    · omega

/-- a cell of a channel -/
theorem PAt.setCh {w : World} {b : Nat} {D : GSt} {vc vw : Value} {ods : List OrdD} (h : PAt w b D vc vw ods) {k g cap i : Nat} {c c' : GCh} (hk : D.chs[k]? = some c) (hv : vc = .slice (some ⟨g, 0, none⟩) D.chs.length cap) (hi : i < 5) (he : c'.ent = c.ent) (hs : c'.so = c.so) {u : Value} (hf : gchC c' = (gchC c).set i u) :
    PAt (w.setCell ⟨g, k * 5 + i, none⟩ u) b { D with chs := D.chs.set k c' } vc vw ods ∧ Frm (PF b D vc vw ods) w (w.setCell ⟨g, k * 5 + i, none⟩ u) ∧ ∀ x, PF b { D with chs := D.chs.set k c' } vc vw ods x → PF b D vc vw ods x := by
  obtain ⟨q1, q2⟩ := h.g.setCh hk hv hi he hf
  have hkl : k < D.chs.length := (List.getElem?_eq_some_iff.1 hk).1
  have ho := h.o.frmG h.g (q2.mono fun x _ e => Or.inr (Or.inl e))
  have hss : sosOf (D.chs.set k c') = sosOf D.chs := sosOf_same D.chs k c c' hk hs
  refine ⟨⟨q1, ?_⟩, q2.mono fun x _ e => Or.inl (Or.inr (Or.inl e)), ?_⟩
  · show OAt _ b vc (sosOf (D.chs.set k c')) D.vo D.xt D.nv ods
    rw [hss]; exact ho
  · rintro x ((e | e | e | ⟨j, d, e', h1, h2⟩) | e)
    · exact Or.inl (Or.inl e)
    · exact Or.inl (Or.inr (Or.inl e))
    · exact Or.inl (Or.inr (Or.inr (Or.inl e)))
    · refine Or.inl (Or.inr (Or.inr (Or.inr ?_)))
      have h1 : (D.chs.set k c')[j]? = some d := h1
      by_cases q : k = j
      · rw [← q, List.getElem?_set_self hkl] at h1; simp at h1; subst h1
        exact ⟨k, c, e', hk, by rw [← he]; exact h2⟩
      · rw [List.getElem?_set_ne q] at h1; exact ⟨j, d, e', h1, h2⟩
    · have e' : OF (sosOf (D.chs.set k c')) D.vo ods x := e
      rw [hss] at e'; exact Or.inr e'

set_option maxRecDepth 100000 in
set_option maxHeartbeats 1600000 in
theorem osetResting (b : Nat) (D : GSt) (vc vw : Value) (ods : List OrdD) (R : RSt) (k : Int) (yes : Bool) (w : World) (h : PAt w b D vc vw ods) (rel : ORel D ods R) (ok : R.Ok) :
    Calls Tryz.prog 65 #[ptr b 0, I k, .bool yes] w fun e w' => e = .returned (I (restsErr R k yes)) ∧ Goes w b D vc vw ods (restsR R k yes) w' := by
  have HC := hide (ohasCh b D vc vw ods R k w h rel ok)
  cases hk : isCh R k with
  | false =>
    have e1 : restsErr R k yes = 1 := by simp [restsErr, hk]
    have e2 : restsR R k yes = R := by simp [restsR, e1]
    rw [e1, e2]
    rw [hk] at HC
    have G := hide (Goes.refl h rel)
    clear h rel ok hk e1 e2
    go_enter Tryz.func65, Tryz.ntmps65
    go_wp2_with fail
    refine (HC.out).mono ?_
    rintro e w1 ⟨rfl, hw⟩
    have hw' := hw.symm
    subst hw'
    go_wp2_with fail
    go_ret
    exact ⟨rfl, G.out⟩
  | true =>
    rw [hk] at HC
    obtain ⟨k0, k1⟩ := isCh_true hk
    obtain ⟨k, rfl⟩ := Int.eq_ofNat_of_zero_le k0
    have hkl : k < D.chs.length := by rw [rel.nch]; omega
    have nc : D.chs.length ≤ 4 := by rw [rel.nch]; exact ok.nc1
    obtain ⟨d, hd⟩ : ∃ d, D.chs[k]? = some d := ⟨_, List.getElem?_eq_getElem hkl⟩
    obtain ⟨c, hc⟩ : ∃ c, R.chs[k]? = some c := ⟨_, List.getElem?_eq_getElem (by omega)⟩
    obtain ⟨r1, r2, r3, r4, r5⟩ := rel.ch k d c hd hc
    obtain ⟨g, cap, hv, -, -, -, d3, -, hfz, -⟩ := h.g.chan hd
    obtain ⟨sl, ag⟩ := h.g.ag
    have c2 : w.cell? ⟨b, 2, none⟩ = some (.slice (some ⟨g, 0, none⟩) D.chs.length cap) := by rw [ag.head.cell, ← hv]; rfl
    have f3 := hfz (k * 5 + 3)
    by_cases hq : d.rests = yes
    · have e1 : restsErr R k yes = 3 := by simp [restsErr, hk, hc, ← r1, hq]
      have e2 : restsR R k yes = R := by simp [restsR, e1]
      rw [e1, e2]
      have G := hide (Goes.refl h rel)
      rw [hq] at d3
      clear h rel ok hk e1 e2 ag hv hd hc r1 r2 r3 r4 r5 hfz hq
      go_enter Tryz.func65, Tryz.ntmps65
      go_wp2_with fail
      refine (HC.out).mono ?_
      rintro e w1 ⟨rfl, hw⟩
      have hw' := hw.symm
      subst hw'
      cases yes
      all_goals go_wp2_with fail
      all_goals go_ret
      all_goals exact ⟨rfl, G.out⟩
    · have e1 : restsErr R k yes = 0 := by simp [restsErr, hk, hc, ← r1, hq]
      have e2 : restsR R k yes = { R with chs := R.chs.set k { c with rests := yes } } := by simp [restsR, e1, hc]
      rw [e1, e2]
      obtain ⟨p1, p2, p3⟩ := h.setCh (i := 3) (c' := { d with rests := yes }) hd hv (by decide) rfl rfl (u := .bool yes) rfl
      have G : Hid (Goes w b D vc vw ods { R with chs := R.chs.set k { c with rests := yes } } (w.setCell ⟨g, k * 5 + 3, none⟩ (.bool yes))) :=
        ⟨_, ods, p1, rel.setch hc rfl rfl rfl rfl ⟨rfl, r2, r3, r4, r5⟩, fun x hx => Or.inl (p3 x hx), p2⟩
      have hq' : d.rests = !yes := by cases hy : yes <;> cases hr : d.rests <;> simp_all
      rw [hq'] at d3
      clear h rel ok hk e1 e2 ag hv hd hc r1 r2 r3 r4 r5 hfz hq hq' p1 p2 p3
      go_enter Tryz.func65, Tryz.ntmps65
      go_wp2_with fail
      refine (HC.out).mono ?_
      rintro e w1 ⟨rfl, hw⟩
      have hw' := hw.symm
      subst hw'
      cases yes
      all_goals go_wp2_with fail
      all_goals go_ret
      all_goals exact ⟨rfl, G.out⟩

set_option maxRecDepth 100000 in
set_option maxHeartbeats 800000 in
theorem oPause_any (b : Nat) (D : GSt) (vc vw : Value) (ods : List OrdD) (R : RSt) (k : Int) (w : World) (h : PAt w b D vc vw ods) (rel : ORel D ods R) (ok : R.Ok) :
    Calls Tryz.prog 40 #[ptr b 0, I k] w fun e w' => e = .returned (I (restsErr R k true)) ∧ Goes w b D vc vw ods (restsR R k true) w' := by
  have C := hide (osetResting b D vc vw ods R k true w h rel ok)
  clear h rel ok
  go_enter Tryz.func40, Tryz.ntmps40
  go_wp2_with fail
  refine (C.out).mono ?_
  rintro e w' ⟨rfl, hg⟩
  have G := hide hg
  clear hg
  go_wp2_with fail
  go_ret
  exact ⟨rfl, G.out⟩

set_option maxRecDepth 100000 in
set_option maxHeartbeats 800000 in
theorem oResume_any (b : Nat) (D : GSt) (vc vw : Value) (ods : List OrdD) (R : RSt) (k : Int) (w : World) (h : PAt w b D vc vw ods) (rel : ORel D ods R) (ok : R.Ok) :
    Calls Tryz.prog 42 #[ptr b 0, I k] w fun e w' => e = .returned (I (restsErr R k false)) ∧ Goes w b D vc vw ods (restsR R k false) w' := by
  have C := hide (osetResting b D vc vw ods R k false w h rel ok)
  clear h rel ok
  go_enter Tryz.func42, Tryz.ntmps42
  go_wp2_with fail
  refine (C.out).mono ?_
  rintro e w' ⟨rfl, hg⟩
  have G := hide hg
  clear hg
  go_wp2_with fail
  go_ret
  exact ⟨rfl, G.out⟩

end Go.Proofs.YtahiolfelcmikaaGreat

/- Demand: the program's. -/
namespace Go.Proofs.YtahiolfelcmikaaGreat
open Go.RowKit

theorem locked_rel {R : RSt} {k : Nat} {c : RCh} {d : GCh} (hc : R.chs[k]? = some c) (rel : OChRel R.now R.lock d c) (n0 : 0 ≤ R.now) : decide (R.now < d.free) = lockedB R k := by
  have h5 := rel.2.2.2.2
  unfold lockedB
  rw [hc]
  simp only
  by_cases q : c.asked < 0
  · rw [if_pos q] at h5
    have e1 : decide (0 ≤ c.asked) = false := decide_eq_false (by omega)
    rw [e1, Bool.false_and]
    exact decide_eq_false (by omega)
  · rw [if_neg q] at h5
    have e1 : decide (0 ≤ c.asked) = true := decide_eq_true (by omega)
    rw [e1, Bool.true_and]
    apply decide_eq_decide.2
    omega

set_option maxRecDepth 100000 in
set_option maxHeartbeats 1600000 in
theorem oDemand_no (b : Nat) (D : GSt) (vc vw : Value) (ods : List OrdD) (R : RSt) (k a : Int) (w : World) (h : PAt w b D vc vw ods) (rel : ORel D ods R) (ok : R.Ok) (hb : demandBad R k a = true) :
    Calls Tryz.prog 38 #[ptr b 0, I k, I a] w fun e w' => e = .returned (.tuple #[I 0, I 1]) ∧ w' = w := by
  have HC := hide (ohasCh b D vc vw ods R k w h rel ok)
  have W1 := hide (within_any a 1 1000 w)
  clear h rel ok
  cases hh : isCh R k with
  | false =>
    rw [hh] at HC
    clear hb
    go_enter Tryz.func38, Tryz.ntmps38
    go_wp2_with (go_at_call 55; refine (HC.out).mono ?_; rintro e w' ⟨rfl, rfl⟩)
    go_ret2
    exact ⟨rfl, rfl⟩
  | true =>
    rw [hh] at HC
    have q1 : a < 1 ∨ 1000 < a := by
      simp [demandBad, hh] at hb
      omega
    rw [within_no q1] at W1
    clear hb q1
    go_enter Tryz.func38, Tryz.ntmps38
    go_wp2_with (first | (go_at_call 55; refine (HC.out).mono ?_; rintro e w' ⟨rfl, hw⟩; subst hw) | (go_at_call 51; refine (W1.out).mono ?_; rintro e w' ⟨rfl, hw⟩; subst hw))
    go_ret2
    exact ⟨rfl, rfl⟩

set_option maxRecDepth 100000 in
set_option maxHeartbeats 1600000 in
theorem oDemand_on (TS : TakeSpec) (b : Nat) (D : GSt) (vc vw : Value) (ods : List OrdD) (R : RSt) (k a : Int) (w : World) (h : PAt w b D vc vw ods) (rel : ORel D ods R) (ok : R.Ok) (full : R.Full) (hb : demandBad R k a = false) :
    Calls Tryz.prog 38 #[ptr b 0, I k, I a] w fun e w' => e = .returned (.tuple #[I (demandN R k a), I (demandErr R k a)]) ∧ Goes w b D vc vw ods (demandR R k a) w' := by
  have hh : isCh R k = true ∧ 1 ≤ a ∧ a ≤ 1000 := by
    simp [demandBad] at hb
    exact ⟨hb.1.1, by omega, by omega⟩
  obtain ⟨hk, a0, a1⟩ := hh
  have HC := hide (ohasCh b D vc vw ods R k w h rel ok)
  rw [hk] at HC
  have W1 := hide (within_any a 1 1000 w)
  rw [within_yes a0 a1] at W1
  obtain ⟨k0, k1⟩ := isCh_true hk
  obtain ⟨k, rfl⟩ := Int.eq_ofNat_of_zero_le k0
  have hkl : k < D.chs.length := by rw [rel.nch]; omega
  have nc : D.chs.length ≤ 4 := by rw [rel.nch]; exact ok.nc1
  obtain ⟨d, hd⟩ : ∃ d, D.chs[k]? = some d := ⟨_, List.getElem?_eq_getElem hkl⟩
  obtain ⟨c, hc⟩ : ∃ c, R.chs[k]? = some c := ⟨_, List.getElem?_eq_getElem (by omega)⟩
  have rc := rel.ch k d c hd hc
  have lk := locked_rel hc rc ok.now0
  obtain ⟨g, cap, hv, -, -, -, -, d4, hfz, -⟩ := h.g.chan hd
  obtain ⟨sl, ag⟩ := h.g.ag
  have c0 : w.cell? ⟨b, 0, none⟩ = some (I R.now) := by rw [ag.head.cell, ← rel.now]; rfl
  have c1 : w.cell? ⟨b, 1, none⟩ = some (I R.lock) := by rw [ag.head.cell, ← rel.lock]; rfl
  have c2 : w.cell? ⟨b, 2, none⟩ = some (.slice (some ⟨g, 0, none⟩) D.chs.length cap) := by rw [ag.head.cell, ← hv]; rfl
  have c7 : w.cell? ⟨b, 7, none⟩ = some (I D.nv) := by rw [ag.head.cell]; rfl
  have f4 := hfz (k * 5 + 4)
  have hnv := nv_nov h rel
  have hos : ods.length = R.os.length := by rw [rel.os]; simp
  have n0 := ok.now0
  have n1 := ok.now1
  have l0 := rel.l0
  have l1 := rel.l1
  have FU := hide (fun m => full_any b D.nv (w.drewN m) c7)
  by_cases hl : lockedB R k = true
  · have e1 : demandErr R k a = 4 := by simp [demandErr, hb, hl]
    have e2 : demandN R k a = 0 := by simp [demandN, e1]
    have e3 : demandR R k a = R := by simp [demandR, e1]
    rw [e1, e2, e3]
    have hlt : R.now < d.free := by rw [hl] at lk; simpa using lk
    have G := hide (Goes.refl h rel)
    clear h rel ok full hb ag hnv e1 e2 e3 hl lk hd hc rc hv hfz c7 c1 hos
    generalize d.free = fr at *
    go_enter Tryz.func38, Tryz.ntmps38
    go_wp2_with (go_at_call 55; refine (HC.out).mono ?_; rintro e w' ⟨rfl, hw⟩; have hw' := hw.symm; subst hw')
    refine (W1.out).mono ?_
    rintro e w1 ⟨rfl, hw⟩
    have hw' := hw.symm
    subst hw'
    go_wp2_with fail
    go_quiet (fail)
    go_wp2_with fail
    go_ret2
    exact ⟨rfl, (G.out).drewN nq⟩
  · have hl' : lockedB R k = false := by simpa using hl
    have hlt : ¬ R.now < d.free := by rw [hl'] at lk; simpa using lk
    by_cases hm : 8 ≤ nov R.now R.os
    · have e1 : demandErr R k a = 2 := by simp [demandErr, hb, hl', hm]
      have e2 : demandN R k a = 0 := by simp [demandN, e1]
      have e3 : demandR R k a = R := by simp [demandR, e1]
      rw [e1, e2, e3]
      have hd8 : decide (8 ≤ D.nv) = true := decide_eq_true (by rw [hnv]; omega)
      rw [hd8] at FU
      have G := hide (Goes.refl h rel)
      clear h rel ok full hb ag hnv e1 e2 e3 hl hl' lk hd hc rc hv hfz c7 c1 hos hm hd8
      generalize d.free = fr at *
      go_enter Tryz.func38, Tryz.ntmps38
      go_wp2_with (go_at_call 55; refine (HC.out).mono ?_; rintro e w' ⟨rfl, hw⟩; have hw' := hw.symm; subst hw')
      refine (W1.out).mono ?_
      rintro e w1 ⟨rfl, hw⟩
      have hw' := hw.symm
      subst hw'
      go_wp2_with fail
      go_quiet (fail)
      go_wp2_with fail
      refine (FU.out nq).mono ?_
      rintro e w2 ⟨rfl, hw⟩
      have hw' := hw.symm
      subst hw'
      go_wp2_with fail
      go_ret2
      exact ⟨rfl, (G.out).drewN nq⟩
    · have e1 : demandErr R k a = 0 := by simp [demandErr, hb, hl']; omega
      have e2 : demandN R k a = (ods.length : Int) + 1 := by simp [demandN, e1, hos]
      have ho1 : orderErr R k a 0 1 = 0 := by
        have hb2 : orderBad R k a 0 1 = false := by
          simp [demandBad] at hb
          simp [orderBad, hb]
        simp [orderErr, hb2]; omega
      have e3 : demandR R k a = { ({ R with chs := R.chs.set k { c with asked := R.now } } : RSt) with os := R.os ++ [⟨k, R.now + 0, R.now + 0 + 1, a⟩] } := by
        simp [demandR, e1, orderR, ho1, askedR, hc]
      rw [e1, e2, e3]
      have hd8 : decide (8 ≤ D.nv) = false := decide_eq_false (by rw [hnv]; omega)
      rw [hd8] at FU
      have okA := askedR_ok ok full k
      have eA : askedR R k = { R with chs := R.chs.set k { c with asked := R.now } } := by simp [askedR, hc]
      rw [eA] at okA
      have TK : Hid (∀ (W W1 : World), Keep w W → Keep (W.setCell ⟨g, k * 5 + 4, none⟩ (I (R.now + R.lock))) W1 → Calls Tryz.prog 63 #[ptr b 0, I k, I a, I 0, I 1] W1 fun e w' => e = .returned (I ((ods.length : Int) + 1)) ∧ Goes w b D vc vw ods { ({ R with chs := R.chs.set k { c with asked := R.now } } : RSt) with os := R.os ++ [⟨k, R.now + 0, R.now + 0 + 1, a⟩] } w') := by
        intro W W1 kW kW1
        obtain ⟨p1, p2, p3⟩ := (h.keep kW).setCh (i := 4) (c' := { d with free := R.now + R.lock }) hd hv (by decide) rfl rfl (u := I (R.now + R.lock)) rfl
        have rel1 : ORel { D with chs := D.chs.set k { d with free := R.now + R.lock } } ods { R with chs := R.chs.set k { c with asked := R.now } } :=
          rel.setch hc rfl rfl rfl rfl ⟨rc.1, rc.2.1, rc.2.2.1, rc.2.2.2.1, by show R.now + R.lock = if R.now < 0 then 0 else R.now + R.lock; rw [if_neg (by omega)]⟩
        refine (TS b _ vc vw ods _ k a 0 1 W1 (p1.keep kW1) rel1 okA.1 okA.2 (by simpa using hkl) a0 a1 (by omega) (by omega) (by omega) (by omega)).mono ?_
        rintro e w' ⟨rfl, hg⟩
        refine ⟨rfl, hg.after (((kW.mono fun _ _ e => e.elim).trans p2).trans2 kW1 fun _ _ e => e.elim) fun x hx => Or.inl (p3 x hx)⟩
      have wl : IntKind.i64.wrap (R.now + R.lock) = R.now + R.lock := wrap_id _ (by omega) (by omega)
      clear h rel ok full hb ag hnv e1 e2 e3 hl hl' lk hd hc rc hv hfz c7 hos hm hd8 okA eA ho1
      generalize d.free = fr at *
      go_enter Tryz.func38, Tryz.ntmps38
      go_wp2_with (go_at_call 55; refine (HC.out).mono ?_; rintro e w' ⟨rfl, hw⟩; have hw' := hw.symm; subst hw')
      refine (W1.out).mono ?_
      rintro e w1 ⟨rfl, hw⟩
      have hw' := hw.symm
      subst hw'
      go_wp2_with fail
      go_quiet (fail)
      go_wp2_with fail
      refine (FU.out nq).mono ?_
      rintro e w2 ⟨rfl, hw⟩
      have hw' := hw.symm
      subst hw'
      have kq : Keep w (w.drewN nq) := (Frm.refl _ _).drewN nq
      have v0 : (w.drewN nq).cell? ⟨b, 0, none⟩ = some (I R.now) := c0
      have v1 : (w.drewN nq).cell? ⟨b, 1, none⟩ = some (I R.lock) := c1
      have v4 : (w.drewN nq).cell? ⟨g, k * 5 + 4, none⟩ = some (I fr) := d4
      have vf : (w.drewN nq).frozen? ⟨g, k * 5 + 4, none⟩ = false := f4
      have TQ : Hid (∀ (W1 : World), (∃ W, Keep (w.drewN nq) W ∧ Keep (W.setCell ⟨g, k * 5 + 4, none⟩ (I (R.now + R.lock))) W1) → Calls Tryz.prog 63 #[ptr b 0, I k, I a, I 0, I 1] W1 fun e w' => e = .returned (I ((ods.length : Int) + 1)) ∧ Goes w b D vc vw ods { ({ R with chs := R.chs.set k { c with asked := R.now } } : RSt) with os := R.os ++ [⟨k, R.now + 0, R.now + 0 + 1, a⟩] } w') := by
        rintro W1 ⟨W, q1, q2⟩
        exact TK.out W W1 (kq.trans q1) q2
      generalize w.drewN nq = wq at *
      clear TK FU c0 c1 d4 f4 c2 kq
      go_wp2_with fail
      go_region
      all_goals go_wp2_with fail
      all_goals refine (TQ.out _ ⟨_, (Frm.refl _ _).drew, Frm.refl _ _⟩).mono ?_
      all_goals (rintro e w3 ⟨rfl, hg⟩)
      all_goals (have HG := hide hg)
      all_goals (clear hg)
      all_goals go_wp2_with fail
      all_goals go_ret2
      all_goals exact ⟨rfl, HG.out⟩

end Go.Proofs.YtahiolfelcmikaaGreat

/- The program's pump, whole, is one. -/
namespace Go.Proofs.YtahiolfelcmikaaGreat
open Go.RowKit

/-- the program's pump in memory, whole -/
def po : Rep := fun w F b R => ∃ D vc vw ods, PAt w b D vc vw ods ∧ ORel D ods R ∧ F = PF b D vc vw ods

theorem Goes.moved {w w' : World} {b : Nat} {D : GSt} {vc vw : Value} {ods : List OrdD} {R : RSt} (h : Goes w b D vc vw ods R w') : Moved po w (PF b D vc vw ods) b R w' := by
  obtain ⟨D', ods', h1, h2, h3, h4⟩ := h
  exact ⟨h4, _, ⟨D', vc, vw, ods', h1, h2, rfl⟩, h3⟩

theorem po_keep {w w' : World} {F : Nat → Prop} {b : Nat} {R : RSt} (h : po w F b R) (k : Keep w w') : Moved po w F b R w' := by
  obtain ⟨D, vc, vw, ods, h, rel, rfl⟩ := h
  exact ⟨k.mono (fun _ _ e => e.elim), _, ⟨D, vc, vw, ods, h.keep k, rel, rfl⟩, fun x hx => Or.inl hx⟩

def gch0 : GCh := ⟨0, none, .slice none 0 0, false, 0⟩
theorem gents_none (n : Nat) : gents (List.replicate n gch0) = [] := by
  induction n with
  | zero => rfl
  | succ n ih => rw [List.replicate_succ]; unfold gents at ih ⊢; rw [List.filterMap_cons]; simp [gch0]
theorem gcells0 (n : Nat) : (List.replicate n (⟨0, none⟩ : DCh)).flatMap dchC = (List.replicate n gch0).flatMap gchC := by
  induction n with
  | zero => rfl
  | succ n ih => rw [List.replicate_succ, List.replicate_succ, List.flatMap_cons, List.flatMap_cons, ih]; rfl

theorem new_po {w w' : World} {b : Nat} {c lock : Int} {a : Option Addr} {cap : Nat} {lims : List Lim} {vc vw : Value} {ws : List Wd} (h : DNewSt w w' b c lock a cap lims vc vw ws lims.length) (l0 : 0 ≤ lock) (l1 : lock ≤ 400) :
    ∃ F, po w' F b (rnew c.toNat lims lock) ∧ ∀ x, F x → w.heap.size ≤ x := by
  have hnoK : ∀ x, ¬ GKsF (List.replicate c.toNat gch0) x := by
    rintro x ⟨k, d, e, h1, h2⟩
    have := List.eq_of_mem_replicate (List.mem_of_getElem? h1)
    subst this
    simp [gch0] at h2
  have hA : ∀ x, AgF b none [] x → x = b := by
    rintro x (e | e | ⟨e, he, -⟩)
    · exact e
    · simp at e
    · simp at he
  have hlt := h.lt
  have hsos : ∀ (k : Nat) (s : Value), (sosOf (List.replicate c.toNat gch0))[k]? = some s → s = .slice none 0 0 := by
    intro k s hs
    have := List.mem_of_getElem? hs
    simp only [sosOf, List.map_replicate] at this
    exact List.eq_of_mem_replicate this
  have hgo : ∀ k, going [] k = [] := fun _ => rfl
  refine ⟨_, ⟨⟨0, lock, List.replicate c.toNat gch0, ws, 0, none, [], [], .slice none 0 0, 0⟩, vc, vw, [], ⟨⟨⟨.slice none 0 0, ?_⟩, ?_, ?_, h.lie, ?_, ?_, ?_⟩, ?_⟩, ?_, rfl⟩, ?_⟩
  · exact ⟨h.head, ⟨.slice none 0 0, rfl, World.ownsRow_nil .., rfl⟩, by simp, by simp, by simp, by simp⟩
  · intro k _ hk; simp at hk
  · have := h.chs
    rw [gcells0] at this
    simpa using this
  · intro k d e cb h1 h2
    exact absurd ⟨k, d, e, h1, h2⟩ (hnoK cb)
  · show ([] : List Ent).Perm (gents (List.replicate c.toNat gch0) ++ [])
    rw [gents_none]
    exact List.Perm.refl _
  · refine ⟨?_, ?_, fun x _ => hnoK x, h.cv, fun x _ => hnoK x, fun x _ => hnoK x⟩
    · intro x hx hc'; exact (h.nw x (Or.inl hc')).2 (hA x hx)
    · intro x hx hw; exact (h.nw x (Or.inr hw)).2 (hA x hx)
  · refine ⟨by simp, by simp, World.ownsRow_nil .., ?_, by simp, by simp, List.Perm.refl _, ?_, ?_, by simp, by simp, by simp, by simp, by simp, rfl⟩
    · intro k s hs
      rw [hsos k s hs]
      exact World.ownsRow_nil ..
    · intro k l s t hs ht hne x hx
      rw [hsos k s hs] at hx
      simp [Value.ownBlock] at hx
    · intro k s hs x hx
      rw [hsos k s hs] at hx
      simp [Value.ownBlock] at hx
  · have hf := h.fits
    rw [List.take_length] at hf
    refine ⟨rfl, rfl, l0, l1, rfl, by simp, hf, by simp [rnew], by simp [rnew], ?_⟩
    intro k d r hd hr
    have e1 := List.eq_of_mem_replicate (List.mem_of_getElem? hd)
    have e2 := List.eq_of_mem_replicate (List.mem_of_getElem? hr)
    subst e1; subst e2
    refine ⟨rfl, by simp [wbase, ch0, gch0], fun _ => Or.inl (by simp [ch0]), fun e cb he => by simp [gch0] at he, by simp [ch0, gch0]⟩
  · rintro x ((e | e | e | e) | e)
    · have := hA x e; omega
    · have := (h.nw x (Or.inl e)).1; omega
    · have := (h.nw x (Or.inr e)).1; omega
    · exact absurd e (hnoK x)
    · rcases e with ⟨j, o, hj, -⟩ | e | ⟨k, s, hs, e⟩
      · simp at hj
      · simp [Value.ownBlock] at e
      · rw [hsos k s hs] at e
        simp [Value.ownBlock] at e

theorem whole_pumpy : Pumpy 17 34 23 27 29 po where
  frm := by
    rintro S w w' F b R ⟨D, vc, vw, ods, h, rel, rfl⟩ f hs
    exact ⟨D, vc, vw, ods, h.frm f hs, rel, rfl⟩
  lt := by
    rintro w F b R ⟨D, vc, vw, ods, h, rel, rfl⟩
    exact h.lt
  new := by
    intro c a lims cap lock w hs hn hl
    refine (New_any c a lims cap lock w hs hn hl).mono ?_
    rintro e w' ⟨k, ⟨hf, rfl⟩ | ⟨hf, b, vc, vw, ws, rfl, hst⟩⟩
    · exact ⟨k, Or.inl ⟨hf, rfl⟩⟩
    · have hc : 0 ≤ lock ∧ lock ≤ 400 := by
        simp [fineB, badHead] at hf
        omega
      obtain ⟨F, h1, h2⟩ := new_po hst hc.1 hc.2
      exact ⟨k, Or.inr ⟨hf, b, F, rfl, h1, h2⟩⟩
  basal := by
    rintro k rate ticks w F b R hpd ok full
    obtain ⟨D, vc, vw, ods, h, rel, hF⟩ := id hpd
    cases hb : basalBad R k rate ticks with
    | true =>
      refine (oBasal_no b D vc vw ods R k rate ticks w h rel ok hb).mono ?_
      rintro e w' ⟨rfl, rfl⟩
      refine ⟨by simp [basalErr, hb], ?_⟩
      simp only [basalR, hb, if_true]
      exact po_keep hpd (Frm.refl _ _)
    | false =>
      refine (oBasal_yes b D vc vw ods R k rate ticks w h rel ok full hb).mono ?_
      rintro e w' ⟨rfl, hg⟩
      subst hF
      refine ⟨by simp [basalErr, hb], ?_⟩
      have := hg.moved
      simpa [basalR, hb] using this
  run := by
    rintro t w F b R ⟨D, vc, vw, ods, h, rel, rfl⟩ ok full
    obtain ⟨sl, ag⟩ := h.g.ag
    have c0 : w.cell? ⟨b, 0, none⟩ = some (I R.now) := by rw [ag.head.cell, ← rel.now]; rfl
    by_cases h1 : t < 1 ∨ 100 < t
    · refine (run_arg b t w h1).mono ?_
      rintro e w' ⟨rfl, rfl⟩
      have e1 : runErr R t = 1 := by rw [runErr, if_pos h1]
      refine ⟨.slice none 0 0, by rw [e1], by simp [runDs, e1]; exact World.ownsRow_nil .., Frm.refl _ _, _, ⟨D, vc, vw, ods, h, by simpa [runR, e1] using rel, rfl⟩, fun x hx => Or.inl hx, fun x hx => by simp [Value.ownBlock] at hx⟩
    · by_cases h2 : 400 < R.now + t
      · refine (run_many b t R.now w c0 ok.now0 ok.now1 (by omega) (by omega) h2).mono ?_
        rintro e w' ⟨rfl, rfl⟩
        have e1 : runErr R t = 2 := by rw [runErr, if_neg h1, if_pos h2]
        refine ⟨.slice none 0 0, by rw [e1], by simp [runDs, e1]; exact World.ownsRow_nil .., Frm.refl _ _, _, ⟨D, vc, vw, ods, h, by simpa [runR, e1] using rel, rfl⟩, fun x hx => Or.inl hx, fun x hx => by simp [Value.ownBlock] at hx⟩
      · have e1 : runErr R t = 0 := by rw [runErr, if_neg h1, if_neg h2]
        obtain ⟨n, rfl⟩ := Int.eq_ofNat_of_zero_le (show 0 ≤ t by omega)
        refine (orun_all b D vc vw ods R n w h rel ok full (by omega) (by omega) (by omega)).mono ?_
        rintro e w' ⟨vout, D', ods', rfl, hs⟩
        refine ⟨vout, by rw [e1], ?_, hs.frm.mono fun x hx hh => ?_, _, ⟨D', vc, vw, ods', hs.lie, ?_, rfl⟩, hs.foot, ?_⟩
        · simp only [runDs, e1, if_true, Int.toNat_natCast]
          exact hs.out
        · rcases hh with e | e
          · exact e
          · omega
        · simpa [runR, e1] using hs.rel
        · intro x hx
          exact ⟨hs.new x hx, fun e => hs.lie.noDose e (row_ty hs.out hx)⟩
  room := by
    rintro k w F b R hpd ok _
    obtain ⟨D, vc, vw, ods, h, rel, hF⟩ := id hpd
    cases hk : isCh R k with
    | true =>
      refine (oRoom_yes b D vc vw ods R k w h rel ok hk).mono ?_
      rintro e w' ⟨rfl, n, rfl⟩
      exact ⟨by simp [roomV, hk], po_keep hpd ((Frm.refl _ _).drewN n)⟩
    | false =>
      refine (oRoom_no b D vc vw ods R k w h rel ok hk).mono ?_
      rintro e w' ⟨rfl, rfl⟩
      exact ⟨by simp [roomV, hk], po_keep hpd (Frm.refl _ _)⟩
  wait := by
    rintro k a w F b R hpd ok _
    obtain ⟨D, vc, vw, ods, h, rel, hF⟩ := id hpd
    by_cases hb : isCh R k = false ∨ a < 0 ∨ 1000 < a
    · refine (oWait_no b D vc vw ods R k a w h rel ok hb).mono ?_
      rintro e w' ⟨rfl, rfl⟩
      exact ⟨Or.inl ⟨hb, rfl⟩, po_keep hpd (Frm.refl _ _)⟩
    · have hk : isCh R k = true := by
        cases hh : isCh R k with
        | true => rfl
        | false => exact absurd (Or.inl hh) hb
      have a0 : 0 ≤ a := by omega
      have a1 : a ≤ 1000 := by omega
      refine (oWait_yes b D vc vw ods R k a w h rel ok hk a0 a1).mono ?_
      rintro e w' ⟨⟨r, rfl, hr⟩, n, rfl⟩
      exact ⟨Or.inr ⟨hk, a0, a1, r, rfl, hr⟩, po_keep hpd ((Frm.refl _ _).drewN n)⟩

theorem whole_orderly (TS : TakeSpec) : Orderly 36 38 31 40 42 po where
  order := by
    rintro k a d t w F b R hpo ok full
    obtain ⟨D, vc, vw, ods, h, rel, hF⟩ := id hpo
    cases hb : orderBad R k a d t with
    | true =>
      have e1 : orderErr R k a d t = 1 := by simp [orderErr, hb]
      have e2 : orderN R k a d t = 0 := by simp [orderN, e1]
      have e3 : orderR R k a d t = R := by simp [orderR, e1]
      rw [e1, e2, e3]
      refine (oOrder_no b D vc vw ods R k a d t w h rel ok hb).mono ?_
      rintro e w' ⟨rfl, rfl⟩
      exact ⟨rfl, po_keep hpo (Frm.refl _ _)⟩
    | false =>
      subst hF
      refine (oOrder_on TS b D vc vw ods R k a d t w h rel ok full hb).mono ?_
      rintro e w' ⟨rfl, hg⟩
      exact ⟨rfl, hg.moved⟩
  demand := by
    rintro k a w F b R hpo ok full
    obtain ⟨D, vc, vw, ods, h, rel, hF⟩ := id hpo
    cases hb : demandBad R k a with
    | true =>
      have e1 : demandErr R k a = 1 := by simp [demandErr, hb]
      have e2 : demandN R k a = 0 := by simp [demandN, e1]
      have e3 : demandR R k a = R := by simp [demandR, e1]
      rw [e1, e2, e3]
      refine (oDemand_no b D vc vw ods R k a w h rel ok hb).mono ?_
      rintro e w' ⟨rfl, rfl⟩
      exact ⟨rfl, po_keep hpo (Frm.refl _ _)⟩
    | false =>
      subst hF
      refine (oDemand_on TS b D vc vw ods R k a w h rel ok full hb).mono ?_
      rintro e w' ⟨rfl, hg⟩
      exact ⟨rfl, hg.moved⟩
  rest := by
    rintro j w F b R hpo ok full
    obtain ⟨D, vc, vw, ods, h, rel, hF⟩ := id hpo
    refine (oRest_any b D vc vw ods R j w h rel (rel.olen ok full)).mono ?_
    rintro e w' ⟨rfl, rfl⟩
    exact ⟨rfl, po_keep hpo (Frm.refl _ _)⟩
  pause := by
    rintro k w F b R ⟨D, vc, vw, ods, h, rel, rfl⟩ ok full
    refine (oPause_any b D vc vw ods R k w h rel ok).mono ?_
    rintro e w' ⟨rfl, hg⟩
    exact ⟨rfl, hg.moved⟩
  resume := by
    rintro k w F b R ⟨D, vc, vw, ods, h, rel, rfl⟩ ok full
    refine (oResume_any b D vc vw ods R k w h rel ok).mono ?_
    rintro e w' ⟨rfl, hg⟩
    exact ⟨rfl, hg.moved⟩

end Go.Proofs.YtahiolfelcmikaaGreat

/- Orders: the statement. -/
namespace Go.Proofs.YtahiolfelcmikaaGreat
open Go.ChangeShapes Go.WideShapes Go.ChangeAt Go.RowKit

theorem take_spec : TakeSpec := fun b D vc vw ods R k a d t w h rel ok full hk a0 a1 d0 d1 t0 t1 => take_call b D vc vw ods R k a d t w h rel ok full hk a0 a1 d0 d1 t0 t1

set_option maxRecDepth 100000 in
theorem orders_contract (H : Type) (enc : TypeId × Value → H) (W : World) (base : Nat) (args : Array Value) (ds gs : List (DataW H)) (before : List MemPlace)
    (hval : ∀ (j : Nat) t v, Tryz.f4.params[j]? = some t → args[j]? = some v → Value.okWide Tryz.prog W .any base t v)
    (hW : DataW.Whole enc Tryz.prog Tryz.f4.params.toList Rows.ordersSpec.vars false W args.toList ds gs before) (hk : Rows.uptoSmall H (ds ++ gs) = true) :
    Calls Tryz.prog 4 args W fun e W' => ∃ v, e = .returned v ∧ Rows.ordersSpec.post enc Tryz.prog Tryz.f4 false true false false W args v W' := by
  have hW' := hW
  obtain ⟨p, q, hA0, hV, rfl, hfz, hnd⟩ := hW
  have hA : DataW.TrodAll enc Tryz.prog W 0 (fun _ => true) true Tryz.f4.params.toList args.toList ds p := hA0
  rw [Tryz.params4] at hA hval
  obtain ⟨v0, vs0, d0, ds0, p0, q0, hargs, rfl, rfl, h0, r0⟩ := trodAll_cons hA
  obtain ⟨rfl, rfl, rfl⟩ := trodAll_nil r0
  obtain rfl : args = #[v0] := by cases args; simp_all
  obtain ⟨rfl, rfl⟩ := trodVars_none hV
  clear hA0
  simp only [List.append_nil] at hW' hk
  obtain ⟨al, rs, cap, rfl, hsc, hl⟩ := open_script (hval 0 22 v0 rfl rfl) h0 (bulk_bound hk)
  have hlt : ∀ x ∈ p0, x.block < W.heap.size := fun x hx => by simpa using hW'.lt x hx
  refine (orders_any po whole_pumpy (whole_orderly take_spec) al rs cap W hsc hl).mono fun e W' ⟨he, hf⟩ => ?_
  subst he
  have hbelow : Below W.heap.size W W' := ⟨hf.os, hf.tape, hf.output, hf.size, fun k hk => hf.block k hk (by omega)⟩
  exact ⟨_, rfl, _, _, _, [], p0, [], hW', trodAll_mk1 (shut_bool Tryz.underlying4 _), trodAll_mk1 (Below.trod laid_out (by kernel_rfl) (of_decide_eq_true (by kernel_rfl)) h0 hbelow hlt), rfl, hbelow.frame _, fun h => by cases h⟩

set_option maxRecDepth 100000 in
theorem orders_lifted (os : Os) (started : os.Started) (H : Type) (enc : TypeId × Value → H) (F : Stop.Interp) :
    ReturnsInHanded {} Tryz.checked os 4 .any ((Rows.OpenSpec.upto Rows.ordersSpec).pre6 enc Tryz.prog Tryz.f4 Rows.ordersUptoRow.domain false) (((Rows.OpenSpec.upto Rows.ordersSpec).at F).post enc Tryz.prog Tryz.f4 false true false false) := by
  refine returnsInHanded_of_cond (C := Tryz.checked) (s := Rows.OpenSpec.upto Rows.ordersSpec) (k := Rows.uptoSmall) rfl own_knob started (by kernel_rfl) Tryz.func4
    (OpenSpec.witness (enc := enc) (C := Tryz.checked) (s := Rows.OpenSpec.upto Rows.ordersSpec) (k := Rows.uptoSmall) rfl false ⟨#[], #[.slice none 0 0], []⟩ 8 (by kernel_rfl) (by kernel_rfl) (by kernel_rfl)
      (x := ([.nil], [], [])) (by kernel_rfl) rfl (by kernel_rfl)) ?_
  intro W base args ds gs before hval hW _ hk _
  exact orders_contract H enc W base args ds gs before hval hW hk

theorem orders_upto_holds : Rows.OrdersUptoSaid :=
  OpenClaim.holds_of_cond 4 Tryz.f4 rfl rfl rfl rfl rfl rfl rfl ⟨rfl, rfl, rfl, rfl, rfl⟩ rfl rfl rfl rfl rfl (by kernel_rfl) Tryz.func4 (by kernel_rfl)
    (of_decide_eq_true (by kernel_rfl)) (by unfold Func.isWrapper; first | (rw [if_pos (by decide +kernel)]; kernel_rfl) | (rw [if_neg (by decide +kernel)]; exact ⟨rfl, rfl⟩))
    (fun os started H enc _ F => orders_lifted os started H enc F)

end Go.Proofs.YtahiolfelcmikaaGreat
