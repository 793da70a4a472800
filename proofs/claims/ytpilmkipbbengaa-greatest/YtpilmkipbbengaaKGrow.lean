/- Greatest: its arguments, opened. -/
import Derived.Test.YtpilmkipbbengaaKRow
import Derived.Test.YtpilmkipbbengaaKGreatest
namespace Go.Proofs.Ytpilmkipbbengaa
open Go.ChangeShapes Go.WideShapes Go.ChangeAt Go.RowKit

theorem config_spec : ConfigSpec := fun a caps cp lockout w hs hin hlo => kconfig_any a caps cp lockout w hs hin hlo

section
variable {H : Type} {enc : TypeId × Value → H} {W : World}

set_option maxRecDepth 100000 in
theorem open_ints64 {v : Value} {d : DataW H} {ps : List MemPlace} {base : Nat} {r : Reach} (hv : Value.okWide Try.prog W r base 45 v) (h : DataW.Trod enc Try.prog W 0 (fun _ => true) true 45 v d ps) :
    ∃ a ns cap, v = .slice a (List.length (α := Int) ns) cap ∧ SeeI W a ns ∧ ∀ n ∈ ns, In64 n := by
  obtain ⟨a0, len0, cap0, rfl⟩ := okWide_slice Try.underlying45 hv
  obtain ⟨fuel, h⟩ := h
  rcases Deep.open_slice Try.underlying45 h with ⟨h0, -⟩ | ⟨a, len, cap, m, k, D, Pl, h0, hbb, hl, hm, hmm, hd, hx⟩
  · simp [Value.cells] at h0
    obtain ⟨rfl, rfl, rfl⟩ := h0
    exact ⟨none, [], 0, rfl, Or.inl rfl, by simp⟩
  · simp [Value.cells] at h0
    obtain ⟨rfl, rfl, rfl⟩ := h0
    have hmm : m = cap0 := by simpa using hmm
    have each : ∀ i, i < len0 → ∃ n : Int, W.cell? (a.add i) = some (I n) ∧ In64 n := by
      intro i hi
      obtain ⟨cs', h1, h2⟩ := hx i (by omega)
      rw [kcellsI] at h1
      obtain ⟨n, rfl, -, wn⟩ := DataW.trod_int Try.underlying3 h2
      obtain ⟨-, -, hc⟩ := World.cells?_some h1
      have c0 := hc 0 (by decide)
      rw [Deep.add_add] at c0
      exact ⟨n, by simpa using c0, in64_of wn⟩
    have inh : Inhabited Int := ⟨0⟩
    obtain ⟨f, hf⟩ := Deep.choose_lt each
    refine ⟨some a, (List.range len0).map f, cap0, by simp, ?_, ?_⟩
    · by_cases h0 : len0 = 0
      · subst h0; exact Or.inl rfl
      · have c0 := (hf 0 (by omega)).1
        have hsp : a.spot = none := by
          have := World.cell?_spot c0
          simpa [Addr.add] using this
        have hblk := World.block_lt_of_cell? _ _ c0
        refine Or.inr ⟨a.block, a.off, ?_, ?_, ?_⟩
        · cases a with
          | mk b o s => simp at hsp; subst hsp; rfl
        · rw [kadd_at a hsp] at hblk; exact hblk
        · intro i l hi
          rw [List.getElem?_map] at hi
          by_cases hil : i < len0
          · rw [List.getElem?_range hil] at hi
            simp at hi; subst hi
            obtain ⟨q0, -⟩ := hf i hil
            rw [kadd_at a hsp] at q0
            exact q0
          · rw [List.getElem?_eq_none (by simpa using hil)] at hi; simp at hi
    · intro x hx'
      obtain ⟨i, hi, rfl⟩ := List.mem_map.1 hx'
      exact (hf i (List.mem_range.1 hi)).2
end

end Go.Proofs.Ytpilmkipbbengaa
