/- dripref: Journal. -/
import Derived.Test.YtpilmkipbbengaaGreatDoorJcM
import Derived.Test.YtpilmkipbbengaaGreatDoorRef
namespace Go.Proofs.YtpilmkipbbengaaGreatDoor
open Go.RowKit Go.Lib

def jbody (ds : List Ds) : List UInt8 := ds.flatMap fun d => jline d ++ [10]

theorem jdig_len {n : Int} (h : n ≤ 1000000) : (jdig n).length ≤ 20 := by
  unfold jdig
  rw [decDigits_length]
  exact nDigits_le20 _ (by omega)

theorem jline_len {d : Ds} (h : d.Ok) : (jline d ++ [10]).length ≤ 63 := by
  have h1 := jdig_len (n := d.tick) (by have := h.t1; omega)
  have h2 := jdig_len (n := d.ch) (by have := h.c1; omega)
  have h3 := jdig_len (n := d.amt) (by have := h.a1; omega)
  simp [jline]; omega

theorem jbody_len {ds : List Ds} (h : ∀ d ∈ ds, d.Ok) : (jbody ds).length ≤ 63 * ds.length := by
  induction ds with
  | nil => simp [jbody]
  | cons d ds ih =>
    have h1 := jline_len (h d (by simp))
    have h2 := ih fun x hx => h x (List.mem_cons_of_mem _ hx)
    simp only [jbody, List.flatMap_cons, List.length_append, List.length_cons] at *
    omega

theorem jbody_succ {ds : List Ds} {j : Nat} {d : Ds} (h : ds[j]? = some d) : jbody (ds.take (j + 1)) = jbody (ds.take j) ++ (jline d ++ [10]) := by
  rw [List.take_add_one, h]
  simp [jbody]

set_option maxRecDepth 100000 in
set_option maxHeartbeats 800000 in
theorem rJournal_any (b : Nat) (R : RSt) (vl vd vc vo : Value) (w : World) (h : RefAt w b R vl vd vc vo) (ok : R.Ok) : Calls Tryz.prog 43 #[.pointer (some ⟨b, 0, none⟩)] w fun e w' => e = .returned (.string ⟨(jtext R.doses R.now).toArray⟩) ∧ Keep w w' := by
  have hnd := ok.nd
  have n0 := ok.now0
  have n1 := ok.now1
  have H := hide (And.intro h ok)
  clear h ok
  go_enter Tryz.func43, Tryz.ntmps43
  go_wp2_with fail
  go_loopg [3, 4] R.doses.length (fun q s i wr => ∃ j : Nat, q + j = R.doses.length ∧ i = I j ∧ s = .string ⟨(jbody (R.doses.take j)).toArray⟩ ∧ Hid (Keep w wr))
  case atStart => exact ⟨0, by omega, rfl, rfl, Frm.refl _ _⟩
  case round =>
    obtain ⟨j, hq, rfl, rfl, hk⟩ := hrel
    have hR := (H.out).1.keep hk.out
    obtain ⟨ad, cd, hvd⟩ := row_slice hR.doses
    have c4 : wr.cell? ⟨b, 4, none⟩ = some (.slice ad R.doses.length cd) := by rw [hR.head.cell, ← hvd]; rfl
    have c3 : wr.cell? ⟨b, 3, none⟩ = some (I R.now) := by rw [hR.head.cell]; rfl
    have lb := hR.head.lt
    have hbl := jbody_len (ds := R.doses.take j) fun d hd => (H.out).2.doses d (List.mem_of_mem_take hd)
    have htl : (R.doses.take j).length ≤ R.doses.length := by simp; omega
    by_cases hj : j < R.doses.length
    · obtain ⟨d, hd⟩ : ∃ d, R.doses[j]? = some d := ⟨_, List.getElem?_eq_getElem hj⟩
      obtain ⟨g, cap, hv, -, hcell, -⟩ := row_at hR.doses (fun _ => rfl) hd (by decide)
      rw [hvd] at hv
      injection hv with hv1 hv2 hv3
      subst hv1
      have d0 := hcell 0 (by decide)
      have d1 := hcell 1 (by decide)
      have d2 := hcell 2 (by decide)
      simp [dsC] at d0 d1 d2
      have lg := (hR.doses.lt g (by rw [hvd]; rfl)).2
      have dok := (H.out).2.doses d (List.mem_of_getElem? hd)
      have hll := jline_len dok
      have LN : Hid (Calls Tryz.prog 86 #[.agg #[I d.tick, I d.ch, I d.amt]] wr fun e w2 => e = .returned (.string ⟨(jline d ++ [10]).toArray⟩) ∧ Hid (Keep w w2)) := by
        refine (rline_any d wr ⟨dok.t0, by have := dok.t1; omega, dok.c0, by have := dok.c1; omega, by have := dok.a0; omega, by have := dok.a1; omega⟩).mono ?_
        rintro e w2 ⟨rfl, k2⟩
        exact ⟨rfl, (hk.out).trans k2⟩
      have NX : Hid (∀ w2, Keep w w2 → ∃ j' : Nat, gk - 1 + j' = R.doses.length ∧ I ((j : Int) + 1) = I j' ∧ Value.string (⟨(jbody (R.doses.take j)).toArray⟩ ++ ⟨(jline d ++ [10]).toArray⟩) = .string ⟨(jbody (R.doses.take j')).toArray⟩ ∧ Hid (Keep w w2)) := fun w2 k2 => ⟨j + 1, by omega, by simp, by rw [jbody_succ hd, bs_append], k2⟩
      have MS : Hid (gk - 1 < gk) := by unfold Hid; omega
      have sz : ¬ 9223372036854775807 < (jbody (R.doses.take j)).length + (jline d ++ [10]).length := by omega
      clear hR hvd hcell hv2 hv3 hd hk hq dok
      generalize jbody (R.doses.take j) = s0 at *
      generalize jline d ++ [10] = s1 at *
      go_wp2_with fail
      refine (LN.out).mono ?_
      rintro e w2 ⟨rfl, K2⟩
      go_wp2_with fail
      go_roundg (gk - 1)
      case measure => exact MS.out
      case rel => exact NX.out w2 K2.out
    · have hje : R.doses.take j = R.doses := List.take_of_length_le (by omega)
      obtain ⟨t, ht⟩ := Int.eq_ofNat_of_zero_le n0
      have DG : Hid (Calls Tryz.prog 87 #[I R.now] wr fun e w2 => e = .returned (.string ⟨(jdig R.now).toArray⟩) ∧ Hid (Keep w w2)) := by
        have := rDigits_any t (by omega) wr
        rw [← ht] at this
        refine this.mono ?_
        rintro e w2 ⟨rfl, k2⟩
        exact ⟨by rw [jdig, ht]; rfl, (hk.out).trans k2⟩
      have sl := jdig_len (n := R.now) (by omega)
      have EQ : Hid (jtext R.doses R.now = jbody R.doses ++ [61, 32] ++ jdig R.now ++ [10]) := by
        show jtext R.doses R.now = _
        simp [jtext, jlast, jbody]
      rw [hje]
      rw [hje] at hbl
      clear hR hvd hk hq hje ht
      generalize jbody R.doses = s0 at *
      generalize jdig R.now = s1 at *
      go_wp2_with fail
      refine (DG.out).mono ?_
      rintro e w2 ⟨rfl, K2⟩
      go_wp2_with fail
      go_ret
      refine ⟨ret_str ?_, K2.out⟩
      rw [EQ.out]
      have e1 := bs_append s0 [61, 32]
      have e2 := bs_append (s0 ++ [61, 32]) s1
      have e3 := bs_append (s0 ++ [61, 32] ++ s1) [10]
      rw [← e3, ← e2, ← e1]

end Go.Proofs.YtpilmkipbbengaaGreatDoor
