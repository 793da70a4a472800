/- dripkeep: run. -/
import Derived.Test.YtpilmkipbbengaaK9
namespace Go.Proofs.Ytpilmkipbbengaa
open Go.RowKit

/-- a list of steps that can be read, in blocks below B -/
def SeeS (B : Nat → Prop) (w : World) (a : Option Addr) (ss : List StepR) : Prop :=
  ss = [] ∨ ∃ g o, a = some ⟨g, o, none⟩ ∧ ¬ B g ∧ ∀ i s, ss[i]? = some s → w.cell? ⟨g, o + i * 5, none⟩ = some (I s.kind) ∧ w.cell? ⟨g, o + i * 5 + 1, none⟩ = some (I s.a) ∧ w.cell? ⟨g, o + i * 5 + 2, none⟩ = some (I s.b) ∧ w.cell? ⟨g, o + i * 5 + 3, none⟩ = some (I s.c) ∧ w.cell? ⟨g, o + i * 5 + 4, none⟩ = some (I s.d)

theorem SeeS.frm {B : Nat → Prop} {w w' : World} {a : Option Addr} {ss : List StepR} (h : SeeS B w a ss) (f : Frm B w w') : SeeS B w' a ss := by
  rcases h with h | ⟨g, o, rfl, hg, hc⟩
  · exact Or.inl h
  · refine Or.inr ⟨g, o, rfl, hg, fun i s hs => ?_⟩
    obtain ⟨c0, c1, c2, c3, c4⟩ := hc i s hs
    have hn : ¬ B g := hg
    exact ⟨f.cell c0 hn, f.cell c1 hn, f.cell c2 hn, f.cell c3 hn, f.cell c4 hn⟩

section
variable {fRoom fWait fRest : FuncId} {pa : Rep}

set_option maxRecDepth 100000 in
set_option maxHeartbeats 1600000 in
theorem krun_any (P : Pumpy 24 18 19 fRoom fWait pa) (O : Orderly 20 22 fRest 25 43 pa) (B : Nat → Prop) (v : Value) (lims : List Lim) (lock : Int) (a : Option Addr) (ss : List StepR) (cp : Nat) (w : World) (hc : CfgAt w v lims lock) (hB : ∀ x, w.heap.size ≤ x → B x) (hs : SeeS B w a ss) (hso : ∀ s ∈ ss, s.Ok) :
    Calls Try.prog 9 #[.agg #[I 3, v, I lock], .slice a ss.length cp] w fun e w' => ∃ rb R, e = .returned (.pointer (some ⟨rb, 0, none⟩)) ∧ KOk R ∧ R.lims = lims ∧ R.lock = lock ∧ KGo pa B w w' rb R := by
  obtain ⟨al, cap, hve, -, -⟩ := hc.see
  have FR : Hid (Calls Try.prog 17 #[.agg #[I 3, v, I lock]] (w.alloc (.cells #[I 3, v, I lock] 29)) fun e w1 => ∃ rb, e = .returned (.pointer (some ⟨rb, 0, none⟩)) ∧ Hid (KGo pa B w w1 rb (rnew 3 lims lock))) := by
    have kW : Keep w (w.alloc (.cells #[I 3, v, I lock] 29)) := (Frm.refl _ _).alloc _
    refine (kfresh_any P B v lims lock _ (hc.keep kW) (fun x hx => hB x (Nat.le_trans kW.size hx))).mono ?_
    rintro e w1 ⟨rb, pb, F, rfl, k1, hk⟩
    exact ⟨rb, rfl, (kW.trans k1).mono fun _ _ e => e.elim, pb, F, v, .slice none 0 0, hk⟩
  have H := hide (And.intro hs (And.intro hso (new_kok hc.fine)))
  subst hve
  clear hc hs hso
  go_enter Try.func9, Try.ntmps9
  go_wp2_with fail
  refine (FR.out).mono ?_
  rintro e w1 ⟨rb, rfl, G0⟩
  go_wp2_with fail
  go_loopg [6, 7] (min ss.length 30) (fun q i _ wr => ∃ j : Nat, q + j = min ss.length 30 ∧ i = I j ∧ Hid (∃ R, KOk R ∧ R.lims = lims ∧ R.lock = lock ∧ KGo pa B w wr rb R))
  case atStart => exact ⟨0, by omega, rfl, _, (H.out).2.2, rfl, rfl, G0.out⟩
  case round =>
    obtain ⟨j, hq, rfl, hst⟩ := hrel
    obtain ⟨R, ok, l1, l2, hg⟩ := hst.out
    by_cases hj : j < min ss.length 30
    · obtain ⟨s, hsj⟩ : ∃ s, ss[j]? = some s := ⟨_, List.getElem?_eq_getElem (by omega)⟩
      have hsee := (H.out).1.frm hg.1
      rcases hsee with e | ⟨g, o, rfl, hgB, hcells⟩
      · rw [e] at hsj; simp at hsj
      obtain ⟨d0, d1, d2, d3, d4⟩ := hcells j s hsj
      have so := (H.out).2.1 s (List.mem_of_getElem? hsj)
      obtain ⟨gf, pb, F, vl, vd, hk⟩ := hg
      have hB1 : ∀ x, wr.heap.size ≤ x → B x := fun x hx => hB x (Nat.le_trans gf.size hx)
      have ST : Hid (Calls Try.prog 26 #[.pointer (some ⟨rb, 0, none⟩), .agg #[I s.kind, I s.a, I s.b, I s.c, I s.d]] wr fun e w2 => e = .returned (.bool true) ∧ ∃ k' : Nat, k' < gk ∧ ∃ j' : Nat, k' + j' = min ss.length 30 ∧ I ((j : Int) + 1) = I j' ∧ Hid (∃ R, KOk R ∧ R.lims = lims ∧ R.lock = lock ∧ KGo pa B w w2 rb R)) := by
        refine (kstep_any P O B rb pb F R vl vd s wr hk ok hB1 so).mono ?_
        rintro e w2 ⟨rfl, R', ok', e1, e2, g'⟩
        exact ⟨rfl, gk - 1, by omega, j + 1, by omega, by simp, R', ok', e1.trans l1, e2.trans l2, KGo.trans gf g'⟩
      have hj1 : (j : Int) < ss.length := by omega
      have hj2 : (j : Int) < 30 := by omega
      clear hst ok l1 l2 gf hk hcells so hsj hq hj
      go_wp2_with fail
      refine (ST.out).mono ?_
      rintro e w2 ⟨rfl, k', m1, m2⟩
      have M1 := hide m1
      have M2 := hide m2
      clear m1 m2
      go_wp2_with fail
      go_roundg k'
      case measure => exact M1.out
      case rel => exact M2.out
    · have HK := hide (And.intro ok (And.intro l1 (And.intro l2 hg)))
      clear hst ok l1 l2 hg hq
      by_cases h1 : j < ss.length
      · have h2 : decide ((j : Int) < 30) = false := decide_eq_false (by omega)
        have h1' : (j : Int) < ss.length := by omega
        clear h1 hj
        go_wp2_with fail
        go_ret
        exact ⟨rb, R, rfl, HK.out⟩
      · have h1' : decide (j < ss.length) = false := decide_eq_false h1
        clear hj
        go_wp2_with fail
        go_ret
        exact ⟨rb, R, rfl, HK.out⟩

end

end Go.Proofs.Ytpilmkipbbengaa
