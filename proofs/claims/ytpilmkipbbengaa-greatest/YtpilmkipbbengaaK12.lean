/- dripkeep: ordered. -/
import Derived.Test.YtpilmkipbbengaaK11
namespace Go.Proofs.Ytpilmkipbbengaa
open Go.RowKit

def oLims : List Lim := [⟨1, 2, 5⟩]
def oR0 : RSt := rnew 1 oLims 0
def oR1 : RSt := orderR oR0 0 10 1 3
def oR2 : RSt := runR oR1 5
def oR3 : RSt := restsR oR2 0 true
def oDs : List Ds := [⟨1, 0, 4⟩, ⟨2, 0, 1⟩, ⟨3, 0, 4⟩]
theorem oFine : fineB 1 oLims 0 = true := by kernel_rfl
theorem oE1 : orderErr oR0 0 10 1 3 = 0 := by kernel_rfl
theorem oN1 : orderN oR0 0 10 1 3 = 1 := by kernel_rfl
theorem oE2 : runErr oR1 5 = 0 := by kernel_rfl
theorem oRun : runDs oR1 5 = oDs := by kernel_rfl
theorem oRest : restV oR2 1 = 1 := by kernel_rfl
theorem oE3 : restErr oR2 1 = 0 := by kernel_rfl
theorem oE4 : restsErr oR2 0 true = 0 := by kernel_rfl
theorem o0 : oR0.Ok ∧ oR0.Full := knew_ok oFine
theorem o1 : oR1.Ok ∧ oR1.Full := orderR_ok o0.1 o0.2 _ _ _ _
theorem o2 : oR2.Ok ∧ oR2.Full := krun_ok o1.1 o1.2 _
theorem o3 : oR3.Ok ∧ oR3.Full := restsR_ok o2.1 o2.2 _ _

set_option maxRecDepth 100000 in
set_option maxHeartbeats 1600000 in
theorem kordered_any {pa : Rep} (P : Pumpy 24 18 19 13 16 pa) (O : Orderly 20 22 21 25 43 pa) (w : World) :
    Calls Try.prog 8 #[] w fun e w' => e = .returned (.bool true) ∧ Keep w w' := by
  have BG : Hid (Calls Try.prog 23 #[] w fun e w' => e = .returned (.bool true) ∧ Hid (Keep w w')) := (kbegun_any P w).mono fun e w' q => q
  have NEW : Hid (∀ W : World, Calls Try.prog 24 #[.agg #[I 1, .slice (some ⟨W.heap.size, 0, none⟩) 1 1, I 0]] (W.alloc (.cells #[I 1, I 2, I 5] 63)) fun e w1 => ∃ pb, e = .returned (.tuple #[.pointer (some ⟨pb, 0, none⟩), I 0]) ∧ Hid (PS pa W w1 pb oR0 (.slice none 0 0) [])) := by
    intro W
    have kW : Keep W (W.alloc (.cells #[I 1, I 2, I 5] 63)) := (Frm.refl _ _).alloc _
    have bx := Blk.new W #[I 1, I 2, I 5] 63
    have hs : SeeL (W.alloc (.cells #[I 1, I 2, I 5] 63)) (some ⟨W.heap.size, 0, none⟩) oLims := by
      refine Or.inr ⟨W.heap.size, 0, rfl, bx.lt, ?_⟩
      intro i l hl
      rw [bx.cell, bx.cell, bx.cell]
      match i, hl with
      | 0, hl => simp [oLims] at hl; subst hl; exact ⟨rfl, rfl, rfl⟩
      | i + 1, hl => simp [oLims] at hl
    refine (P.new 1 (some ⟨W.heap.size, 0, none⟩) oLims 1 0 _ hs (fun e => by cases e) (by decide)).mono ?_
    rintro e w1 ⟨k1, ⟨hx, -⟩ | ⟨-, b, F, rfl, hp, hF⟩⟩
    · rw [oFine] at hx; cases hx
    · have sz := kW.size
      exact ⟨b, rfl, kW.trans k1, o0.1, o0.2, ⟨F, hp, fun x hx => Nat.le_trans sz (hF x hx), fun x hx => by simp [Value.ownBlock] at hx⟩, World.ownsRow_nil ..⟩
  have B1 : Hid (∀ W w1 pb, PS pa W w1 pb oR0 (.slice none 0 0) [] → Calls Try.prog 20 #[.pointer (some ⟨pb, 0, none⟩), I 0, I 10, I 1, I 3] w1 fun e w2 => e = .returned (.tuple #[I 1, I 0]) ∧ PS pa W w2 pb oR1 (.slice none 0 0) []) :=
    fun W w1 pb h => h.step o1 fun F hF => by have := O.order 0 10 1 3 w1 F pb oR0 hF h.ok h.full; rw [oE1, oN1] at this; exact this
  have B2 : Hid (∀ W w1 pb, PS pa W w1 pb oR1 (.slice none 0 0) [] → Calls Try.prog 19 #[.pointer (some ⟨pb, 0, none⟩), I 5] w1 fun e w2 => ∃ a c, e = .returned (.tuple #[.slice a 3 c, I 0]) ∧ PS pa W w2 pb oR2 (.slice a 3 c) oDs) := by
    intro W w1 pb h
    refine (h.run P 5).mono ?_
    rintro e w2 ⟨v, rfl, hs⟩
    rw [oE2, oRun] at *
    obtain ⟨a, c, rfl⟩ := row_slice hs.row
    exact ⟨a, c, rfl, hs⟩
  have B3 : Hid (∀ W w1 pb v, PS pa W w1 pb oR2 v oDs → Calls Try.prog 21 #[.pointer (some ⟨pb, 0, none⟩), I 1] w1 fun e w2 => e = .returned (.tuple #[I 1, I 0]) ∧ PS pa W w2 pb oR2 v oDs) :=
    fun W w1 pb v h => h.step o2 fun F hF => by have := O.rest 1 w1 F pb oR2 hF h.ok h.full; rw [oRest, oE3] at this; exact this
  have B4 : Hid (∀ W w1 pb v, PS pa W w1 pb oR2 v oDs → Calls Try.prog 25 #[.pointer (some ⟨pb, 0, none⟩), I 0] w1 fun e w2 => e = .returned (I 0) ∧ PS pa W w2 pb oR3 v oDs) :=
    fun W w1 pb v h => h.step o3 fun F hF => by have := O.pause 0 w1 F pb oR2 hF h.ok h.full; rw [oE4] at this; exact this
  go_enter Try.func8, Try.ntmps8
  go_wp2_with fail
  refine (BG.out).mono ?_
  rintro e w0 ⟨rfl, K0⟩
  go_wp2_with fail
  refine (NEW.out _).mono ?_
  rintro e w1 ⟨pb, rfl, H1⟩
  go_wp2_with fail
  refine (B1.out _ _ _ H1.out).mono ?_
  rintro e w2 ⟨rfl, h2⟩
  have H2 := hide h2
  clear h2 H1
  go_wp2_with fail
  refine (B2.out _ _ _ H2.out).mono ?_
  rintro e w3 ⟨a, c, rfl, h3⟩
  have H3 := hide h3
  clear h3 H2
  go_wp2_with fail
  refine (B3.out _ _ _ _ H3.out).mono ?_
  rintro e w4 ⟨rfl, h4⟩
  have H4 := hide h4
  clear h4 H3
  go_wp2_with fail
  refine (B4.out _ _ _ _ H4.out).mono ?_
  rintro e w5 ⟨rfl, h5⟩
  obtain ⟨g, cap, hv, -, hcell, -⟩ := row_at h5.row (fun _ => rfl) (show oDs[0]? = some ⟨1, 0, 4⟩ from rfl) (by decide)
  obtain ⟨g1, cap1, hv1, -, hcell1, -⟩ := row_at h5.row (fun _ => rfl) (show oDs[1]? = some ⟨2, 0, 1⟩ from rfl) (by decide)
  obtain ⟨g2, cap2, hv2, -, hcell2, -⟩ := row_at h5.row (fun _ => rfl) (show oDs[2]? = some ⟨3, 0, 4⟩ from rfl) (by decide)
  injection hv with p1 p2 p3
  injection hv1 with q1 q2 q3
  injection hv2 with r1 r2 r3
  subst p1
  injection q1 with q1; injection q1 with q1
  injection r1 with r1; injection r1 with r1
  subst q1; subst r1
  have d0 : w5.cell? ⟨g, 2, none⟩ = some (I 4) := hcell 2 (by decide)
  have d1 : w5.cell? ⟨g, 5, none⟩ = some (I 1) := hcell1 2 (by decide)
  have d2 : w5.cell? ⟨g, 8, none⟩ = some (I 4) := hcell2 2 (by decide)
  have H6 := hide (K0.out.trans h5.keep)
  clear h5 H4 hcell hcell1 hcell2 p2 p3 q2 q3 r2 r3
  go_wp2_with fail
  go_ret
  exact ⟨rfl, H6.out⟩

end Go.Proofs.Ytpilmkipbbengaa
