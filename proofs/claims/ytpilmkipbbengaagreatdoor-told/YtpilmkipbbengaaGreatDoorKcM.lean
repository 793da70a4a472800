/- dripkeep: begun, ordered: small pumps whose answers the document fixes. -/
import Derived.Test.YtpilmkipbbengaaGreatDoorKbM
namespace Go.Proofs.YtpilmkipbbengaaGreatDoor
open Go.RowKit

/-- a pump that is new since w, and a list that a run of it answered -/
structure PS (pa : Rep) (w w1 : World) (pb : Nat) (R : RSt) (v : Value) (xs : List Ds) : Prop where
  keep : Keep w w1
  ok : R.Ok
  full : R.Full
  pump : ∃ F, pa w1 F pb R ∧ (∀ x, F x → w.heap.size ≤ x) ∧ ∀ x, v.ownBlock = some x → ¬ F x
  row : w1.ownsRow 0 100 3 v xs.length (xs.flatMap dsC)

theorem PS.step {pa : Rep} {w w1 : World} {pb : Nat} {R R' : RSt} {v : Value} {xs : List Ds} {f : FuncId} {args : Array Value} {e0 : Ending} (h : PS pa w w1 pb R v xs) (ok : R'.Ok ∧ R'.Full) (hc : ∀ F, pa w1 F pb R → Calls Tryz.prog f args w1 fun e w2 => e = e0 ∧ Moved pa w1 F pb R' w2) :
    Calls Tryz.prog f args w1 fun e w2 => e = e0 ∧ PS pa w w2 pb R' v xs := by
  obtain ⟨F, h1, h2, h3⟩ := h.pump
  refine (hc F h1).mono ?_
  rintro e w2 ⟨he, f, F', p, q⟩
  have sz := h.keep.size
  refine ⟨he, h.keep.trans2 f fun x hx e => by have := h2 x e; omega, ok.1, ok.2, ⟨F', p, ?_, ?_⟩, row_frm h.row f fun x hx e => h3 x hx e⟩
  · intro x hx
    rcases q x hx with e | e
    · exact h2 x e
    · omega
  · intro x hx e
    rcases q x e with r | r
    · exact h3 x hx r
    · have := (h.row.lt x hx).2; omega

def bLims : List Lim := [⟨3, 5, 10⟩, ⟨2, 2, 4⟩]
def bR0 : RSt := rnew 2 bLims 0
def bR1 : RSt := basalR bR0 0 3 0
def bR2 : RSt := basalR bR1 1 3 0
def bR3 : RSt := runR bR2 3
def bDs : List Ds := [⟨0, 0, 3⟩, ⟨0, 1, 3⟩, ⟨1, 0, 3⟩, ⟨1, 1, 1⟩]
theorem bFine : fineB 2 bLims 0 = true := by kernel_rfl
theorem bE1 : basalErr bR0 0 3 0 = 0 := by kernel_rfl
theorem bE2 : basalErr bR1 1 3 0 = 0 := by kernel_rfl
theorem bE3 : runErr bR2 3 = 0 := by kernel_rfl
theorem bRun : runDs bR2 3 = bDs := by kernel_rfl
theorem bRoom : roomV bR3 0 = .tuple #[I 0, I 0] := by kernel_rfl
theorem bIs : isCh bR3 0 = true := by kernel_rfl
theorem bW2 : (6 : Int) ≤ rroom bR3.doses bR3.lims 0 (bR3.now + 2) := by decide +kernel
theorem bW1 : rroom bR3.doses bR3.lims 0 (bR3.now + 1) < (6 : Int) := by decide +kernel
theorem bW0 : rroom bR3.doses bR3.lims 0 (bR3.now + 0) < (6 : Int) := by decide +kernel
theorem bWait : WaitOk bR3 0 6 (some 2) := by
  refine ⟨by omega, bW2, ?_⟩
  intro m hm
  have : m = 0 ∨ m = 1 := by omega
  rcases this with rfl | rfl
  · exact bW0
  · exact bW1

theorem b0 : bR0.Ok ∧ bR0.Full := knew_ok bFine
theorem b1 : bR1.Ok ∧ bR1.Full := kbasal_ok b0.1 b0.2 _ _ _
theorem b2 : bR2.Ok ∧ bR2.Full := kbasal_ok b1.1 b1.2 _ _ _
theorem krun_ok {R : RSt} (ok : R.Ok) (hf : R.Full) (t : Int) : (runR R t).Ok ∧ (runR R t).Full := by
  unfold runR
  split
  · rename_i he
    have : 1 ≤ t ∧ t ≤ 100 ∧ R.now + t ≤ 400 := by
      unfold runErr at he
      split at he
      · omega
      · split at he
        · omega
        · omega
    exact rticks_ok ok hf t.toNat (by omega)
  · exact ⟨ok, hf⟩
theorem b3 : bR3.Ok ∧ bR3.Full := krun_ok b2.1 b2.2 _

section
variable {fRest : FuncId} {pa : Rep}

/-- what Run answers stands by itself -/
theorem PS.run {fNew fBasal fRoom fWait : FuncId} (P : Pumpy fNew fBasal 46 fRoom fWait pa) {w w1 : World} {pb : Nat} {R : RSt} (h : PS pa w w1 pb R (.slice none 0 0) []) (t : Int) :
    Calls Tryz.prog 46 #[.pointer (some ⟨pb, 0, none⟩), I t] w1 fun e w2 => ∃ v, e = .returned (.tuple #[v, I (runErr R t)]) ∧ PS pa w w2 pb (runR R t) v (runDs R t) := by
  obtain ⟨F, h1, h2, h3⟩ := h.pump
  refine (P.run t w1 F pb R h1 h.ok h.full).mono ?_
  rintro e w2 ⟨v, rfl, hr, f, F', p, q, r⟩
  have sz := h.keep.size
  obtain ⟨o1, o2⟩ := krun_ok h.ok h.full t
  refine ⟨v, rfl, h.keep.trans2 f fun x hx e => by have := h2 x e; omega, o1, o2, ⟨F', p, ?_, fun x hx => (r x hx).2⟩, hr⟩
  intro x hx
  rcases q x hx with e | e
  · exact h2 x e
  · omega

set_option maxRecDepth 100000 in
set_option maxHeartbeats 1600000 in
theorem kbegun_any (P : Pumpy 25 32 46 14 78 pa) (w : World) :
    Calls Tryz.prog 45 #[] w fun e w' => e = .returned (.bool true) ∧ Keep w w' := by
  have NEW : Hid (Calls Tryz.prog 25 #[.agg #[I 2, .slice (some ⟨w.heap.size, 0, none⟩) 2 2, I 0]] (w.alloc (.cells #[I 3, I 5, I 10, I 2, I 2, I 4] 60)) fun e w1 => ∃ pb, e = .returned (.tuple #[.pointer (some ⟨pb, 0, none⟩), I 0]) ∧ Hid (PS pa w w1 pb bR0 (.slice none 0 0) [])) := by
    have kW : Keep w (w.alloc (.cells #[I 3, I 5, I 10, I 2, I 2, I 4] 60)) := (Frm.refl _ _).alloc _
    have bx := Blk.new w #[I 3, I 5, I 10, I 2, I 2, I 4] 60
    have hs : SeeL (w.alloc (.cells #[I 3, I 5, I 10, I 2, I 2, I 4] 60)) (some ⟨w.heap.size, 0, none⟩) bLims := by
      refine Or.inr ⟨w.heap.size, 0, rfl, bx.lt, ?_⟩
      intro i l hl
      rw [bx.cell, bx.cell, bx.cell]
      match i, hl with
      | 0, hl => simp [bLims] at hl; subst hl; exact ⟨rfl, rfl, rfl⟩
      | 1, hl => simp [bLims] at hl; subst hl; exact ⟨rfl, rfl, rfl⟩
      | i + 2, hl => simp [bLims] at hl
    refine (P.new 2 (some ⟨w.heap.size, 0, none⟩) bLims 2 0 _ hs (fun e => by cases e) (by decide)).mono ?_
    rintro e w1 ⟨k1, ⟨hx, -⟩ | ⟨-, b, F, rfl, hp, hF⟩⟩
    · rw [bFine] at hx; cases hx
    · have sz := kW.size
      exact ⟨b, rfl, kW.trans k1, b0.1, b0.2, ⟨F, hp, fun x hx => Nat.le_trans sz (hF x hx), fun x hx => by simp [Value.ownBlock] at hx⟩, World.ownsRow_nil ..⟩
  have B1 : Hid (∀ w1 pb, PS pa w w1 pb bR0 (.slice none 0 0) [] → Calls Tryz.prog 32 #[.pointer (some ⟨pb, 0, none⟩), I 0, I 3, I 0] w1 fun e w2 => e = .returned (I 0) ∧ PS pa w w2 pb bR1 (.slice none 0 0) []) :=
    fun w1 pb h => h.step b1 fun F hF => by have := P.basal 0 3 0 w1 F pb bR0 hF h.ok h.full; rw [bE1] at this; exact this
  have B2 : Hid (∀ w1 pb, PS pa w w1 pb bR1 (.slice none 0 0) [] → Calls Tryz.prog 32 #[.pointer (some ⟨pb, 0, none⟩), I 1, I 3, I 0] w1 fun e w2 => e = .returned (I 0) ∧ PS pa w w2 pb bR2 (.slice none 0 0) []) :=
    fun w1 pb h => h.step b2 fun F hF => by have := P.basal 1 3 0 w1 F pb bR1 hF h.ok h.full; rw [bE2] at this; exact this
  have B3 : Hid (∀ w1 pb, PS pa w w1 pb bR2 (.slice none 0 0) [] → Calls Tryz.prog 46 #[.pointer (some ⟨pb, 0, none⟩), I 3] w1 fun e w2 => ∃ a c, e = .returned (.tuple #[.slice a 4 c, I 0]) ∧ PS pa w w2 pb bR3 (.slice a 4 c) bDs) := by
    intro w1 pb h
    refine (h.run P 3).mono ?_
    rintro e w2 ⟨v, rfl, hs⟩
    rw [bE3, bRun] at *
    obtain ⟨a, c, rfl⟩ := row_slice hs.row
    exact ⟨a, c, rfl, hs⟩
  have B4 : Hid (∀ w1 pb v, PS pa w w1 pb bR3 v bDs → Calls Tryz.prog 14 #[.pointer (some ⟨pb, 0, none⟩), I 0] w1 fun e w2 => e = .returned (.tuple #[I 0, I 0]) ∧ PS pa w w2 pb bR3 v bDs) :=
    fun w1 pb v h => h.step b3 fun F hF => by have := P.room 0 w1 F pb bR3 hF h.ok h.full; rw [bRoom] at this; exact this
  have B5 : Hid (∀ w1 pb v, PS pa w w1 pb bR3 v bDs → Calls Tryz.prog 78 #[.pointer (some ⟨pb, 0, none⟩), I 0, I 6] w1 fun e w2 => e = .returned (.tuple #[I 2, .bool true, I 0]) ∧ PS pa w w2 pb bR3 v bDs) :=
    fun w1 pb v h => h.step b3 fun F hF => (P.wait 0 6 w1 F pb bR3 hF h.ok h.full).mono fun e w2 q => ⟨by
      have e1 : WaitOut bR3 0 6 (.returned (waitV (some 2))) := Or.inr ⟨bIs, by omega, by omega, some 2, rfl, bWait⟩
      exact waitOut_unique q.1 e1, q.2⟩
  go_enter Tryz.func45, Tryz.ntmps45
  go_wp2_with fail
  refine (NEW.out).mono ?_
  rintro e w1 ⟨pb, rfl, H1⟩
  go_wp2_with fail
  refine (B1.out _ _ H1.out).mono ?_
  rintro e w2 ⟨rfl, h2⟩
  have H2 := hide h2
  clear h2 H1
  go_wp2_with fail
  refine (B2.out _ _ H2.out).mono ?_
  rintro e w3 ⟨rfl, h3⟩
  have H3 := hide h3
  clear h3 H2
  go_wp2_with fail
  refine (B3.out _ _ H3.out).mono ?_
  rintro e w4 ⟨a, c, rfl, h4⟩
  have H4 := hide h4
  clear h4 H3
  go_wp2_with fail
  refine (B4.out _ _ _ H4.out).mono ?_
  rintro e w5 ⟨rfl, h5⟩
  have H5 := hide h5
  clear h5 H4
  go_wp2_with fail
  refine (B5.out _ _ _ H5.out).mono ?_
  rintro e w6 ⟨rfl, h6⟩
  obtain ⟨g, cap, hv, -, hcell, -⟩ := row_at h6.row (fun _ => rfl) (show bDs[3]? = some ⟨1, 1, 1⟩ from rfl) (by decide)
  injection hv with hv1 hv2 hv3
  subst hv1
  have d0 : w6.cell? ⟨g, 9, none⟩ = some (I 1) := hcell 0 (by decide)
  have d1 : w6.cell? ⟨g, 10, none⟩ = some (I 1) := hcell 1 (by decide)
  have d2 : w6.cell? ⟨g, 11, none⟩ = some (I 1) := hcell 2 (by decide)
  have H6 := hide h6.keep
  clear h6 H5 hcell hv2 hv3
  go_wp2_with fail
  go_ret
  exact ⟨rfl, H6.out⟩

end

end Go.Proofs.YtpilmkipbbengaaGreatDoor

/- dripkeep: ordered. -/
namespace Go.Proofs.YtpilmkipbbengaaGreatDoor
open Go.RowKit

def oLims : List Lim := [⟨1, 2, 5⟩]
def oR0 : RSt := rnew 1 oLims 0
def oR1 : RSt := orderR oR0 0 10 1 3
def oR2 : RSt := runR oR1 5
def oR3 : RSt := restsR oR2 0 true
def oDs : List Ds := [⟨1, 0, 4⟩, ⟨2, 0, 1⟩, ⟨3, 0, 4⟩]
theorem oFine : fineB 1 oLims 0 = true := by kernel_rfl
theorem oE1 : orderErr oR0 0 10 1 3 = 0 := by kernel_rfl
theorem oN1 : orderN oR0 0 10 1 3 = 1 := by kernel_rfl
theorem oE2 : runErr oR1 5 = 0 := by kernel_rfl
theorem oRun : runDs oR1 5 = oDs := by kernel_rfl
theorem oRest : restV oR2 1 = 1 := by kernel_rfl
theorem oE3 : restErr oR2 1 = 0 := by kernel_rfl
theorem oE4 : restsErr oR2 0 true = 0 := by kernel_rfl
theorem o0 : oR0.Ok ∧ oR0.Full := knew_ok oFine
theorem o1 : oR1.Ok ∧ oR1.Full := orderR_ok o0.1 o0.2 _ _ _ _
theorem o2 : oR2.Ok ∧ oR2.Full := krun_ok o1.1 o1.2 _
theorem o3 : oR3.Ok ∧ oR3.Full := restsR_ok o2.1 o2.2 _ _

set_option maxRecDepth 100000 in
set_option maxHeartbeats 1600000 in
theorem kordered_any {pa : Rep} (P : Pumpy 25 32 46 14 78 pa) (O : Orderly 34 35 47 21 15 pa) (w : World) :
    Calls Tryz.prog 20 #[] w fun e w' => e = .returned (.bool true) ∧ Keep w w' := by
  have BG : Hid (Calls Tryz.prog 45 #[] w fun e w' => e = .returned (.bool true) ∧ Hid (Keep w w')) := (kbegun_any P w).mono fun e w' q => q
  have NEW : Hid (∀ W : World, Calls Tryz.prog 25 #[.agg #[I 1, .slice (some ⟨W.heap.size, 0, none⟩) 1 1, I 0]] (W.alloc (.cells #[I 1, I 2, I 5] 60)) fun e w1 => ∃ pb, e = .returned (.tuple #[.pointer (some ⟨pb, 0, none⟩), I 0]) ∧ Hid (PS pa W w1 pb oR0 (.slice none 0 0) [])) := by
    intro W
    have kW : Keep W (W.alloc (.cells #[I 1, I 2, I 5] 60)) := (Frm.refl _ _).alloc _
    have bx := Blk.new W #[I 1, I 2, I 5] 60
    have hs : SeeL (W.alloc (.cells #[I 1, I 2, I 5] 60)) (some ⟨W.heap.size, 0, none⟩) oLims := by
      refine Or.inr ⟨W.heap.size, 0, rfl, bx.lt, ?_⟩
      intro i l hl
      rw [bx.cell, bx.cell, bx.cell]
      match i, hl with
      | 0, hl => simp [oLims] at hl; subst hl; exact ⟨rfl, rfl, rfl⟩
      | i + 1, hl => simp [oLims] at hl
    refine (P.new 1 (some ⟨W.heap.size, 0, none⟩) oLims 1 0 _ hs (fun e => by cases e) (by decide)).mono ?_
    rintro e w1 ⟨k1, ⟨hx, -⟩ | ⟨-, b, F, rfl, hp, hF⟩⟩
    · rw [oFine] at hx; cases hx
    · have sz := kW.size
      exact ⟨b, rfl, kW.trans k1, o0.1, o0.2, ⟨F, hp, fun x hx => Nat.le_trans sz (hF x hx), fun x hx => by simp [Value.ownBlock] at hx⟩, World.ownsRow_nil ..⟩
  have B1 : Hid (∀ W w1 pb, PS pa W w1 pb oR0 (.slice none 0 0) [] → Calls Tryz.prog 34 #[.pointer (some ⟨pb, 0, none⟩), I 0, I 10, I 1, I 3] w1 fun e w2 => e = .returned (.tuple #[I 1, I 0]) ∧ PS pa W w2 pb oR1 (.slice none 0 0) []) :=
    fun W w1 pb h => h.step o1 fun F hF => by have := O.order 0 10 1 3 w1 F pb oR0 hF h.ok h.full; rw [oE1, oN1] at this; exact this
  have B2 : Hid (∀ W w1 pb, PS pa W w1 pb oR1 (.slice none 0 0) [] → Calls Tryz.prog 46 #[.pointer (some ⟨pb, 0, none⟩), I 5] w1 fun e w2 => ∃ a c, e = .returned (.tuple #[.slice a 3 c, I 0]) ∧ PS pa W w2 pb oR2 (.slice a 3 c) oDs) := by
    intro W w1 pb h
    refine (h.run P 5).mono ?_
    rintro e w2 ⟨v, rfl, hs⟩
    rw [oE2, oRun] at *
    obtain ⟨a, c, rfl⟩ := row_slice hs.row
    exact ⟨a, c, rfl, hs⟩
  have B3 : Hid (∀ W w1 pb v, PS pa W w1 pb oR2 v oDs → Calls Tryz.prog 47 #[.pointer (some ⟨pb, 0, none⟩), I 1] w1 fun e w2 => e = .returned (.tuple #[I 1, I 0]) ∧ PS pa W w2 pb oR2 v oDs) :=
    fun W w1 pb v h => h.step o2 fun F hF => by have := O.rest 1 w1 F pb oR2 hF h.ok h.full; rw [oRest, oE3] at this; exact this
  have B4 : Hid (∀ W w1 pb v, PS pa W w1 pb oR2 v oDs → Calls Tryz.prog 21 #[.pointer (some ⟨pb, 0, none⟩), I 0] w1 fun e w2 => e = .returned (I 0) ∧ PS pa W w2 pb oR3 v oDs) :=
    fun W w1 pb v h => h.step o3 fun F hF => by have := O.pause 0 w1 F pb oR2 hF h.ok h.full; rw [oE4] at this; exact this
  go_enter Tryz.func20, Tryz.ntmps20
  go_wp2_with fail
  refine (BG.out).mono ?_
  rintro e w0 ⟨rfl, K0⟩
  go_wp2_with fail
  refine (NEW.out _).mono ?_
  rintro e w1 ⟨pb, rfl, H1⟩
  go_wp2_with fail
  refine (B1.out _ _ _ H1.out).mono ?_
  rintro e w2 ⟨rfl, h2⟩
  have H2 := hide h2
  clear h2 H1
  go_wp2_with fail
  refine (B2.out _ _ _ H2.out).mono ?_
  rintro e w3 ⟨a, c, rfl, h3⟩
  have H3 := hide h3
  clear h3 H2
  go_wp2_with fail
  refine (B3.out _ _ _ _ H3.out).mono ?_
  rintro e w4 ⟨rfl, h4⟩
  have H4 := hide h4
  clear h4 H3
  go_wp2_with fail
  refine (B4.out _ _ _ _ H4.out).mono ?_
  rintro e w5 ⟨rfl, h5⟩
  obtain ⟨g, cap, hv, -, hcell, -⟩ := row_at h5.row (fun _ => rfl) (show oDs[0]? = some ⟨1, 0, 4⟩ from rfl) (by decide)
  obtain ⟨g1, cap1, hv1, -, hcell1, -⟩ := row_at h5.row (fun _ => rfl) (show oDs[1]? = some ⟨2, 0, 1⟩ from rfl) (by decide)
  obtain ⟨g2, cap2, hv2, -, hcell2, -⟩ := row_at h5.row (fun _ => rfl) (show oDs[2]? = some ⟨3, 0, 4⟩ from rfl) (by decide)
  injection hv with p1 p2 p3
  injection hv1 with q1 q2 q3
  injection hv2 with r1 r2 r3
  subst p1
  injection q1 with q1; injection q1 with q1
  injection r1 with r1; injection r1 with r1
  subst q1; subst r1
  have d0 : w5.cell? ⟨g, 2, none⟩ = some (I 4) := hcell 2 (by decide)
  have d1 : w5.cell? ⟨g, 5, none⟩ = some (I 1) := hcell1 2 (by decide)
  have d2 : w5.cell? ⟨g, 8, none⟩ = some (I 4) := hcell2 2 (by decide)
  have H6 := hide (K0.out.trans h5.keep)
  clear h5 H4 hcell hcell1 hcell2 p2 p3 q2 q3 r2 r3
  go_wp2_with fail
  go_ret
  exact ⟨rfl, H6.out⟩

end Go.Proofs.YtpilmkipbbengaaGreatDoor
