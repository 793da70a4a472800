/- record: follows. -/
import Derived.Test.YtpilmkipbbengaaGreatDoorJaM
import Derived.Test.YtpilmkipbbengaaGreatDoorBase
import Derived.Test.YtpilmkipbbengaaGreatDoorJbM
import Derived.Test.YtpilmkipbbengaaGreatDoorJcM
namespace Go.Proofs.YtpilmkipbbengaaGreatDoor
open Go.RowKit

set_option maxRecDepth 100000 in
set_option maxHeartbeats 800000 in
theorem follows_any (d last : Ds) (w : World) : Calls Tryz.prog 57 #[.agg #[I d.tick, I d.ch, I d.amt], .agg #[I last.tick, I last.ch, I last.amt]] w fun e w' => e = .returned (.bool (jfol last d)) ∧ Keep w w' := by
  by_cases h1 : last.tick < d.tick
  · have e : jfol last d = true := by simp [jfol, h1]
    rw [e]
    clear e
    go_enter Tryz.func57, Tryz.ntmps57
    go_wp2_with fail
    go_ret
    exact ⟨rfl, ((Frm.refl _ _).alloc _).alloc _⟩
  · have b1 : decide (last.tick < d.tick) = false := decide_eq_false h1
    by_cases h2 : d.tick = last.tick
    · have e : jfol last d = decide (last.ch < d.ch) := by simp [jfol, h2]
      rw [e]
      clear e
      have b2 : (d.tick == last.tick) = true := by simpa using h2
      go_enter Tryz.func57, Tryz.ntmps57
      go_wp2_with fail
      go_ret
      exact ⟨rfl, ((Frm.refl _ _).alloc _).alloc _⟩
    · have e : jfol last d = false := by simp [jfol, h1]; intro e; exact absurd e.symm h2
      rw [e]
      clear e
      have b2 : (d.tick == last.tick) = false := by simpa using h2
      go_enter Tryz.func57, Tryz.ntmps57
      go_wp2_with fail
      go_ret
      exact ⟨rfl, ((Frm.refl _ _).alloc _).alloc _⟩

end Go.Proofs.YtpilmkipbbengaaGreatDoor

/- record: readNow, readDose. -/
namespace Go.Proofs.YtpilmkipbbengaaGreatDoor
open Go.RowKit Go.Lib

theorem jnum_nil : jnum [] = none := by
  unfold jnum
  rw [if_neg]
  intro h
  have := (jok_iff []).1 h
  simp at this

def NowOk (last : Int) (s : List UInt8) (x : Int) (b : Bool) : Prop := (b = true ∧ jnow last s = some x) ∨ (b = false ∧ jnow last s = none)

set_option maxRecDepth 100000 in
set_option maxHeartbeats 800000 in
theorem readNow_any (s : List UInt8) (last : Int) (w : World) (hs : s.length ≤ 4000000000000000000) (l0 : -1 ≤ last) (l1 : last ≤ 400) :
    Calls Tryz.prog 55 #[.string ⟨s.toArray⟩, I last] w fun e w' => w' = w ∧ ∃ x b, e = .returned (.tuple #[I x, .bool b]) ∧ NowOk last s x b := by
  have CP := hide (scutPrefix_any s w)
  by_cases h2 : s.take 2 = [61, 32]
  · have e1 : (if s.take 2 = [61, 32] then s.drop 2 else s) = s.drop 2 := if_pos h2
    have e2 : decide (s.take 2 = [61, 32]) = true := decide_eq_true h2
    rw [e1, e2] at CP
    have RN : Hid (Calls Tryz.prog 95 #[.string ⟨(s.drop 2).toArray⟩, I (last + 1), I 400] w fun e w' => w' = w ∧ ∃ x b, e = .returned (.tuple #[I x, .bool b]) ∧ Hid (NowOk last s x b)) := by
      refine (readNumber_any (s.drop 2) (last + 1) 400 w (by simp; omega) (by omega) (by omega)).mono ?_
      rintro e w' ⟨rfl, x, b, rfl, hr⟩
      refine ⟨rfl, x, b, rfl, ?_⟩
      rcases hr with ⟨hb, n, hn, hx, q1, q2⟩ | ⟨hb, hn⟩
      · refine Or.inl ⟨hb, ?_⟩
        unfold jnow
        rw [if_pos h2, hn]
        simp only
        rw [if_pos ⟨by omega, q2⟩, hx]
      · refine Or.inr ⟨hb, ?_⟩
        unfold jnow
        rw [if_pos h2]
        cases hj : jnum (s.drop 2) with
        | none => rfl
        | some n =>
          simp only
          rw [if_neg]
          have := hn n hj
          omega
    clear h2 e1 e2
    generalize s.drop 2 = u at *
    go_enter Tryz.func55, Tryz.ntmps55
    go_wp2_with fail
    refine (CP.out).mono ?_
    rintro e w' ⟨rfl, hw⟩
    subst hw
    go_wp2_with fail
    refine (RN.out).mono ?_
    rintro e w2 ⟨rfl, x, b, rfl, hx⟩
    go_wp2_with fail
    go_ret2
    exact ⟨rfl, x, b, rfl, hx.out⟩
  · have e1 : (if s.take 2 = [61, 32] then s.drop 2 else s) = s := if_neg h2
    have e2 : decide (s.take 2 = [61, 32]) = false := decide_eq_false h2
    rw [e1, e2] at CP
    have FIN : Hid (NowOk last s 0 false) := by
      refine Or.inr ⟨rfl, ?_⟩
      unfold jnow
      rw [if_neg h2]
    clear h2 e1 e2
    go_enter Tryz.func55, Tryz.ntmps55
    go_wp2_with fail
    refine (CP.out).mono ?_
    rintro e w' ⟨rfl, hw⟩
    subst hw
    go_wp2_with fail
    go_ret2
    exact ⟨rfl, 0, false, rfl, FIN.out⟩

def DoseOk (nch : Int) (s : List UInt8) (t k m : Int) (b : Bool) : Prop := (b = true ∧ jdose nch s = some ⟨t, k, m⟩) ∨ (b = false ∧ jdose nch s = none)

theorem dose_of {nch : Int} {s : List UInt8} {t k m : Int} {bt bk bm : Bool} (h1 : RNum (cutV 32 s).1 0 399 t bt) (h2 : RNum (cutV 32 (cutV 32 s).2.1).1 0 (nch - 1) k bk) (h3 : RNum (cutV 32 (cutV 32 s).2.1).2.1 1 1000 m bm) : DoseOk nch s t k m (bt && (bk && bm)) := by
  unfold cutV at h1 h2 h3
  unfold DoseOk jdose
  cases hc : jcut 32 s with
  | none =>
    rw [hc] at h1 h2 h3
    simp only [jcut] at h3
    rcases h3 with ⟨_, n, hn, _⟩ | ⟨hb, _⟩
    · rw [jnum_nil] at hn; cases hn
    · subst hb; right; simp
  | some p =>
    obtain ⟨a, r⟩ := p
    rw [hc] at h1 h2 h3
    simp only at h1 h2 h3 ⊢
    cases hc2 : jcut 32 r with
    | none =>
      rw [hc2] at h2 h3
      simp only at h3
      rcases h3 with ⟨_, n, hn, _⟩ | ⟨hb, _⟩
      · rw [jnum_nil] at hn; cases hn
      · subst hb; right; simp
    | some p =>
      obtain ⟨b', c⟩ := p
      rw [hc2] at h2 h3
      simp only at h2 h3 ⊢
      rcases h1 with ⟨e1, n1, j1, x1, y1, z1⟩ | ⟨e1, h1⟩
      · rcases h2 with ⟨e2, n2, j2, x2, y2, z2⟩ | ⟨e2, h2⟩
        · rcases h3 with ⟨e3, n3, j3, x3, y3, z3⟩ | ⟨e3, h3⟩
          · left
            subst e1; subst e2; subst e3
            refine ⟨rfl, ?_⟩
            rw [j1, j2, j3]
            simp only
            rw [if_pos ⟨z1, by omega, by omega, by omega⟩, x1, x2, x3]
          · right
            subst e3
            refine ⟨by simp, ?_⟩
            rw [j1, j2]
            simp only
            cases hj : jnum c with
            | none => rfl
            | some n =>
              simp only
              rw [if_neg]
              have := h3 n hj
              omega
        · right
          subst e2
          refine ⟨by simp, ?_⟩
          rw [j1]
          simp only
          cases hj : jnum b' with
          | none => rfl
          | some n =>
            simp only
            cases hj3 : jnum c with
            | none => rfl
            | some n3 =>
              simp only
              rw [if_neg]
              have := h2 n hj
              omega
      · right
        subst e1
        refine ⟨by simp, ?_⟩
        cases hj : jnum a with
        | none => rfl
        | some n =>
          simp only
          cases hj2 : jnum b' with
          | none => rfl
          | some n2 =>
            simp only
            cases hj3 : jnum c with
            | none => rfl
            | some n3 =>
              simp only
              rw [if_neg]
              have := h1 n hj
              omega

theorem cutV_len (c : UInt8) (s : List UInt8) : (cutV c s).1.length ≤ s.length ∧ (cutV c s).2.1.length ≤ s.length := by
  unfold cutV
  cases hc : jcut c s with
  | none => simp
  | some p =>
    have := (jcut_eq (a := p.1) (r := p.2) hc).1
    simp only
    rw [this]
    simp
    omega

set_option maxRecDepth 100000 in
set_option maxHeartbeats 1600000 in
theorem readDose_any (s : List UInt8) (nch : Int) (w : World) (hs : s.length ≤ 4000000000000000000) (c0 : 1 ≤ nch) (c1 : nch ≤ 4) :
    Calls Tryz.prog 56 #[.string ⟨s.toArray⟩, I nch] w fun e w' => Keep w w' ∧ ∃ t k m b, e = .returned (.tuple #[.agg #[I t, I k, I m], .bool b]) ∧ DoseOk nch s t k m b := by
  have SC : Hid (∀ (x : List UInt8) (W : World), x.length ≤ 4000000000000000000 → Hid (Keep w W ∧ Blk W w.heap.size #[I 0, I 0, I 0] 100) → Calls Tryz.prog 54 #[.string ⟨x.toArray⟩, .string ⟨#[32]⟩] W fun e w' => e = .returned (.tuple #[.string ⟨(cutV 32 x).1.toArray⟩, .string ⟨(cutV 32 x).2.1.toArray⟩, .bool (cutV 32 x).2.2]) ∧ Hid (Keep w w' ∧ Blk w' w.heap.size #[I 0, I 0, I 0] 100)) := by
    intro x W hx hW
    refine (scut_any x 32 W hx).mono ?_
    rintro e w' ⟨rfl, n, rfl⟩
    exact ⟨rfl, (hW.out).1.drewN n, ((show Keep W (W.drewN n) from (Frm.refl _ _).drewN n)).blk (hW.out).2⟩
  have RN : Hid (∀ (x : List UInt8) (least most : Int) (W : World), x.length ≤ 4000000000000000000 → 0 ≤ most → most ≤ 1000 → Calls Tryz.prog 95 #[.string ⟨x.toArray⟩, I least, I most] W fun e w' => w' = W ∧ ∃ y b, e = .returned (.tuple #[I y, .bool b]) ∧ Hid (RNum x least most y b)) := by
    intro x least most W hx m0 m1
    exact readNumber_any x least most W (by omega) m0 m1
  have l1 := cutV_len 32 s
  have l2 := cutV_len 32 (cutV 32 s).2.1
  have FIN : Hid (∀ {t k m : Int} {bt bk bm : Bool}, RNum (cutV 32 s).1 0 399 t bt → RNum (cutV 32 (cutV 32 s).2.1).1 0 (nch - 1) k bk → RNum (cutV 32 (cutV 32 s).2.1).2.1 1 1000 m bm → DoseOk nch s t k m (bt && (bk && bm))) := fun h1 h2 h3 => dose_of h1 h2 h3
  have C1 := hide (fun W hW => SC.out s W hs hW)
  have C2 := hide (fun W hW => SC.out (cutV 32 s).2.1 W (by omega) hW)
  have L1 : (cutV 32 s).1.length ≤ 4000000000000000000 := by omega
  have L2 : (cutV 32 (cutV 32 s).2.1).1.length ≤ 4000000000000000000 := by omega
  have L3 : (cutV 32 (cutV 32 s).2.1).2.1.length ≤ 4000000000000000000 := by omega
  clear l1 l2 SC
  generalize (cutV 32 (cutV 32 s).2.1).1 = s2 at *
  generalize (cutV 32 (cutV 32 s).2.1).2.1 = s3 at *
  generalize (cutV 32 (cutV 32 s).2.1).2.2 = b3 at *
  generalize (cutV 32 s).1 = s1 at *
  generalize (cutV 32 s).2.1 = so at *
  generalize (cutV 32 s).2.2 = b1 at *
  go_enter Tryz.func56, Tryz.ntmps56
  go_wp2_with fail
  refine (C1.out _ ⟨(Frm.refl _ _).alloc _, Blk.new _ _ _⟩).mono ?_
  rintro e w2 ⟨rfl, K2⟩
  go_wp2_with fail
  refine (C2.out _ K2).mono ?_
  rintro e w3 ⟨rfl, K3⟩
  go_wp2_with fail
  refine (RN.out s1 0 399 w3 L1 (by omega) (by omega)).mono ?_
  rintro e w4 ⟨hw4, t, bt, rfl, R1⟩
  have hw4 := hw4.symm
  subst hw4
  go_wp2_with fail
  refine (RN.out s2 0 (nch - 1) w3 L2 (by omega) (by omega)).mono ?_
  rintro e w4 ⟨hw4, k, bk, rfl, R2⟩
  have hw4 := hw4.symm
  subst hw4
  go_wp2_with fail
  refine (RN.out s3 1 1000 w3 L3 (by omega) (by omega)).mono ?_
  rintro e w4 ⟨hw4, m, bm, rfl, R3⟩
  have hw4 := hw4.symm
  subst hw4
  have y0 : w3.cell? ⟨w.heap.size, 0, none⟩ = some (I 0) := by rw [(K3.out).2.cell]; rfl
  have y1 : w3.cell? ⟨w.heap.size, 1, none⟩ = some (I 0) := by rw [(K3.out).2.cell]; rfl
  have y2 : w3.cell? ⟨w.heap.size, 2, none⟩ = some (I 0) := by rw [(K3.out).2.cell]; rfl
  have f0 := (K3.out).2.frozen 0
  have f1 := (K3.out).2.frozen 1
  have f2 := (K3.out).2.frozen 2
  have Z : Hid (Keep w w3) := (K3.out).1
  have D := hide (FIN.out R1.out R2.out R3.out)
  clear K3 R1 R2 R3 FIN C1 C2 RN
  have KF : Hid (Keep w (((w3.setCell ⟨w.heap.size, 0, none⟩ (I t)).setCell ⟨w.heap.size, 1, none⟩ (I k)).setCell ⟨w.heap.size, 2, none⟩ (I m))) := (((Z.out).setNew (Nat.le_refl _) _).setNew (Nat.le_refl _) _).setNew (Nat.le_refl _) _
  cases bt
  · go_wp2_with fail
    refine bodyPost_ret (v := .tuple #[.agg #[I t, I k, I m], .bool false]) (by simp [results, Tryz.results56, go_sem, y0, y1, y2]) rfl ?_
    exact ⟨KF.out, t, k, m, false, rfl, D.out⟩
  · cases bk
    · go_wp2_with fail
      refine bodyPost_ret (v := .tuple #[.agg #[I t, I k, I m], .bool false]) (by simp [results, Tryz.results56, go_sem, y0, y1, y2]) rfl ?_
      exact ⟨KF.out, t, k, m, false, rfl, D.out⟩
    · go_wp2_with fail
      refine bodyPost_ret (v := .tuple #[.agg #[I t, I k, I m], .bool bm]) (by simp [results, Tryz.results56, go_sem, y0, y1, y2]) rfl ?_
      exact ⟨KF.out, t, k, m, bm, rfl, D.out⟩

end Go.Proofs.YtpilmkipbbengaaGreatDoor

/- record: Read. -/
namespace Go.Proofs.YtpilmkipbbengaaGreatDoor
open Go.RowKit Go.Lib

def JR.pushL (ds : List Ds) : JR → JR
  | .ok (xs, now) => .ok (ds ++ xs, now)
  | .error n => .error (ds.length + n)

theorem JR.pushL_snoc (ds : List Ds) (d : Ds) (r : JR) : JR.pushL ds (r.push d) = JR.pushL (ds ++ [d]) r := by
  cases r with
  | ok p => obtain ⟨xs, now⟩ := p; simp [JR.pushL, JR.push]
  | error n => simp [JR.pushL, JR.push]; omega

/-- what was read so far -/
structure JMid (nch : Int) (done : List Ds) (last : Ds) : Prop where
  rise : done.Pairwise Aft
  each : ∀ d ∈ done, 0 ≤ d.tick ∧ d.tick ≤ 399 ∧ 0 ≤ d.ch ∧ d.ch < nch
  upto : ∀ d ∈ done, d = last ∨ Aft d last
  l0 : -1 ≤ last.tick
  l1 : last.tick ≤ 399

theorem JMid.next {nch : Int} {done : List Ds} {last d : Ds} {l : List UInt8} (h : JMid nch done last) (hd : jdose nch l = some d) (hf : jfol last d = true) : JMid nch (done ++ [d]) d := by
  obtain ⟨-, q1, q2, q3, q4, q5, q6⟩ := jdose_eq hd
  have ha := (jfol_iff last d).1 hf
  have key : ∀ x ∈ done, Aft x d := fun x hx => by
    rcases h.upto x hx with e | e
    · rw [e]; exact ha
    · exact e.trans ha
  refine ⟨?_, ?_, ?_, by omega, q2⟩
  · rw [List.pairwise_append]
    refine ⟨h.rise, by simp, fun a hx b hb => ?_⟩
    simp at hb
    subst hb
    exact key a hx
  · intro x hx
    rcases List.mem_append.1 hx with hx | hx
    · exact h.each x hx
    · simp at hx; subst hx; omega
  · intro x hx
    rcases List.mem_append.1 hx with hx | hx
    · exact Or.inr (key x hx)
    · simp at hx; exact Or.inl hx

theorem JMid.len {nch : Int} {done : List Ds} {last : Ds} (h : JMid nch done last) (hc : nch ≤ 4) : done.length ≤ 1600 := by
  have := rise_len done 0 400 h.rise (fun d hd => by have := h.each d hd; omega) (by omega)
  omega

structure RdAt (w wr : World) (v : Value) (done : List Ds) (last : Ds) : Prop where
  keep : Keep w wr
  lst : Blk wr w.heap.size #[I last.tick, I last.ch, I last.amt] 100
  row : wr.ownsRow 0 100 3 v done.length (done.flatMap dsC)
  new : ∀ x, v.ownBlock = some x → w.heap.size < x

theorem RdAt.on {w wr W : World} {v : Value} {done : List Ds} {last : Ds} (h : RdAt w wr v done last) (k : Keep wr W) : RdAt w W v done last :=
  ⟨h.keep.trans k, k.blk h.lst, row_frm h.row k (fun _ _ e => e), h.new⟩

theorem blk_set3 {w : World} {b : Nat} {a0 a1 a2 : Value} {T : TypeId} (h : Blk w b #[a0, a1, a2] T) (x y z : Value) : Blk (((w.setCell ⟨b, 0, none⟩ x).setCell ⟨b, 1, none⟩ y).setCell ⟨b, 2, none⟩ z) b #[x, y, z] T := by
  have h0 := h.set 0 x
  have h1 := h0.set 1 y
  have h2 := h1.set 2 z
  exact h2

theorem RdAt.more {w W w5 : World} {v v' : Value} {done : List Ds} {last d : Ds} (h : RdAt w W v done last) (hown : w5.ownsRow 0 100 3 v' (done.length + 1) (done.flatMap dsC ++ [I d.tick, I d.ch, I d.amt])) (hg : W.grownBy w5 v.ownBlock)
    (hnew : v'.ownBlock = v.ownBlock ∨ (v'.ownBlock = some W.heap.size ∧ W.grownBy w5 none)) : RdAt w (((w5.setCell ⟨w.heap.size, 0, none⟩ (I d.tick)).setCell ⟨w.heap.size, 1, none⟩ (I d.ch)).setCell ⟨w.heap.size, 2, none⟩ (I d.amt)) v' (done ++ [d]) d := by
  have f5 := grown_frm hg
  have b5 := h.lst.frm f5 (fun e => Nat.lt_irrefl _ (h.new _ e))
  have hlt := h.lst.lt
  have vn : ∀ x, v'.ownBlock = some x → w.heap.size < x := by
    intro x hx
    rcases hnew with e | ⟨e, -⟩
    · exact h.new x (by rw [← e]; exact hx)
    · rw [e] at hx; injection hx with hx; omega
  have k5 : Keep w w5 := h.keep.trans2 f5 fun x hx e => absurd (h.new x e) (by omega)
  have fs : Frm (fun x => x = w.heap.size) w5 (((w5.setCell ⟨w.heap.size, 0, none⟩ (I d.tick)).setCell ⟨w.heap.size, 1, none⟩ (I d.ch)).setCell ⟨w.heap.size, 2, none⟩ (I d.amt)) := by
    refine Frm.setCell (S := fun x => x = w.heap.size) (Frm.setCell (S := fun x => x = w.heap.size) (Frm.setCell (S := fun x => x = w.heap.size) (Frm.refl _ _) ?_ _) ?_ _) ?_ _
    all_goals rfl
  refine ⟨k5.trans2 fs fun x hx e => by omega, blk_set3 b5 _ _ _, ?_, vn⟩
  have e1 : (done ++ [d]).length = done.length + 1 := by simp
  have e2 : (done ++ [d]).flatMap dsC = done.flatMap dsC ++ [I d.tick, I d.ch, I d.amt] := by simp [dsC]
  rw [e1, e2]
  exact row_frm hown fs fun x hx e => by have := vn x hx; omega

def ReadOut (w : World) (nch : Int) (s : List UInt8) (e : Ending) (w' : World) : Prop := Keep w w' ∧ match jread nch ds0 s with
  | .error n => e = .returned (.tuple #[.slice none 0 0, I 0, I n])
  | .ok (ds, now) => ∃ v, e = .returned (.tuple #[v, I now, I 0]) ∧ w'.ownsRow 0 100 3 v ds.length (ds.flatMap dsC) ∧ ∀ x, v.ownBlock = some x → w.heap.size < x

set_option maxRecDepth 100000 in
set_option maxHeartbeats 3200000 in
theorem read_any (s : List UInt8) (nch : Int) (w : World) (hs : s.length ≤ 4000000000000000000) (c0 : 1 ≤ nch) (c1 : nch ≤ 4) :
    Calls Tryz.prog 26 #[.string ⟨s.toArray⟩, I nch] w fun e w' => ReadOut w nch s e w' := by
  obtain ⟨i, hi, hz0, hz1, hz2⟩ := info_parts infoD
  go_enter Tryz.func26, Tryz.ntmps26
  go_wp2_with fail
  go_loopg [0, 7, 9] s.length (fun q u v n wr => ∃ (x : List UInt8) (done : List Ds) (ad : Option Addr) (cp : Nat), x.length = q ∧ x.length ≤ s.length ∧ u = .string ⟨x.toArray⟩ ∧ v = .slice ad done.length cp ∧ n = I ((done.length : Int) + 1) ∧ Hid (∃ last, RdAt w wr (.slice ad done.length cp) done last ∧ JMid nch done last ∧ jread nch ds0 s = JR.pushL done (jread nch last x)))
  case atStart =>
    refine ⟨s, [], none, 0, rfl, Nat.le_refl _, rfl, rfl, rfl, ds0, ⟨(Frm.refl _ _).alloc _, Blk.new _ _ _, World.ownsRow_nil .., fun x hx => by simp [Value.ownBlock] at hx⟩, ⟨by simp, by simp, by simp, by simp [ds0], by simp [ds0]⟩, ?_⟩
    cases jread nch ds0 s <;> simp [JR.pushL]
  case round =>
    obtain ⟨x, done, ad, cp, hq, hxs, rfl, rfl, rfl, hst⟩ := hrel
    obtain ⟨last, hrd, hmid, hjr⟩ := hst.out
    have hdl := hmid.len c1
    have hxl : x.length ≤ 4000000000000000000 := by omega
    have l0 := hmid.l0
    have l1 := hmid.l1
    have CUT : Hid (Calls Tryz.prog 54 #[.string ⟨x.toArray⟩, .string ⟨#[10]⟩] wr fun e w' => e = .returned (.tuple #[.string ⟨(cutV 10 x).1.toArray⟩, .string ⟨(cutV 10 x).2.1.toArray⟩, .bool (cutV 10 x).2.2]) ∧ w'.cell? ⟨w.heap.size, 0, none⟩ = some (I last.tick) ∧ Hid (RdAt w w' (.slice ad done.length cp) done last)) := by
      refine (scut_any x 10 wr hxl).mono ?_
      rintro e w' ⟨rfl, n, rfl⟩
      have h2 := hrd.on ((Frm.refl _ _).drewN n)
      exact ⟨rfl, by rw [h2.lst.cell]; rfl, h2⟩
    cases hc : jcut 10 x with
    | none =>
      have e0 : jread nch ds0 s = .error (done.length + 1) := by
        rw [hjr, jread_eq, hc]
        rfl
      have ec : cutV 10 x = (x, [], false) := by unfold cutV; rw [hc]
      rw [ec] at CUT
      have FIN : Hid (∀ W, Hid (RdAt w W (.slice ad done.length cp) done last) → ReadOut w nch s (.returned (.tuple #[.slice none 0 0, I 0, I ((done.length : Int) + 1)])) W) := by
        intro W hW
        refine ⟨(hW.out).keep, ?_⟩
        rw [e0]
        simp
      clear hst hrd hmid hjr ec e0 hc
      go_wp2_with fail
      refine (CUT.out).mono ?_
      rintro e w2 ⟨rfl, y0, K2⟩
      go_wp2_with fail
      go_ret3
      exact FIN.out _ K2
    | some pr =>
      obtain ⟨l, r⟩ := pr
      have ec : cutV 10 x = (l, r, true) := by unfold cutV; rw [hc]
      rw [ec] at CUT
      have hll := jcut_eq hc
      have hrl := jcut_lt hc
      have hlen : l.length ≤ 4000000000000000000 := by rw [hll.1] at hxl; simp at hxl; omega
      have RNW : Hid (∀ W, Calls Tryz.prog 55 #[.string ⟨l.toArray⟩, I last.tick] W fun e w' => w' = W ∧ ∃ y b, e = .returned (.tuple #[I y, .bool b]) ∧ Hid (NowOk last.tick l y b)) := fun W => readNow_any l last.tick W hlen l0 (by omega)
      have RDS : Hid (∀ W, Hid (RdAt w W (.slice ad done.length cp) done last) → Calls Tryz.prog 56 #[.string ⟨l.toArray⟩, I nch] W fun e w' => ∃ t k m b, e = .returned (.tuple #[.agg #[I t, I k, I m], .bool b]) ∧ Hid (RdAt w w' (.slice ad done.length cp) done last) ∧ Hid (DoseOk nch l t k m b)) := by
        intro W hW
        refine (readDose_any l nch W hlen c0 c1).mono ?_
        rintro e w' ⟨k', t, k, m, b, rfl, hd⟩
        exact ⟨t, k, m, b, rfl, (hW.out).on k', hd⟩
      have JJ : Hid (jread nch ds0 s = JR.pushL done (match jnow last.tick l with
          | some m => if r = [] then .ok ([], m) else .error 2
          | none => match jdose nch l with
            | none => .error 1
            | some d => if jfol last d = true then (jread nch d r).push d else .error 1)) := by
        show jread nch ds0 s = _
        rw [hjr, jread_eq, hc]
        rfl
      have BAD1 : Hid (∀ (W : World) (n : Nat) (z : Int), jread nch ds0 s = .error n → z = n → Hid (RdAt w W (.slice ad done.length cp) done last) → ReadOut w nch s (.returned (.tuple #[.slice none 0 0, I 0, I z])) W) := by
        intro W n z hn hz hW
        refine ⟨(hW.out).keep, ?_⟩
        rw [hn, hz]
      have NEXT : Hid (∀ (d : Ds) (W w5 : World) (v' : Value), jnow last.tick l = none → jdose nch l = some d → jfol last d = true → Hid (RdAt w W (.slice ad done.length cp) done last) → w5.ownsRow 0 100 3 v' (done.length + 1) (done.flatMap dsC ++ [I d.tick, I d.ch, I d.amt]) → W.grownBy w5 (Value.slice ad done.length cp).ownBlock →
          (v'.ownBlock = (Value.slice ad done.length cp).ownBlock ∨ (v'.ownBlock = some W.heap.size ∧ W.grownBy w5 none)) →
          Hid (∃ last, RdAt w (((w5.setCell ⟨w.heap.size, 0, none⟩ (I d.tick)).setCell ⟨w.heap.size, 1, none⟩ (I d.ch)).setCell ⟨w.heap.size, 2, none⟩ (I d.amt)) v' (done ++ [d]) last ∧ JMid nch (done ++ [d]) last ∧ jread nch ds0 s = JR.pushL (done ++ [d]) (jread nch last r))) := by
        intro d W w5 v' h1 h2 h3 hW h4 h5 h6
        refine ⟨d, (hW.out).more h4 h5 h6, hmid.next h2 h3, ?_⟩
        rw [JJ.out, h1, h2]
        simp only
        rw [if_pos h3, JR.pushL_snoc]
      clear hst hmid hjr ec hc hll
      have hrd := hide hrd
      go_wp2_with fail
      refine (CUT.out).mono ?_
      rintro e w2 ⟨rfl, y0, K2⟩
      clear hrd
      go_wp2_with fail
      refine (RNW.out w2).mono ?_
      rintro e w3 ⟨hw3, y, b, rfl, N⟩
      have hw3 := hw3.symm
      subst hw3
      cases b with
      | true =>
        have hy : jnow last.tick l = some y := by
          rcases N.out with ⟨-, h⟩ | ⟨h, -⟩
          · exact h
          · cases h
        by_cases hr : r = []
        · have FIN : Hid (ReadOut w nch s (.returned (.tuple #[.slice ad done.length cp, I y, I 0])) w2) := by
            refine ⟨(K2.out).keep, ?_⟩
            have e : jread nch ds0 s = .ok (done, y) := by
              rw [JJ.out, hy]
              simp [hr, JR.pushL]
            rw [e]
            exact ⟨_, rfl, (K2.out).row, (K2.out).new⟩
          subst hr
          clear hy N JJ NEXT BAD1
          go_wp2_with fail
          go_ret3
          exact FIN.out
        · have FIN := hide (BAD1.out w2 (done.length + 2) ((done.length : Int) + 1 + 1) (by rw [JJ.out, hy]; simp [hr, JR.pushL]) (by omega) K2)
          have hem : r.isEmpty = false := by cases r with
            | nil => exact absurd rfl hr
            | cons a b => rfl
          clear hy N JJ NEXT BAD1 hr
          go_wp2_with fail
          go_ret3
          exact FIN.out
      | false =>
        have hy : jnow last.tick l = none := by
          rcases N.out with ⟨h, -⟩ | ⟨-, h⟩
          · cases h
          · exact h
        have HY := hide hy
        clear hy N
        go_wp2_with fail
        refine (RDS.out w2 K2).mono ?_
        rintro e w3 ⟨t, k, m, b, rfl, K3, D⟩
        cases b with
        | false =>
          have hd : jdose nch l = none := by
            rcases D.out with ⟨h, -⟩ | ⟨-, h⟩
            · cases h
            · exact h
          have FIN : Hid (ReadOut w nch s (.returned (.tuple #[.slice none 0 0, I 0, I ((done.length : Int) + 1)])) (w3.alloc (.cells #[I t, I k, I m] 100))) := BAD1.out _ (done.length + 1) _ (by rw [JJ.out, HY.out, hd]; rfl) (by omega) ((K3.out).on ((Frm.refl _ _).alloc _))
          clear hd D JJ NEXT BAD1 K2 K3
          go_wp2_with fail
          go_ret3
          exact FIN.out
        | true =>
          have hd : jdose nch l = some ⟨t, k, m⟩ := by
            rcases D.out with ⟨-, h⟩ | ⟨h, -⟩
            · exact h
            · cases h
          have z0 : w3.cell? ⟨w.heap.size, 0, none⟩ = some (I last.tick) := by rw [(K3.out).lst.cell]; rfl
          have z1 : w3.cell? ⟨w.heap.size, 1, none⟩ = some (I last.ch) := by rw [(K3.out).lst.cell]; rfl
          have z2 : w3.cell? ⟨w.heap.size, 2, none⟩ = some (I last.amt) := by rw [(K3.out).lst.cell]; rfl
          have zl := (K3.out).lst.lt
          have FOL : Hid (Calls Tryz.prog 57 #[.agg #[I t, I k, I m], .agg #[I last.tick, I last.ch, I last.amt]] (w3.alloc (.cells #[I t, I k, I m] 100)) fun e w' => e = .returned (.bool (jfol last ⟨t, k, m⟩)) ∧ w'.cell? ⟨w3.heap.size, 0, none⟩ = some (I t) ∧ w'.cell? ⟨w3.heap.size, 1, none⟩ = some (I k) ∧ w'.cell? ⟨w3.heap.size, 2, none⟩ = some (I m) ∧ w3.heap.size < w'.heap.size ∧ Hid (RdAt w w' (.slice ad done.length cp) done last ∧ Blk w' w3.heap.size #[I t, I k, I m] 100)) := by
            refine (follows_any ⟨t, k, m⟩ last _).mono ?_
            rintro e w' ⟨rfl, k'⟩
            have bl := k'.blk (Blk.new w3 #[I t, I k, I m] 100)
            exact ⟨rfl, by rw [bl.cell]; rfl, by rw [bl.cell]; rfl, by rw [bl.cell]; rfl, bl.lt, ((K3.out).on ((Frm.refl _ _).alloc _)).on k', bl⟩
          cases hf : jfol last ⟨t, k, m⟩ with
          | false =>
            rw [hf] at FOL
            have FIN : Hid (∀ W, Hid (RdAt w W (.slice ad done.length cp) done last ∧ Blk W w3.heap.size #[I t, I k, I m] 100) → ReadOut w nch s (.returned (.tuple #[.slice none 0 0, I 0, I ((done.length : Int) + 1)])) W) := fun W hW => BAD1.out _ (done.length + 1) _ (by rw [JJ.out, HY.out, hd]; simp [hf, JR.pushL]) (by omega) (hW.out).1
            clear hd D JJ NEXT BAD1 K2 K3 hf
            go_wp2_with fail
            refine (FOL.out).mono ?_
            rintro e w4 ⟨rfl, v0, v1, v2, v3, K4⟩
            go_wp2_with fail
            go_ret3
            exact FIN.out _ K4
          | true =>
            rw [hf] at FOL
            have NX : Hid (∀ (W w5 : World) (v' : Value), Hid (RdAt w W (.slice ad done.length cp) done last ∧ Blk W w3.heap.size #[I t, I k, I m] 100) → w5.ownsRow 0 100 3 v' (done.length + 1) (done.flatMap dsC ++ [I t, I k, I m]) → W.grownBy w5 (Value.slice ad done.length cp).ownBlock → (v'.ownBlock = (Value.slice ad done.length cp).ownBlock ∨ (v'.ownBlock = some W.heap.size ∧ W.grownBy w5 none)) →
                w5.cell? ⟨w3.heap.size, 0, none⟩ = some (I t) ∧ w5.cell? ⟨w3.heap.size, 1, none⟩ = some (I k) ∧ w5.cell? ⟨w3.heap.size, 2, none⟩ = some (I m) ∧ w5.frozen? ⟨w.heap.size, 0, none⟩ = false ∧ w5.frozen? ⟨w.heap.size, 1, none⟩ = false ∧ w5.frozen? ⟨w.heap.size, 2, none⟩ = false ∧ w.heap.size < w5.heap.size ∧ w5.cell? ⟨w.heap.size, 0, none⟩ = some (I last.tick) ∧ w5.cell? ⟨w.heap.size, 1, none⟩ = some (I last.ch) ∧ w5.cell? ⟨w.heap.size, 2, none⟩ = some (I last.amt) ∧
                Hid (∃ last, RdAt w (((w5.setCell ⟨w.heap.size, 0, none⟩ (I t)).setCell ⟨w.heap.size, 1, none⟩ (I k)).setCell ⟨w.heap.size, 2, none⟩ (I m)) v' (done ++ [⟨t, k, m⟩]) last ∧ JMid nch (done ++ [⟨t, k, m⟩]) last ∧ jread nch ds0 s = JR.pushL (done ++ [⟨t, k, m⟩]) (jread nch last r))) := by
              intro W w5 v' hW h4 h5 h6
              have hdb : ¬ (Value.slice ad done.length cp).ownBlock = some w3.heap.size := fun e => Nat.lt_irrefl _ ((K3.out).row.lt _ e).2
              have b1 := (hW.out).2.frm (grown_frm h5) hdb
              have b2 := (hW.out).1.lst.frm (grown_frm h5) (fun e => Nat.lt_irrefl _ ((hW.out).1.new _ e))
              exact ⟨by rw [b1.cell]; rfl, by rw [b1.cell]; rfl, by rw [b1.cell]; rfl, b2.frozen 0, b2.frozen 1, b2.frozen 2, b2.lt, by rw [b2.cell]; rfl, by rw [b2.cell]; rfl, by rw [b2.cell]; rfl, NEXT.out ⟨t, k, m⟩ W w5 v' HY.out hd hf (hide (hW.out).1) h4 h5 h6⟩
            have KA : Hid (∀ W, Hid (RdAt w W (.slice ad done.length cp) done last ∧ Blk W w3.heap.size #[I t, I k, I m] 100) → Hid (RdAt w (W.alloc (.cells #[I t, I k, I m] 100)) (.slice ad done.length cp) done last ∧ Blk (W.alloc (.cells #[I t, I k, I m] 100)) w3.heap.size #[I t, I k, I m] 100)) := fun W hW =>
              ⟨(hW.out).1.on ((Frm.refl _ _).alloc _), (show Keep W _ from (Frm.refl _ _).alloc _).blk (hW.out).2⟩
            clear hd D JJ NEXT BAD1 K2 K3 hf
            go_wp2_with fail
            refine (FOL.out).mono ?_
            rintro e w4 ⟨rfl, v0, v1, v2, v3, K4⟩
            have K5 := KA.out _ K4
            go_wp2_with (at_builtin; refine wpList_append_row _ rfl (.tmp 61) (.tmp 63) 35 rfl 100 i (.agg #[I 0, I 0, I 0]) 3 24 Tryz.underlying35 hi hz0 hz1 hz2 rfl (by decide) (.slice ad done.length cp) done.length (done.flatMap dsC) rfl (by exact (K5.out).1.row) ⟨w4.heap.size, 0, none⟩ 1 1 [I t, I k, I m] rfl rfl (by exact cell_news _ [I t, I k, I m] _ _ rfl) (by intro u hu; simp at hu; rcases hu with rfl | rfl | rfl <;> rfl) (by unfold maxLen; omega) (by omega) ?_; intro v5 w5 hown5 hgr5 hnew5; obtain ⟨a5, cp5, hv5⟩ := row_slice hown5; obtain ⟨u0, u1, u2, g0, g1, g2, g3, g4, g5, g6, G⟩ := NX.out _ w5 v5 K5 hown5 hgr5 hnew5; subst hv5; clear hown5 hgr5 hnew5)
            go_roundg r.length
            case measure => omega
            case rel => exact ⟨r, done ++ [⟨t, k, m⟩], a5, cp5, rfl, by omega, rfl, by simp, by simp, by rw [show (done ++ [(⟨t, k, m⟩ : Ds)]).length = done.length + 1 from by simp]; exact G⟩

end Go.Proofs.YtpilmkipbbengaaGreatDoor
