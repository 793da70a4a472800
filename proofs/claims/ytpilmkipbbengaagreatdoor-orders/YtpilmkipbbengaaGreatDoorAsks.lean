/- driplaw: asks, moves. -/
import Derived.Test.YtpilmkipbbengaaGreatDoorMakes
namespace Go.Proofs.YtpilmkipbbengaaGreatDoor
open Go.RowKit

theorem basalR_ok {R : RSt} (ok : R.Ok) (hf : R.Full) (k rate ticks : Int) : (basalR R k rate ticks).Ok ∧ (basalR R k rate ticks).Full := by
  unfold basalR
  split
  · exact ⟨ok, hf⟩
  · rename_i hb
    have hb' : basalBad R k rate ticks = false := by simpa using hb
    simp only [basalBad, Bool.or_eq_false_iff] at hb'
    obtain ⟨⟨⟨⟨-, h2⟩, h3⟩, h4⟩, h5⟩ := hb'
    simp at h2 h3 h4 h5
    unfold rbasal
    split
    · exact ⟨ok, hf⟩
    · rename_i c hc
      have n0 := ok.now0
      have n1 := ok.now1
      refine ⟨⟨ok.lims, ok.nl, ok.doses, ok.nd, ok.now0, ok.now1, by simpa using ok.nc0, by simpa using ok.nc1, ?_, ok.no, ok.os⟩, hf⟩
      intro x hx
      rcases List.mem_or_eq_of_mem_set hx with hx | rfl
      · exact ok.chs x hx
      · have hcc := ok.chs c (List.mem_of_getElem? hc)
        refine ⟨h2, h3, ?_, ?_, hcc.2.2.2.2⟩
        · simp only; split <;> omega
        · simp only; split <;> omega

/-- one pump, then the other one, has moved -/
theorem WSt.both {pa : Rep} {fN fB fR fO fW : FuncId} {B : Nat} {w w1 w2 w3 w4 : World} {wb : Nat} {vp vd vl vm : Value} {ds : List Value} {ms : List Int} {ls : List Value} {ps : List PR} (P : Pumpy fN fB fR fO fW pa) (h : WSt pa B w wb vp vd vl vm ds ms ls ps) (heq : ∀ (j : Nat) (q : PR), ps[j]? = some q → q.rx = q.ry)
    {i : Nat} {p : PR} (hp : ps[i]? = some p) {R' : RSt} (k1 : Keep w w1) (m1 : Moved pa w1 p.fx p.x R' w2) (m2 : Moved ra w2 p.fy p.y R' w3) (k4 : Keep w3 w4) (ok : R'.Ok ∧ R'.Full) : StepEnd pa B w wb ds.length ls.length ps.length ps w4 := by
  obtain ⟨f1, F1, r1, n1⟩ := m1
  obtain ⟨f2, F2, r2, n2⟩ := m2
  have h1 := WSt.keep P h k1
  have h2 := WSt.moveX P h1 hp f1 r1 n1 ok
  have hi : i < ps.length := (List.getElem?_eq_some_iff.1 hp).1
  have hp2 : (ps.set i { p with fx := F1, rx := R' })[i]? = some { p with fx := F1, rx := R' } := by simp [hi]
  have h3 := WSt.moveY P h2 hp2 f2 r2 n2 ok
  refine ⟨vp, vd, vl, vm, ds, ms, ls, _, WSt.keep P h3 k4, by omega, by omega, by simp, ?_, ?_⟩
  · intro j q hq
    rcases set_get hp2 hq with ⟨rfl, rfl⟩ | ⟨hne, hq'⟩
    · rfl
    · rcases set_get hp hq' with ⟨e', -⟩ | ⟨-, hq2⟩
      · exact absurd e' hne
      · exact heq j q hq2
  · have g1 := f1.mono (T := fun x => B ≤ x) (fun x _ e => h.bp i p hp x (Or.inl e))
    have g2 := f2.mono (T := fun x => B ≤ x) (fun x _ e => h.bp i p hp x (Or.inr e))
    exact (((k1.mono (fun _ _ e => e.elim)).trans g1).trans g2).trans2 k4 (fun _ _ e => e.elim)

/-- a step's value -/
abbrev opV (kind p a b c d ch : Int) (sl : Value) (lock : Int) (s : Value) : Value := .agg #[I kind, I p, I a, I b, I c, I d, I ch, sl, I lock, s]
abbrev prV (p : PR) : Value := .agg #[.pointer (some ⟨p.x, 0, none⟩), .pointer (some ⟨p.y, 0, none⟩)]

set_option maxRecDepth 100000 in
set_option maxHeartbeats 1600000 in
theorem moves_basal (pa : Rep) (P : Pumpy 25 32 46 14 78 pa) (B : Nat) (wb : Nat) (vp vd vl vm : Value) (ds : List Value) (ms : List Int) (ls : List Value) (ps : List PR) (i : Nat) (p : PR) (pp a b c d ch : Int) (al : Option Addr) (nl cl : Nat) (lock : Int) (s : ByteArray) (w : World)
    (h : WSt pa B w wb vp vd vl vm ds ms ls ps) (hp : ps[i]? = some p) (heq : ∀ (j : Nat) (q : PR), ps[j]? = some q → q.rx = q.ry) :
    Calls Tryz.prog 42 #[prV p, opV 2 pp a b c d ch (.slice al nl cl) lock (.string s)] w fun r w' => r = .returned (.bool true) ∧ StepEnd pa B w wb ds.length ls.length ps.length ps w' := by
  obtain ⟨ok1, ok2, ok3, ok4⟩ := h.ok i p hp
  have hR := heq i p hp
  have cx := fun (W : World) (k : Keep w W) => P.basal a b c W p.fx p.x p.rx ((WSt.keep P h k).rx i p hp) ok1 ok2
  have cy := fun (W W2 : World) (k : Keep w W) (f : Frm p.fx W W2) => ref_pumpy.basal a b c W2 p.fy p.y p.ry (ref_pumpy.frm ((WSt.keep P h k).ry i p hp) f (fun x hx e => h.xy i p hp x e hx)) ok3 ok4
  rw [← hR] at cy
  have CX := hide cx
  have CY := hide cy
  have H := hide (And.intro h (And.intro hp heq))
  have OK := hide (basalR_ok ok1 ok2 a b c)
  have hlt := WSt.ltF P h hp
  have HLT := hide hlt
  clear h cx cy ok1 ok2 ok3 ok4 hR hp heq hlt
  generalize basalErr p.rx a b c = er at *
  have hee : (er == er) = true := by simp
  go_enter Tryz.func42, Tryz.ntmps42
  go_wp2_with fail
  refine (CX.out _ (by exact ((Frm.refl _ _).alloc _).alloc _)).mono ?_
  rintro e w2 ⟨rfl, m1⟩
  have f1 := m1.1
  have bp : Blk w2 w.heap.size #[.pointer (some ⟨p.x, 0, none⟩), .pointer (some ⟨p.y, 0, none⟩)] 92 := ((Blk.new _ _ _).alloc _).frm f1 (fun e => by have := HLT.out _ (Or.inl e); omega)
  have bo : Blk w2 (w.heap.size + 1) #[I 2, I pp, I a, I b, I c, I d, I ch, .slice al nl cl, I lock, .string s] 62 := by
    have := (Blk.new (w.alloc (.cells #[.pointer (some ⟨p.x, 0, none⟩), .pointer (some ⟨p.y, 0, none⟩)] 92)) #[I 2, I pp, I a, I b, I c, I d, I ch, .slice al nl cl, I lock, .string s] 62).frm f1 (fun e => by have := HLT.out _ (Or.inl e); simp at this; omega)
    simpa using this
  have p1 : w2.cell? ⟨w.heap.size, 1, none⟩ = some (.pointer (some ⟨p.y, 0, none⟩)) := by rw [bp.cell]; rfl
  have o2 : w2.cell? ⟨w.heap.size + 1, 2, none⟩ = some (I a) := by rw [bo.cell]; rfl
  have o3 : w2.cell? ⟨w.heap.size + 1, 3, none⟩ = some (I b) := by rw [bo.cell]; rfl
  have o4 : w2.cell? ⟨w.heap.size + 1, 4, none⟩ = some (I c) := by rw [bo.cell]; rfl
  have M1 := hide m1
  clear m1 bp bo
  go_wp2_with fail
  refine (CY.out _ w2 (by exact ((Frm.refl _ _).alloc _).alloc _) f1).mono ?_
  rintro e w3 ⟨rfl, m2⟩
  have M2 := hide m2
  clear m2
  go_wp2_with (go_at_call 72; refine (num_any _ _).mono ?_; rintro e w7 ⟨rfl, hw7⟩; have hw8 := hw7.symm; subst hw8)
  go_ret
  exact ⟨rfl, WSt.both P (H.out).1 (H.out).2.2 (H.out).2.1 (((Frm.refl _ _).alloc _).alloc _) M1.out M2.out (Frm.refl _ _) OK.out⟩

set_option maxRecDepth 100000 in
set_option maxHeartbeats 1600000 in
theorem asks_room (pa : Rep) (P : Pumpy 25 32 46 14 78 pa) (B : Nat) (wb : Nat) (vp vd vl vm : Value) (ds : List Value) (ms : List Int) (ls : List Value) (ps : List PR) (i : Nat) (p : PR) (pp a b c d ch : Int) (al : Option Addr) (nl cl : Nat) (lock : Int) (s : ByteArray) (w : World)
    (h : WSt pa B w wb vp vd vl vm ds ms ls ps) (hp : ps[i]? = some p) (heq : ∀ (j : Nat) (q : PR), ps[j]? = some q → q.rx = q.ry) :
    Calls Tryz.prog 41 #[prV p, opV 4 pp a b c d ch (.slice al nl cl) lock (.string s)] w fun r w' => r = .returned (.bool true) ∧ StepEnd pa B w wb ds.length ls.length ps.length ps w' := by
  obtain ⟨ok1, ok2, ok3, ok4⟩ := h.ok i p hp
  have hR := heq i p hp
  have cx := fun (W : World) (k : Keep w W) => P.room a W p.fx p.x p.rx ((WSt.keep P h k).rx i p hp) ok1 ok2
  have cy := fun (W W2 : World) (k : Keep w W) (f : Frm p.fx W W2) => ref_pumpy.room a W2 p.fy p.y p.ry (ref_pumpy.frm ((WSt.keep P h k).ry i p hp) f (fun x hx e => h.xy i p hp x e hx)) ok3 ok4
  rw [← hR] at cy
  have CX := hide cx
  have CY := hide cy
  have H := hide (And.intro h (And.intro hp heq))
  have OK := hide (And.intro ok1 ok2)
  have hlt := WSt.ltF P h hp
  have HLT := hide hlt
  clear h cx cy ok1 ok2 ok3 ok4 hR hp heq hlt
  have hv : ∃ x er, roomV p.rx a = .tuple #[I x, I er] := by unfold roomV; split; exact ⟨_, _, rfl⟩; exact ⟨_, _, rfl⟩
  obtain ⟨x, er, hv⟩ := hv
  rw [hv] at CX CY
  clear hv
  have hee : (er == er) = true := by simp
  have hxx : (x == x) = true := by simp
  go_enter Tryz.func41, Tryz.ntmps41
  go_wp2_with fail
  refine (CX.out _ (by exact ((Frm.refl _ _).alloc _).alloc _)).mono ?_
  rintro e w2 ⟨rfl, m1⟩
  have f1 := m1.1
  have bp : Blk w2 w.heap.size #[.pointer (some ⟨p.x, 0, none⟩), .pointer (some ⟨p.y, 0, none⟩)] 92 := ((Blk.new _ _ _).alloc _).frm f1 (fun e => by have := HLT.out _ (Or.inl e); omega)
  have bo : Blk w2 (w.heap.size + 1) #[I 4, I pp, I a, I b, I c, I d, I ch, .slice al nl cl, I lock, .string s] 62 := by
    have := (Blk.new (w.alloc (.cells #[.pointer (some ⟨p.x, 0, none⟩), .pointer (some ⟨p.y, 0, none⟩)] 92)) #[I 4, I pp, I a, I b, I c, I d, I ch, .slice al nl cl, I lock, .string s] 62).frm f1 (fun e => by have := HLT.out _ (Or.inl e); simp at this; omega)
    simpa using this
  have p1 : w2.cell? ⟨w.heap.size, 1, none⟩ = some (.pointer (some ⟨p.y, 0, none⟩)) := by rw [bp.cell]; rfl
  have o2 : w2.cell? ⟨w.heap.size + 1, 2, none⟩ = some (I a) := by rw [bo.cell]; rfl
  have M1 := hide m1
  clear m1 bp bo
  go_wp2_with fail
  refine (CY.out _ w2 (by exact ((Frm.refl _ _).alloc _).alloc _) f1).mono ?_
  rintro e w3 ⟨rfl, m2⟩
  have M2 := hide m2
  clear m2
  go_wp2_with (go_at_call 72; refine (num_any _ _).mono ?_; rintro e w7 ⟨rfl, hw7⟩; have hw8 := hw7.symm; subst hw8)
  go_ret
  exact ⟨rfl, WSt.both P (H.out).1 (H.out).2.2 (H.out).2.1 (((Frm.refl _ _).alloc _).alloc _) M1.out M2.out (Frm.refl _ _) OK.out⟩

set_option maxRecDepth 100000 in
set_option maxHeartbeats 1600000 in
theorem asks_wait (pa : Rep) (P : Pumpy 25 32 46 14 78 pa) (B : Nat) (wb : Nat) (vp vd vl vm : Value) (ds : List Value) (ms : List Int) (ls : List Value) (ps : List PR) (i : Nat) (p : PR) (pp a b c d ch : Int) (al : Option Addr) (nl cl : Nat) (lock : Int) (s : ByteArray) (w : World)
    (h : WSt pa B w wb vp vd vl vm ds ms ls ps) (hp : ps[i]? = some p) (heq : ∀ (j : Nat) (q : PR), ps[j]? = some q → q.rx = q.ry) :
    Calls Tryz.prog 41 #[prV p, opV 5 pp a b c d ch (.slice al nl cl) lock (.string s)] w fun r w' => r = .returned (.bool true) ∧ StepEnd pa B w wb ds.length ls.length ps.length ps w' := by
  obtain ⟨ok1, ok2, ok3, ok4⟩ := h.ok i p hp
  have hR := heq i p hp
  have cx := fun (W : World) (k : Keep w W) => P.wait a b W p.fx p.x p.rx ((WSt.keep P h k).rx i p hp) ok1 ok2
  have cy := fun (W W2 : World) (k : Keep w W) (f : Frm p.fx W W2) => ref_pumpy.wait a b W2 p.fy p.y p.ry (ref_pumpy.frm ((WSt.keep P h k).ry i p hp) f (fun x hx e => h.xy i p hp x e hx)) ok3 ok4
  rw [← hR] at cy
  have CX := hide cx
  have CY := hide cy
  have H := hide (And.intro h (And.intro hp heq))
  have OK := hide (And.intro ok1 ok2)
  have hlt := WSt.ltF P h hp
  have HLT := hide hlt
  clear h cx cy ok1 ok2 ok3 ok4 hR hp heq hlt
  go_enter Tryz.func41, Tryz.ntmps41
  go_wp2_with fail
  refine (CX.out _ (by exact ((Frm.refl _ _).alloc _).alloc _)).mono ?_
  rintro e w2 ⟨hwo, m1⟩
  have hex : ∃ x y er, e = .returned (.tuple #[I x, .bool y, I er]) := by
    rcases hwo with ⟨-, rfl⟩ | ⟨-, -, -, r, rfl, -⟩
    · exact ⟨_, _, _, rfl⟩
    · cases r with
      | none => exact ⟨_, _, _, rfl⟩
      | some n => exact ⟨_, _, _, rfl⟩
  obtain ⟨x, y, er, rfl⟩ := hex
  have hee : (er == er) = true := by simp
  have hxx : (x == x) = true := by simp
  have hyy : (y == y) = true := by simp
  have HWO := hide hwo
  clear hwo
  have f1 := m1.1
  have bp : Blk w2 w.heap.size #[.pointer (some ⟨p.x, 0, none⟩), .pointer (some ⟨p.y, 0, none⟩)] 92 := ((Blk.new _ _ _).alloc _).frm f1 (fun e => by have := HLT.out _ (Or.inl e); omega)
  have bo : Blk w2 (w.heap.size + 1) #[I 5, I pp, I a, I b, I c, I d, I ch, .slice al nl cl, I lock, .string s] 62 := by
    have := (Blk.new (w.alloc (.cells #[.pointer (some ⟨p.x, 0, none⟩), .pointer (some ⟨p.y, 0, none⟩)] 92)) #[I 5, I pp, I a, I b, I c, I d, I ch, .slice al nl cl, I lock, .string s] 62).frm f1 (fun e => by have := HLT.out _ (Or.inl e); simp at this; omega)
    simpa using this
  have p1 : w2.cell? ⟨w.heap.size, 1, none⟩ = some (.pointer (some ⟨p.y, 0, none⟩)) := by rw [bp.cell]; rfl
  have o2 : w2.cell? ⟨w.heap.size + 1, 2, none⟩ = some (I a) := by rw [bo.cell]; rfl
  have o3 : w2.cell? ⟨w.heap.size + 1, 3, none⟩ = some (I b) := by rw [bo.cell]; rfl
  have M1 := hide m1
  clear m1 bp bo
  go_wp2_with fail
  refine (CY.out _ w2 (by exact ((Frm.refl _ _).alloc _).alloc _) f1).mono ?_
  rintro e w3 ⟨hwo2, m2⟩
  have hsame := waitOut_unique hwo2 HWO.out
  subst hsame
  clear hwo2
  have M2 := hide m2
  clear m2
  go_wp2_with (go_at_call 72; refine (num_any _ _).mono ?_; rintro e w7 ⟨rfl, hw7⟩; have hw8 := hw7.symm; subst hw8)
  go_ret
  exact ⟨rfl, WSt.both P (H.out).1 (H.out).2.2 (H.out).2.1 (((Frm.refl _ _).alloc _).alloc _) M1.out M2.out (Frm.refl _ _) OK.out⟩

end Go.Proofs.YtpilmkipbbengaaGreatDoor
