/- driplaw: asks, moves: orders, demands, rests. -/
import Derived.Test.YtpilmkipbbengaaGreatDoorWrM
import Derived.Test.YtpilmkipbbengaaGreatDoorOrdM
import Derived.Test.YtpilmkipbbengaaGreatDoorStpM
import Derived.Deep.RegionHeld3
namespace Go.Proofs.YtpilmkipbbengaaGreatDoor
open Go.RowKit

set_option maxRecDepth 100000 in
set_option maxHeartbeats 1600000 in
theorem moves_order (pa : Rep) (P : Pumpy 25 32 46 14 78 pa) (O : Orderly 34 35 47 21 15 pa) (B : Nat) (wb : Nat) (vp vd vl vm : Value) (ds : List Value) (ms : List Int) (ls : List Value) (ps : List PR) (i : Nat) (p : PR) (pp a b c d ch : Int) (al : Option Addr) (nl cl : Nat) (lock : Int) (s : ByteArray) (w : World)
    (h : WSt pa B w wb vp vd vl vm ds ms ls ps) (hp : ps[i]? = some p) (heq : ∀ (j : Nat) (q : PR), ps[j]? = some q → q.rx = q.ry) :
    Calls Tryz.prog 42 #[prV p, opV 6 pp a b c d ch (.slice al nl cl) lock (.string s)] w fun r w' => r = .returned (.bool true) ∧ StepEnd pa B w wb ds.length ls.length ps.length ps w' := by
  obtain ⟨ok1, ok2, ok3, ok4⟩ := h.ok i p hp
  have hR := heq i p hp
  have cx := fun (W : World) (k : Keep w W) => O.order a b c d W p.fx p.x p.rx ((WSt.keep P h k).rx i p hp) ok1 ok2
  have cy := fun (W W2 : World) (k : Keep w W) (f : Frm p.fx W W2) => ref_orderly.order a b c d W2 p.fy p.y p.ry (ref_pumpy.frm ((WSt.keep P h k).ry i p hp) f (fun x hx e => h.xy i p hp x e hx)) ok3 ok4
  rw [← hR] at cy
  have CX := hide cx
  have CY := hide cy
  have H := hide (And.intro h (And.intro hp heq))
  have OK := hide (orderR_ok ok1 ok2 a b c d)
  have hlt := WSt.ltF P h hp
  have HLT := hide hlt
  clear h cx cy ok1 ok2 ok3 ok4 hR hp heq hlt
  generalize orderN p.rx a b c d = nn at *
  have hnn : (nn == nn) = true := by simp
  generalize orderErr p.rx a b c d = er at *
  have her : (er == er) = true := by simp
  go_enter Tryz.func42, Tryz.ntmps42
  go_wp2_with fail
  refine (CX.out _ (by exact ((Frm.refl _ _).alloc _).alloc _)).mono ?_
  rintro e w2 ⟨rfl, m1⟩
  have f1 := m1.1
  have bp : Blk w2 w.heap.size #[.pointer (some ⟨p.x, 0, none⟩), .pointer (some ⟨p.y, 0, none⟩)] 92 := ((Blk.new _ _ _).alloc _).frm f1 (fun e => by have := HLT.out _ (Or.inl e); omega)
  have bo : Blk w2 (w.heap.size + 1) #[I 6, I pp, I a, I b, I c, I d, I ch, .slice al nl cl, I lock, .string s] 62 := by
    have := (Blk.new (w.alloc (.cells #[.pointer (some ⟨p.x, 0, none⟩), .pointer (some ⟨p.y, 0, none⟩)] 92)) #[I 6, I pp, I a, I b, I c, I d, I ch, .slice al nl cl, I lock, .string s] 62).frm f1 (fun e => by have := HLT.out _ (Or.inl e); simp at this; omega)
    simpa using this
  have p1 : w2.cell? ⟨w.heap.size, 1, none⟩ = some (.pointer (some ⟨p.y, 0, none⟩)) := by rw [bp.cell]; rfl
  have o2 : w2.cell? ⟨w.heap.size + 1, 2, none⟩ = some (I a) := by rw [bo.cell]; rfl
  have o3 : w2.cell? ⟨w.heap.size + 1, 3, none⟩ = some (I b) := by rw [bo.cell]; rfl
  have o4 : w2.cell? ⟨w.heap.size + 1, 4, none⟩ = some (I c) := by rw [bo.cell]; rfl
  have o5 : w2.cell? ⟨w.heap.size + 1, 5, none⟩ = some (I d) := by rw [bo.cell]; rfl
  have M1 := hide m1
  clear m1 bp bo
  go_wp2_with fail
  refine (CY.out _ w2 (by exact ((Frm.refl _ _).alloc _).alloc _) f1).mono ?_
  rintro e w3 ⟨rfl, m2⟩
  have M2 := hide m2
  clear m2
  go_wp2_with (go_at_call 72; refine (num_any _ _).mono ?_; rintro e w7 ⟨rfl, hw7⟩; have hw8 := hw7.symm; subst hw8)
  go_ret
  exact ⟨rfl, WSt.both P (H.out).1 (H.out).2.2 (H.out).2.1 (((Frm.refl _ _).alloc _).alloc _) M1.out M2.out (Frm.refl _ _) OK.out⟩

set_option maxRecDepth 100000 in
set_option maxHeartbeats 1600000 in
theorem moves_demand (pa : Rep) (P : Pumpy 25 32 46 14 78 pa) (O : Orderly 34 35 47 21 15 pa) (B : Nat) (wb : Nat) (vp vd vl vm : Value) (ds : List Value) (ms : List Int) (ls : List Value) (ps : List PR) (i : Nat) (p : PR) (pp a b c d ch : Int) (al : Option Addr) (nl cl : Nat) (lock : Int) (s : ByteArray) (w : World)
    (h : WSt pa B w wb vp vd vl vm ds ms ls ps) (hp : ps[i]? = some p) (heq : ∀ (j : Nat) (q : PR), ps[j]? = some q → q.rx = q.ry) :
    Calls Tryz.prog 42 #[prV p, opV 7 pp a b c d ch (.slice al nl cl) lock (.string s)] w fun r w' => r = .returned (.bool true) ∧ StepEnd pa B w wb ds.length ls.length ps.length ps w' := by
  obtain ⟨ok1, ok2, ok3, ok4⟩ := h.ok i p hp
  have hR := heq i p hp
  have cx := fun (W : World) (k : Keep w W) => O.demand a b W p.fx p.x p.rx ((WSt.keep P h k).rx i p hp) ok1 ok2
  have cy := fun (W W2 : World) (k : Keep w W) (f : Frm p.fx W W2) => ref_orderly.demand a b W2 p.fy p.y p.ry (ref_pumpy.frm ((WSt.keep P h k).ry i p hp) f (fun x hx e => h.xy i p hp x e hx)) ok3 ok4
  rw [← hR] at cy
  have CX := hide cx
  have CY := hide cy
  have H := hide (And.intro h (And.intro hp heq))
  have OK := hide (demandR_ok ok1 ok2 a b)
  have hlt := WSt.ltF P h hp
  have HLT := hide hlt
  clear h cx cy ok1 ok2 ok3 ok4 hR hp heq hlt
  generalize demandN p.rx a b = nn at *
  have hnn : (nn == nn) = true := by simp
  generalize demandErr p.rx a b = er at *
  have her : (er == er) = true := by simp
  go_enter Tryz.func42, Tryz.ntmps42
  go_wp2_with fail
  refine (CX.out _ (by exact ((Frm.refl _ _).alloc _).alloc _)).mono ?_
  rintro e w2 ⟨rfl, m1⟩
  have f1 := m1.1
  have bp : Blk w2 w.heap.size #[.pointer (some ⟨p.x, 0, none⟩), .pointer (some ⟨p.y, 0, none⟩)] 92 := ((Blk.new _ _ _).alloc _).frm f1 (fun e => by have := HLT.out _ (Or.inl e); omega)
  have bo : Blk w2 (w.heap.size + 1) #[I 7, I pp, I a, I b, I c, I d, I ch, .slice al nl cl, I lock, .string s] 62 := by
    have := (Blk.new (w.alloc (.cells #[.pointer (some ⟨p.x, 0, none⟩), .pointer (some ⟨p.y, 0, none⟩)] 92)) #[I 7, I pp, I a, I b, I c, I d, I ch, .slice al nl cl, I lock, .string s] 62).frm f1 (fun e => by have := HLT.out _ (Or.inl e); simp at this; omega)
    simpa using this
  have p1 : w2.cell? ⟨w.heap.size, 1, none⟩ = some (.pointer (some ⟨p.y, 0, none⟩)) := by rw [bp.cell]; rfl
  have o2 : w2.cell? ⟨w.heap.size + 1, 2, none⟩ = some (I a) := by rw [bo.cell]; rfl
  have o3 : w2.cell? ⟨w.heap.size + 1, 3, none⟩ = some (I b) := by rw [bo.cell]; rfl
  have M1 := hide m1
  clear m1 bp bo
  go_wp2_with fail
  refine (CY.out _ w2 (by exact ((Frm.refl _ _).alloc _).alloc _) f1).mono ?_
  rintro e w3 ⟨rfl, m2⟩
  have M2 := hide m2
  clear m2
  go_wp2_with (go_at_call 72; refine (num_any _ _).mono ?_; rintro e w7 ⟨rfl, hw7⟩; have hw8 := hw7.symm; subst hw8)
  go_ret
  exact ⟨rfl, WSt.both P (H.out).1 (H.out).2.2 (H.out).2.1 (((Frm.refl _ _).alloc _).alloc _) M1.out M2.out (Frm.refl _ _) OK.out⟩

set_option maxRecDepth 100000 in
set_option maxHeartbeats 1600000 in
theorem moves_pause (pa : Rep) (P : Pumpy 25 32 46 14 78 pa) (O : Orderly 34 35 47 21 15 pa) (B : Nat) (wb : Nat) (vp vd vl vm : Value) (ds : List Value) (ms : List Int) (ls : List Value) (ps : List PR) (i : Nat) (p : PR) (pp a b c d ch : Int) (al : Option Addr) (nl cl : Nat) (lock : Int) (s : ByteArray) (w : World)
    (h : WSt pa B w wb vp vd vl vm ds ms ls ps) (hp : ps[i]? = some p) (heq : ∀ (j : Nat) (q : PR), ps[j]? = some q → q.rx = q.ry) :
    Calls Tryz.prog 42 #[prV p, opV 9 pp a b c d ch (.slice al nl cl) lock (.string s)] w fun r w' => r = .returned (.bool true) ∧ StepEnd pa B w wb ds.length ls.length ps.length ps w' := by
  obtain ⟨ok1, ok2, ok3, ok4⟩ := h.ok i p hp
  have hR := heq i p hp
  have cx := fun (W : World) (k : Keep w W) => O.pause a W p.fx p.x p.rx ((WSt.keep P h k).rx i p hp) ok1 ok2
  have cy := fun (W W2 : World) (k : Keep w W) (f : Frm p.fx W W2) => ref_orderly.pause a W2 p.fy p.y p.ry (ref_pumpy.frm ((WSt.keep P h k).ry i p hp) f (fun x hx e => h.xy i p hp x e hx)) ok3 ok4
  rw [← hR] at cy
  have CX := hide cx
  have CY := hide cy
  have H := hide (And.intro h (And.intro hp heq))
  have OK := hide (restsR_ok ok1 ok2 a true)
  have hlt := WSt.ltF P h hp
  have HLT := hide hlt
  clear h cx cy ok1 ok2 ok3 ok4 hR hp heq hlt
  generalize restsErr p.rx a true = er at *
  have her : (er == er) = true := by simp
  go_enter Tryz.func42, Tryz.ntmps42
  go_wp2_with fail
  refine (CX.out _ (by exact ((Frm.refl _ _).alloc _).alloc _)).mono ?_
  rintro e w2 ⟨rfl, m1⟩
  have f1 := m1.1
  have bp : Blk w2 w.heap.size #[.pointer (some ⟨p.x, 0, none⟩), .pointer (some ⟨p.y, 0, none⟩)] 92 := ((Blk.new _ _ _).alloc _).frm f1 (fun e => by have := HLT.out _ (Or.inl e); omega)
  have bo : Blk w2 (w.heap.size + 1) #[I 9, I pp, I a, I b, I c, I d, I ch, .slice al nl cl, I lock, .string s] 62 := by
    have := (Blk.new (w.alloc (.cells #[.pointer (some ⟨p.x, 0, none⟩), .pointer (some ⟨p.y, 0, none⟩)] 92)) #[I 9, I pp, I a, I b, I c, I d, I ch, .slice al nl cl, I lock, .string s] 62).frm f1 (fun e => by have := HLT.out _ (Or.inl e); simp at this; omega)
    simpa using this
  have p1 : w2.cell? ⟨w.heap.size, 1, none⟩ = some (.pointer (some ⟨p.y, 0, none⟩)) := by rw [bp.cell]; rfl
  have o2 : w2.cell? ⟨w.heap.size + 1, 2, none⟩ = some (I a) := by rw [bo.cell]; rfl
  have M1 := hide m1
  clear m1 bp bo
  go_wp2_with fail
  refine (CY.out _ w2 (by exact ((Frm.refl _ _).alloc _).alloc _) f1).mono ?_
  rintro e w3 ⟨rfl, m2⟩
  have M2 := hide m2
  clear m2
  go_wp2_with (go_at_call 72; refine (num_any _ _).mono ?_; rintro e w7 ⟨rfl, hw7⟩; have hw8 := hw7.symm; subst hw8)
  go_ret
  exact ⟨rfl, WSt.both P (H.out).1 (H.out).2.2 (H.out).2.1 (((Frm.refl _ _).alloc _).alloc _) M1.out M2.out (Frm.refl _ _) OK.out⟩

set_option maxRecDepth 100000 in
set_option maxHeartbeats 1600000 in
theorem moves_resume (pa : Rep) (P : Pumpy 25 32 46 14 78 pa) (O : Orderly 34 35 47 21 15 pa) (B : Nat) (wb : Nat) (vp vd vl vm : Value) (ds : List Value) (ms : List Int) (ls : List Value) (ps : List PR) (i : Nat) (p : PR) (pp a b c d ch : Int) (al : Option Addr) (nl cl : Nat) (lock : Int) (s : ByteArray) (w : World)
    (h : WSt pa B w wb vp vd vl vm ds ms ls ps) (hp : ps[i]? = some p) (heq : ∀ (j : Nat) (q : PR), ps[j]? = some q → q.rx = q.ry) :
    Calls Tryz.prog 42 #[prV p, opV 10 pp a b c d ch (.slice al nl cl) lock (.string s)] w fun r w' => r = .returned (.bool true) ∧ StepEnd pa B w wb ds.length ls.length ps.length ps w' := by
  obtain ⟨ok1, ok2, ok3, ok4⟩ := h.ok i p hp
  have hR := heq i p hp
  have cx := fun (W : World) (k : Keep w W) => O.resume a W p.fx p.x p.rx ((WSt.keep P h k).rx i p hp) ok1 ok2
  have cy := fun (W W2 : World) (k : Keep w W) (f : Frm p.fx W W2) => ref_orderly.resume a W2 p.fy p.y p.ry (ref_pumpy.frm ((WSt.keep P h k).ry i p hp) f (fun x hx e => h.xy i p hp x e hx)) ok3 ok4
  rw [← hR] at cy
  have CX := hide cx
  have CY := hide cy
  have H := hide (And.intro h (And.intro hp heq))
  have OK := hide (restsR_ok ok1 ok2 a false)
  have hlt := WSt.ltF P h hp
  have HLT := hide hlt
  clear h cx cy ok1 ok2 ok3 ok4 hR hp heq hlt
  generalize restsErr p.rx a false = er at *
  have her : (er == er) = true := by simp
  go_enter Tryz.func42, Tryz.ntmps42
  go_wp2_with fail
  refine (CX.out _ (by exact ((Frm.refl _ _).alloc _).alloc _)).mono ?_
  rintro e w2 ⟨rfl, m1⟩
  have f1 := m1.1
  have bp : Blk w2 w.heap.size #[.pointer (some ⟨p.x, 0, none⟩), .pointer (some ⟨p.y, 0, none⟩)] 92 := ((Blk.new _ _ _).alloc _).frm f1 (fun e => by have := HLT.out _ (Or.inl e); omega)
  have bo : Blk w2 (w.heap.size + 1) #[I 10, I pp, I a, I b, I c, I d, I ch, .slice al nl cl, I lock, .string s] 62 := by
    have := (Blk.new (w.alloc (.cells #[.pointer (some ⟨p.x, 0, none⟩), .pointer (some ⟨p.y, 0, none⟩)] 92)) #[I 10, I pp, I a, I b, I c, I d, I ch, .slice al nl cl, I lock, .string s] 62).frm f1 (fun e => by have := HLT.out _ (Or.inl e); simp at this; omega)
    simpa using this
  have p1 : w2.cell? ⟨w.heap.size, 1, none⟩ = some (.pointer (some ⟨p.y, 0, none⟩)) := by rw [bp.cell]; rfl
  have o2 : w2.cell? ⟨w.heap.size + 1, 2, none⟩ = some (I a) := by rw [bo.cell]; rfl
  have M1 := hide m1
  clear m1 bp bo
  go_wp2_with fail
  refine (CY.out _ w2 (by exact ((Frm.refl _ _).alloc _).alloc _) f1).mono ?_
  rintro e w3 ⟨rfl, m2⟩
  have M2 := hide m2
  clear m2
  go_wp2_with (go_at_call 72; refine (num_any _ _).mono ?_; rintro e w7 ⟨rfl, hw7⟩; have hw8 := hw7.symm; subst hw8)
  go_ret
  exact ⟨rfl, WSt.both P (H.out).1 (H.out).2.2 (H.out).2.1 (((Frm.refl _ _).alloc _).alloc _) M1.out M2.out (Frm.refl _ _) OK.out⟩

set_option maxRecDepth 100000 in
set_option maxHeartbeats 1600000 in
theorem asks_rest (pa : Rep) (P : Pumpy 25 32 46 14 78 pa) (O : Orderly 34 35 47 21 15 pa) (B : Nat) (wb : Nat) (vp vd vl vm : Value) (ds : List Value) (ms : List Int) (ls : List Value) (ps : List PR) (i : Nat) (p : PR) (pp a b c d ch : Int) (al : Option Addr) (nl cl : Nat) (lock : Int) (s : ByteArray) (w : World)
    (h : WSt pa B w wb vp vd vl vm ds ms ls ps) (hp : ps[i]? = some p) (heq : ∀ (j : Nat) (q : PR), ps[j]? = some q → q.rx = q.ry) :
    Calls Tryz.prog 41 #[prV p, opV 8 pp a b c d ch (.slice al nl cl) lock (.string s)] w fun r w' => r = .returned (.bool true) ∧ StepEnd pa B w wb ds.length ls.length ps.length ps w' := by
  obtain ⟨ok1, ok2, ok3, ok4⟩ := h.ok i p hp
  have hR := heq i p hp
  have cx := fun (W : World) (k : Keep w W) => O.rest a W p.fx p.x p.rx ((WSt.keep P h k).rx i p hp) ok1 ok2
  have cy := fun (W W2 : World) (k : Keep w W) (f : Frm p.fx W W2) => ref_orderly.rest a W2 p.fy p.y p.ry (ref_pumpy.frm ((WSt.keep P h k).ry i p hp) f (fun x hx e => h.xy i p hp x e hx)) ok3 ok4
  rw [← hR] at cy
  have CX := hide cx
  have CY := hide cy
  have H := hide (And.intro h (And.intro hp heq))
  have OK := hide (And.intro ok1 ok2)
  have hlt := WSt.ltF P h hp
  have HLT := hide hlt
  clear h cx cy ok1 ok2 ok3 ok4 hR hp heq hlt
  generalize restV p.rx a = nn at *
  have hnn : (nn == nn) = true := by simp
  generalize restErr p.rx a = er at *
  have her : (er == er) = true := by simp
  go_enter Tryz.func41, Tryz.ntmps41
  go_wp2_with fail
  refine (CX.out _ (by exact ((Frm.refl _ _).alloc _).alloc _)).mono ?_
  rintro e w2 ⟨rfl, m1⟩
  have f1 := m1.1
  have bp : Blk w2 w.heap.size #[.pointer (some ⟨p.x, 0, none⟩), .pointer (some ⟨p.y, 0, none⟩)] 92 := ((Blk.new _ _ _).alloc _).frm f1 (fun e => by have := HLT.out _ (Or.inl e); omega)
  have bo : Blk w2 (w.heap.size + 1) #[I 8, I pp, I a, I b, I c, I d, I ch, .slice al nl cl, I lock, .string s] 62 := by
    have := (Blk.new (w.alloc (.cells #[.pointer (some ⟨p.x, 0, none⟩), .pointer (some ⟨p.y, 0, none⟩)] 92)) #[I 8, I pp, I a, I b, I c, I d, I ch, .slice al nl cl, I lock, .string s] 62).frm f1 (fun e => by have := HLT.out _ (Or.inl e); simp at this; omega)
    simpa using this
  have p1 : w2.cell? ⟨w.heap.size, 1, none⟩ = some (.pointer (some ⟨p.y, 0, none⟩)) := by rw [bp.cell]; rfl
  have o2 : w2.cell? ⟨w.heap.size + 1, 2, none⟩ = some (I a) := by rw [bo.cell]; rfl
  have M1 := hide m1
  clear m1 bp bo
  go_wp2_with fail
  refine (CY.out _ w2 (by exact ((Frm.refl _ _).alloc _).alloc _) f1).mono ?_
  rintro e w3 ⟨rfl, m2⟩
  have M2 := hide m2
  clear m2
  go_wp2_with (go_at_call 72; refine (num_any _ _).mono ?_; rintro e w7 ⟨rfl, hw7⟩; have hw8 := hw7.symm; subst hw8)
  go_ret
  exact ⟨rfl, WSt.both P (H.out).1 (H.out).2.2 (H.out).2.1 (((Frm.refl _ _).alloc _).alloc _) M1.out M2.out (Frm.refl _ _) OK.out⟩

end Go.Proofs.YtpilmkipbbengaaGreatDoor

/- driplaw: step for a pump, the kinds up to KResume. -/
namespace Go.Proofs.YtpilmkipbbengaaGreatDoor
open Go.RowKit

set_option maxRecDepth 100000 in
set_option maxHeartbeats 3200000 in
theorem step_pump10 (pa : Rep) (P : Pumpy 25 32 46 14 78 pa) (O : Orderly 34 35 47 21 15 pa) (B : Nat) (wb : Nat) (vp vd vl vm : Value) (ds : List Value) (ms : List Int) (ls : List Value) (ps : List PR) (kind pp a b c d ch : Int) (al : Option Addr) (nl cl : Nat) (lock : Int) (s : ByteArray) (w : World)
    (h : WSt pa B w wb vp vd vl vm ds ms ls ps) (heq : ∀ (j : Nat) (q : PR), ps[j]? = some q → q.rx = q.ry) (hd : ds.length ≤ 5800000000000) (hl : ls.length ≤ 5800000000000) (hpl : ps.length ≤ 5800000000000) (hne : 0 < ps.length) (hk1 : (kind == 1) = false) (hk5 : kind ≤ 10) (hp1 : -9223372036854775808 ≤ pp) (hp2 : pp ≤ 9223372036854775807) :
    Calls Tryz.prog 18 #[.pointer (some ⟨wb, 0, none⟩), opV kind pp a b c d ch (.slice al nl cl) lock (.string s)] w fun r w' => r = .returned (.bool true) ∧ StepEnd pa B w wb ds.length ls.length ps.length ps w' := by
  obtain ⟨g, cp, hvp, -, -, lg⟩ := row_cells h.pr hne
  have c0 : w.cell? ⟨wb, 0, none⟩ = some vp := by rw [h.L.head.cell]; rfl
  rw [hvp] at c0
  have lw := h.L.head.lt
  have hk12 : (kind == 12) = false := by simp; omega
  have hnz : ((ps.length : Int) == 0) = false := beq_eq_false_iff_ne.2 (by omega)
  have get : ∀ k : Nat, k < ps.length → ∃ q, ps[k]? = some q ∧ w.cell? ⟨g, k * 2, none⟩ = some (.pointer (some ⟨q.x, 0, none⟩)) ∧ w.cell? ⟨g, k * 2 + 1, none⟩ = some (.pointer (some ⟨q.y, 0, none⟩)) := by
    intro k hk
    obtain ⟨q, hq⟩ : ∃ q, ps[k]? = some q := ⟨_, List.getElem?_eq_getElem hk⟩
    obtain ⟨g', cap', hv, -, hc, -⟩ := row_at h.pr (fun _ => rfl) hq (by decide)
    rw [hvp] at hv
    simp at hv
    obtain ⟨rfl, rfl⟩ := hv
    have d0 := hc 0 (by decide)
    have d1 := hc 1 (by decide)
    simp [pairC] at d0 d1
    exact ⟨q, hq, d0, d1⟩
  obtain ⟨fx, hfx⟩ : ∃ fx : Nat → Nat, ∀ (k : Nat) (q : PR), ps[k]? = some q → fx k = q.x := ⟨fun k => match ps[k]? with | some q => q.x | none => 0, by intro k q h; simp [h]⟩
  obtain ⟨fy, hfy⟩ : ∃ fy : Nat → Nat, ∀ (k : Nat) (q : PR), ps[k]? = some q → fy k = q.y := ⟨fun k => match ps[k]? with | some q => q.y | none => 0, by intro k q h; simp [h]⟩
  have g0 : ∀ k : Nat, k < ps.length → w.cell? ⟨g, k * 2, none⟩ = some (.pointer (some ⟨fx k, 0, none⟩)) := by
    intro k hk
    obtain ⟨q, hq, d0, -⟩ := get k hk
    rw [hfx k q hq]; exact d0
  have g1 : ∀ k : Nat, k < ps.length → w.cell? ⟨g, k * 2 + 1, none⟩ = some (.pointer (some ⟨fy k, 0, none⟩)) := by
    intro k hk
    obtain ⟨q, hq, -, d1⟩ := get k hk
    rw [hfy k q hq]; exact d1
  have HF := hide (And.intro hfx hfy)
  have H := hide (And.intro h (And.intro heq hvp))
  have PK := hide (fun W => pick_any pp ps.length W hne (by omega) hp1 hp2)
  clear h heq hvp hp1 hp2 get hfx hfy
  have n1 : g ≠ w.heap.size := by omega
  have n2 : g ≠ w.heap.size + 1 := by omega
  have n3 : wb ≠ w.heap.size := by omega
  have n4 : wb ≠ w.heap.size + 1 := by omega
  go_enter Tryz.func18, Tryz.ntmps18
  go_upto_region 8 with fail
  go_cut [5] from 28 to 41 (fun s5 wx => Hid (∃ (i : Nat) (p : PR) (bx : Nat), s5 = .pointer (some ⟨bx, 0, none⟩) ∧ ps[i]? = some p ∧ Keep w wx ∧ Blk wx w.heap.size #[I kind, I pp, I a, I b, I c, I d, I ch, .slice al nl cl, I lock, .string s] 62 ∧ Blk wx bx #[.pointer (some ⟨p.x, 0, none⟩), .pointer (some ⟨p.y, 0, none⟩)] 92))
  case first =>
    go_region_held3 (fun w' => w'.cell? ⟨wb, 0, none⟩ = some (.slice (some ⟨g, 0, none⟩) ps.length cp) ∧ w'.cell? ⟨w.heap.size, 1, none⟩ = some (I pp) ∧ (∀ k : Nat, k < ps.length → w'.cell? ⟨g, k * 2, none⟩ = some (.pointer (some ⟨fx k, 0, none⟩))) ∧ (∀ k : Nat, k < ps.length → w'.cell? ⟨g, k * 2 + 1, none⟩ = some (.pointer (some ⟨fy k, 0, none⟩)))) (((try dsimp only); (repeat' apply And.intro) <;> (first | (go_keep; done) | (intro k hk; have e1 := g0 k hk; have e2 := g1 k hk; go_keep)))) (first | (go_at_call 39; refine (PK.out _).mono ?_; rintro e w' ⟨⟨k, hk, rfl⟩, hw'⟩; have hw8 := hw'.symm; subst hw8))
    all_goals (go_wp2_with fail; go_meet)
    all_goals
      obtain ⟨q, hq⟩ : ∃ q, ps[k]? = some q := ⟨_, List.getElem?_eq_getElem hk⟩
      have ex := (HF.out).1 k q hq
      have ey := (HF.out).2 k q hq
      rw [ex, ey]
      exact hide ⟨k, q, w.heap.size + 1, rfl, hq, (((Frm.refl _ _).alloc _).alloc _).drew, ((Blk.new _ _ _).alloc _).drew, by
        have hb := (Blk.new (w.alloc (.cells #[I kind, I pp, I a, I b, I c, I d, I ch, .slice al nl cl, I lock, .string s] 62)) #[.pointer (some ⟨q.x, 0, none⟩), .pointer (some ⟨q.y, 0, none⟩)] 92).drew
        simpa using hb⟩
  case rest =>
    obtain ⟨i, p, bx, rfl, hp, kw, bo, bp⟩ := hcut.out
    have o0 := (bo.cell 0).trans (show _ = some (I kind) from rfl)
    have o1 := (bo.cell 1).trans (show _ = some (I pp) from rfl)
    have o2 := (bo.cell 2).trans (show _ = some (I a) from rfl)
    have o3 := (bo.cell 3).trans (show _ = some (I b) from rfl)
    have o4 := (bo.cell 4).trans (show _ = some (I c) from rfl)
    have o5 := (bo.cell 5).trans (show _ = some (I d) from rfl)
    have o6 := (bo.cell 6).trans (show _ = some (I ch) from rfl)
    have o7 := (bo.cell 7).trans (show _ = some (Value.slice al nl cl) from rfl)
    have o8 := (bo.cell 8).trans (show _ = some (I lock) from rfl)
    have o9 := (bo.cell 9).trans (show _ = some (Value.string s) from rfl)
    have p0 := (bp.cell 0).trans (show _ = some (Value.pointer (some ⟨p.x, 0, none⟩)) from rfl)
    have p1 := (bp.cell 1).trans (show _ = some (Value.pointer (some ⟨p.y, 0, none⟩)) from rfl)
    have hk : kind = 2 ∨ kind = 3 ∨ kind = 4 ∨ kind = 5 ∨ kind = 6 ∨ kind = 7 ∨ kind = 8 ∨ kind = 9 ∨ kind = 10 ∨ kind ≤ 0 := by
      have : kind ≠ 1 := by simpa using hk1
      omega
    have KW := hide kw
    have HP := hide hp
    have HD := hide (And.intro hd hl)
    clear hk1 hk12 hk5 c0 lw hnz g0 g1 HF PK n1 n2 n3 n4 lg hne kw hp bo bp hcut hd hl hpl
    rcases hk with hk | hk | hk | hk | hk | hk | hk | hk | hk | hk
    · subst hk
      have C := hide (fun W hw => moves_basal pa P B wb vp vd vl vm ds ms ls ps i p pp a b c d ch al nl cl lock s W hw HP.out (H.out).2.1)
      go_wp2_with fail
      refine (C.out _ (WSt.keep P (H.out).1 KW.out)).mono ?_
      rintro e w2 ⟨rfl, hs⟩
      go_wp2_with fail
      go_ret
      exact ⟨rfl, hs.after KW.out⟩
    · subst hk
      have C := hide (fun W hw => runs_any pa P B wb vp vd vl vm ds ms ls ps i p a W hw HP.out (H.out).2.1 (HD.out).1 (HD.out).2)
      go_wp2_with fail
      refine (C.out _ (WSt.keep P (H.out).1 KW.out)).mono ?_
      rintro e w2 ⟨rfl, hs⟩
      go_wp2_with fail
      go_ret
      exact ⟨rfl, hs.after KW.out⟩
    · subst hk
      have C := hide (fun W hw => asks_room pa P B wb vp vd vl vm ds ms ls ps i p pp a b c d ch al nl cl lock s W hw HP.out (H.out).2.1)
      go_wp2_with fail
      refine (C.out _ (WSt.keep P (H.out).1 KW.out)).mono ?_
      rintro e w2 ⟨rfl, hs⟩
      go_wp2_with fail
      go_ret
      exact ⟨rfl, hs.after KW.out⟩
    · subst hk
      have C := hide (fun W hw => asks_wait pa P B wb vp vd vl vm ds ms ls ps i p pp a b c d ch al nl cl lock s W hw HP.out (H.out).2.1)
      go_wp2_with fail
      refine (C.out _ (WSt.keep P (H.out).1 KW.out)).mono ?_
      rintro e w2 ⟨rfl, hs⟩
      go_wp2_with fail
      go_ret
      exact ⟨rfl, hs.after KW.out⟩
    · subst hk
      have C := hide (fun W hw => moves_order pa P O B wb vp vd vl vm ds ms ls ps i p pp a b c d ch al nl cl lock s W hw HP.out (H.out).2.1)
      go_wp2_with fail
      refine (C.out _ (WSt.keep P (H.out).1 KW.out)).mono ?_
      rintro e w2 ⟨rfl, hs⟩
      go_wp2_with fail
      go_ret
      exact ⟨rfl, hs.after KW.out⟩
    · subst hk
      have C := hide (fun W hw => moves_demand pa P O B wb vp vd vl vm ds ms ls ps i p pp a b c d ch al nl cl lock s W hw HP.out (H.out).2.1)
      go_wp2_with fail
      refine (C.out _ (WSt.keep P (H.out).1 KW.out)).mono ?_
      rintro e w2 ⟨rfl, hs⟩
      go_wp2_with fail
      go_ret
      exact ⟨rfl, hs.after KW.out⟩
    · subst hk
      have C := hide (fun W hw => asks_rest pa P O B wb vp vd vl vm ds ms ls ps i p pp a b c d ch al nl cl lock s W hw HP.out (H.out).2.1)
      go_wp2_with fail
      refine (C.out _ (WSt.keep P (H.out).1 KW.out)).mono ?_
      rintro e w2 ⟨rfl, hs⟩
      go_wp2_with fail
      go_ret
      exact ⟨rfl, hs.after KW.out⟩
    · subst hk
      have C := hide (fun W hw => moves_pause pa P O B wb vp vd vl vm ds ms ls ps i p pp a b c d ch al nl cl lock s W hw HP.out (H.out).2.1)
      go_wp2_with fail
      refine (C.out _ (WSt.keep P (H.out).1 KW.out)).mono ?_
      rintro e w2 ⟨rfl, hs⟩
      go_wp2_with fail
      go_ret
      exact ⟨rfl, hs.after KW.out⟩
    · subst hk
      have C := hide (fun W hw => moves_resume pa P O B wb vp vd vl vm ds ms ls ps i p pp a b c d ch al nl cl lock s W hw HP.out (H.out).2.1)
      go_wp2_with fail
      refine (C.out _ (WSt.keep P (H.out).1 KW.out)).mono ?_
      rintro e w2 ⟨rfl, hs⟩
      go_wp2_with fail
      go_ret
      exact ⟨rfl, hs.after KW.out⟩
    · have k2 : (kind == 2) = false := beq_eq_false_iff_ne.2 (by omega)
      have k3 : (kind == 3) = false := beq_eq_false_iff_ne.2 (by omega)
      have k4 : (kind == 4) = false := beq_eq_false_iff_ne.2 (by omega)
      have k5 : (kind == 5) = false := beq_eq_false_iff_ne.2 (by omega)
      have k6 : (kind == 6) = false := beq_eq_false_iff_ne.2 (by omega)
      have k7 : (kind == 7) = false := beq_eq_false_iff_ne.2 (by omega)
      have k8 : (kind == 8) = false := beq_eq_false_iff_ne.2 (by omega)
      have k9 : (kind == 9) = false := beq_eq_false_iff_ne.2 (by omega)
      have k10 : (kind == 10) = false := beq_eq_false_iff_ne.2 (by omega)
      have k11 : (kind == 11) = false := beq_eq_false_iff_ne.2 (by omega)
      have k12 : (kind == 12) = false := beq_eq_false_iff_ne.2 (by omega)
      have k13 : (kind == 13) = false := beq_eq_false_iff_ne.2 (by omega)
      go_wp2_with fail
      go_ret
      exact ⟨rfl, StepEnd.same P (H.out).1 (H.out).2.1 KW.out⟩

theorem step_any10 (pa : Rep) (P : Pumpy 25 32 46 14 78 pa) (O : Orderly 34 35 47 21 15 pa) (B : Nat) (wb : Nat) (vp vd vl vm : Value) (ds : List Value) (ms : List Int) (ls : List Value) (ps : List PR) (kind pp a b c d ch : Int) (al : Option Addr) (lims : List Lim) (cl : Nat) (lock : Int) (s : ByteArray) (w : World)
    (h : WSt pa B w wb vp vd vl vm ds ms ls ps) (heq : ∀ (j : Nat) (q : PR), ps[j]? = some q → q.rx = q.ry) (hs : SeeL w al lims) (hnone : al = none → lims.length = 0 ∧ cl = 0) (hcap : lims.length ≤ cl) (hn : lims.length ≤ 5864062014634) (hd : ds.length ≤ 5800000000000) (hl : ls.length ≤ 5800000000000) (hpl : ps.length ≤ 5800000000000) (hk5 : kind ≤ 10) (hp1 : -9223372036854775808 ≤ pp) (hp2 : pp ≤ 9223372036854775807) :
    Calls Tryz.prog 18 #[.pointer (some ⟨wb, 0, none⟩), opV kind pp a b c d ch (.slice al lims.length cl) lock (.string s)] w fun r w' => r = .returned (.bool true) ∧ StepEnd pa B w wb ds.length ls.length ps.length ps w' := by
  by_cases hk : kind = 1
  · subst hk
    exact step_new pa P B wb vp vd vl vm ds ms ls ps pp a b c d ch al lims cl lock s w h heq hs hnone hcap hn hd hl hpl
  · have hk1 : (kind == 1) = false := beq_eq_false_iff_ne.2 hk
    cases ps with
    | nil => exact step_empty pa P B wb vp vd vl vm ds ms ls kind pp a b c d ch al lims.length cl lock s w h hk1 (beq_eq_false_iff_ne.2 (by omega))
    | cons q qs => exact step_pump10 pa P O B wb vp vd vl vm ds ms ls (q :: qs) kind pp a b c d ch al lims.length cl lock s w h heq hd hl hpl (by simp) hk1 hk5 hp1 hp2

end Go.Proofs.YtpilmkipbbengaaGreatDoor
