/- driplaw: pick, num, over, sameDoses. -/
import Derived.Test.YtpilmkipbbengaaGreatDoorRef9
namespace Go.Proofs.YtpilmkipbbengaaGreatDoor
open Go.RowKit

set_option maxRecDepth 100000 in
set_option maxHeartbeats 800000 in
theorem num_any (e : Int) (w : World) : Calls Tryz.prog 72 #[I e] w fun r w' => r = .returned (I e) ∧ w' = w := by
  go_enter Tryz.func72, Tryz.ntmps72
  go_wp2
  go_ret
  exact ⟨rfl, rfl⟩

set_option maxRecDepth 100000 in
set_option maxHeartbeats 800000 in
theorem over_any (w : World) : Calls Tryz.prog 44 #[] w fun r w' => r = .returned (.agg #[I (-99), I (-99), I (-99)]) ∧ Keep w w' := by
  go_enter Tryz.func44, Tryz.ntmps44
  go_wp2
  exact bodyPost_ret (v := .agg #[I (-99), I (-99), I (-99)]) (by simp [results, Tryz.results44, go_sem]) rfl ⟨rfl, (Frm.refl _ _).alloc _⟩

set_option maxRecDepth 100000 in
set_option maxHeartbeats 800000 in
theorem pick_any (c : Int) (n : Nat) (w : World) (h0 : 0 < n) (h1 : n ≤ 6000000000000) (hc1 : -9223372036854775808 ≤ c) (hc2 : c ≤ 9223372036854775807) : Calls Tryz.prog 39 #[I c, I n] w fun r w' => (∃ k : Nat, k < n ∧ r = .returned (I k)) ∧ w' = w := by
  by_cases hc : c < 0
  · go_enter Tryz.func39, Tryz.ntmps39
    go_wp2
    go_ret
    have hm : 0 ≤ -(c + 1) := by omega
    have e1 : -(c + 1).tmod n = (-(c + 1)) % n := by
      rw [← Int.neg_tmod, Int.tmod_eq_emod_of_nonneg hm]
    have h2 := Int.emod_lt_of_pos (-(c + 1)) (show (0 : Int) < n by omega)
    have h3 := Int.emod_nonneg (-(c + 1)) (show (n : Int) ≠ 0 by omega)
    refine ⟨⟨((-(c + 1)) % n).toNat, by omega, ret_int ?_⟩, rfl⟩
    rw [e1]; omega
  · go_enter Tryz.func39, Tryz.ntmps39
    go_wp2
    go_ret
    refine ⟨⟨(c % n).toNat, ?_, ret_int ?_⟩, rfl⟩
    · have := Int.emod_lt_of_pos c (show (0 : Int) < n by omega); have := Int.emod_nonneg c (show (n : Int) ≠ 0 by omega); omega
    · have := Int.emod_nonneg c (show (n : Int) ≠ 0 by omega); omega

set_option maxRecDepth 100000 in
set_option maxHeartbeats 800000 in
theorem sameDoses_any (a b : Value) (la lb : List Ds) (w : World) (ha : w.ownsRow 0 100 3 a la.length (la.flatMap dsC)) (hb : w.ownsRow 0 100 3 b lb.length (lb.flatMap dsC)) (hl : la = lb) (hn : la.length ≤ 1000000) :
    Calls Tryz.prog 75 #[a, b] w fun r w' => r = .returned (.bool true) ∧ Keep w w' := by
  subst hl
  obtain ⟨aa, ca, hva⟩ := row_slice ha
  obtain ⟨ab, cb, hvb⟩ := row_slice hb
  have H := hide (And.intro ha hb)
  subst hva hvb
  have hx : ((la.length : Int) != (la.length : Int)) = false := by simp
  clear ha hb
  go_enter Tryz.func75, Tryz.ntmps75
  go_wp2_with fail
  go_loopg [5] la.length (fun q i wr => ∃ j : Nat, q + j = la.length ∧ i = I j ∧ Hid (Keep w wr))
  case atStart => exact ⟨0, by omega, rfl, Frm.refl _ _⟩
  case round =>
    obtain ⟨j, hq, rfl, hk⟩ := hrel
    by_cases hj : j < la.length
    · obtain ⟨d, hd⟩ : ∃ d, la[j]? = some d := ⟨_, List.getElem?_eq_getElem hj⟩
      obtain ⟨g, cap, hv, hcap, hcell, -⟩ := row_at (row_frm (H.out).1 hk.out (fun _ _ e => e)) (fun _ => rfl) hd (by decide)
      obtain ⟨g2, cap2, hv2, hcap2, hcell2, -⟩ := row_at (row_frm (H.out).2 hk.out (fun _ _ e => e)) (fun _ => rfl) hd (by decide)
      have d0 := hcell 0 (by decide)
      have d1 := hcell 1 (by decide)
      have d2 := hcell 2 (by decide)
      have e0 := hcell2 0 (by decide)
      have e1 := hcell2 1 (by decide)
      have e2 := hcell2 2 (by decide)
      simp [dsC] at d0 d1 d2 e0 e1 e2
      simp at hv hv2
      obtain ⟨rfl, rfl⟩ := hv
      obtain ⟨rfl, rfl⟩ := hv2
      have HK := hide (And.intro hk.out hq)
      clear hcell hcell2 hk hq hd
      go_wp2_with fail
      go_quiet (fail)
      go_wp2_with fail
      go_roundg (gk - 1)
      case measure => have := (HK.out).2; omega
      case rel => exact ⟨j + 1, by have := (HK.out).2; omega, by simp, (HK.out).1.drewN _⟩
    · have HK := hide (And.intro hk.out hq)
      clear hk hq
      go_wp2_with fail
      go_ret
      exact ⟨rfl, (HK.out).1⟩

theorem flat_one (l : List Value) : l.flatMap (fun v => [v]) = l := by
  induction l with
  | nil => rfl
  | cons a l ih => simp [ih]
theorem row_at1 {w : World} {e : TypeId} {n : Nat} {v : Value} {l : List Value} (h : w.ownsRow 0 e 1 v n l) {i : Nat} {x : Value} (hi : l[i]? = some x) :
    ∃ g cap, v = .slice (some ⟨g, 0, none⟩) n cap ∧ n ≤ cap ∧ w.cell? ⟨g, i, none⟩ = some x := by
  have h' := h
  rw [← flat_one l] at h'
  obtain ⟨g, cap, h1, h2, h3, -⟩ := row_at h' (fun _ => rfl) hi (by decide)
  have := h3 0 (by decide)
  simp at this
  exact ⟨g, cap, h1, h2, this⟩

def markC (m : Int) : List Value := [I m, I m, I m]
/-- a list all of whose elements bear the mark m -/
def Marked (w : World) (T : TypeId) (v : Value) (m : Int) : Prop := ∃ n, n ≤ 6000000000000 ∧ w.ownsRow 0 T 3 v n ((List.replicate n m).flatMap markC)

theorem Marked.frm {S : Nat → Prop} {w w' : World} {T : TypeId} {v : Value} {m : Int} (h : Marked w T v m) (f : Frm S w w') (hs : ∀ g, v.ownBlock = some g → ¬ S g) : Marked w' T v m := by
  obtain ⟨n, hn, hr⟩ := h
  exact ⟨n, hn, row_frm hr f hs⟩

/-- the lists of a World -/
structure Lists (w : World) (wb : Nat) (vp vd vl vm : Value) (ds : List Value) (ms : List Int) (ls : List Value) : Prop where
  head : Blk w wb #[vp, vd, vl, vm] 57
  doses : w.ownsRow 0 35 1 vd ds.length ds
  marks : w.ownsRow 0 3 1 vm ms.length (ms.map I)
  lent : w.ownsRow 0 28 1 vl ls.length ls
  len : ds.length = ms.length
  dm : ∀ (i : Nat) (v : Value) (m : Int), ds[i]? = some v → ms[i]? = some m → Marked w 100 v m
  lm : ∀ v ∈ ls, Marked w 60 v (-99)

theorem Lists.keep {w w' : World} {wb : Nat} {vp vd vl vm : Value} {ds : List Value} {ms : List Int} {ls : List Value} (h : Lists w wb vp vd vl vm ds ms ls) (k : Keep w w') : Lists w' wb vp vd vl vm ds ms ls :=
  ⟨k.blk h.head, row_frm h.doses k (fun _ _ e => e), row_frm h.marks k (fun _ _ e => e), row_frm h.lent k (fun _ _ e => e), h.len, fun i v m h1 h2 => (h.dm i v m h1 h2).frm k (fun _ _ e => e), fun v hv => (h.lm v hv).frm k (fun _ _ e => e)⟩

theorem replicate_get {α : Type} (n : Nat) (m : α) (j : Nat) (h : j < n) : (List.replicate n m)[j]? = some m := by simp [h]

set_option maxRecDepth 100000 in
set_option maxHeartbeats 3200000 in
theorem looks_any (wb : Nat) (vp vd vl vm : Value) (ds : List Value) (ms : List Int) (ls : List Value) (w : World) (h : Lists w wb vp vd vl vm ds ms ls) (hn : ds.length ≤ 6000000000000) (hn2 : ls.length ≤ 6000000000000) :
    Calls Tryz.prog 19 #[.pointer (some ⟨wb, 0, none⟩)] w fun r w' => r = .returned (.bool true) ∧ Keep w w' := by
  have H := hide h
  clear h
  go_enter Tryz.func19, Tryz.ntmps19
  go_wp2_with fail
  go_loopg [3, 4, 5] ds.length (fun q i _ _ wr => ∃ j : Nat, q + j = ds.length ∧ i = I j ∧ Hid (Keep w wr))
  case atStart => exact ⟨0, by omega, rfl, Frm.refl _ _⟩
  case round =>
    obtain ⟨j, hq, rfl, hk⟩ := hrel
    have hL := (H.out).keep hk.out
    have c1 : wr.cell? ⟨wb, 1, none⟩ = some vd := by rw [hL.head.cell]; rfl
    have c2 : wr.cell? ⟨wb, 2, none⟩ = some vl := by rw [hL.head.cell]; rfl
    have c3 : wr.cell? ⟨wb, 3, none⟩ = some vm := by rw [hL.head.cell]; rfl
    by_cases hj : j < ds.length
    · obtain ⟨v, hv⟩ : ∃ v, ds[j]? = some v := ⟨_, List.getElem?_eq_getElem hj⟩
      obtain ⟨m, hm⟩ : ∃ m, ms[j]? = some m := ⟨_, List.getElem?_eq_getElem (by rw [← hL.len]; exact hj)⟩
      obtain ⟨g1, cp1, e1, -, d1⟩ := row_at1 hL.doses hv
      obtain ⟨g3, cp3, e3, -, d3⟩ := row_at1 hL.marks (x := I m) (by rw [List.getElem?_map, hm]; rfl)
      obtain ⟨n, hnn, hrow⟩ := hL.dm j v m hv hm
      obtain ⟨av, cv, hvv⟩ := row_slice hrow
      rw [e1] at c1
      rw [e3] at c3
      have hlm := hL.len
      subst hvv
      have hjm : j < ms.length := by omega
      have nx : ∃ k' : Nat, k' < gk ∧ ∃ j' : Nat, k' + j' = ds.length ∧ I ((j : Int) + 1) = I j' ∧ Hid (Keep w wr) := ⟨gk - 1, by omega, j + 1, by omega, by simp, hk⟩
      have NX := hide nx
      have HH := hide (And.intro hk.out (And.intro hq hrow))
      clear hL hk hq hrow e1 e3 hv hm nx
      go_wp2_with fail
      go_loopg [5] n (fun q i wi => ∃ jj : Nat, q + jj = n ∧ i = I jj ∧ wi = wr)
      case atStart => exact ⟨0, by omega, rfl, rfl⟩
      case round =>
        obtain ⟨jj, hqq, rfl, rfl⟩ := hrel
        by_cases hjj : jj < n
        · obtain ⟨g, cap, hvv, -, hcell, -⟩ := row_at (HH.out).2.2 (fun _ => rfl) (replicate_get n m jj hjj) (by decide)
          have x0 := hcell 0 (by decide)
          have x1 := hcell 1 (by decide)
          have x2 := hcell 2 (by decide)
          simp [markC] at x0 x1 x2
          simp at hvv
          obtain ⟨rfl, rfl⟩ := hvv
          clear hcell
          go_wp2_with fail
          go_roundg (gk - 1)
          case measure => omega
          case rel => exact ⟨jj + 1, by omega, by simp, rfl⟩
        · go_wp2_with fail
          obtain ⟨k', m1, m2⟩ := NX.out
          go_roundg k'
          case measure => exact m1
          case rel => exact m2
    · obtain ⟨a1, p1, e1⟩ := row_slice hL.doses
      rw [e1] at c1
      have HH := hide hk.out
      clear hL hk hq e1 c2 c3
      go_wp2_with fail
      go_loopg [6, 7] ls.length (fun q i _ wi => ∃ j : Nat, q + j = ls.length ∧ i = I j ∧ Hid (Keep w wi))
      case atStart => exact ⟨0, by omega, rfl, HH.out⟩
      case round =>
        obtain ⟨j2, hq, rfl, hk⟩ := hrel
        have hL := (H.out).keep hk.out
        have c2 : wr.cell? ⟨wb, 2, none⟩ = some vl := by rw [hL.head.cell]; rfl
        by_cases hj2 : j2 < ls.length
        · obtain ⟨v, hv⟩ : ∃ v, ls[j2]? = some v := ⟨_, List.getElem?_eq_getElem hj2⟩
          obtain ⟨g1, cp1, e1, -, d1⟩ := row_at1 hL.lent hv
          obtain ⟨n, hnn, hrow⟩ := hL.lm v (List.mem_of_getElem? hv)
          obtain ⟨av, cv, hvv⟩ := row_slice hrow
          rw [e1] at c2
          subst hvv
          have nx : ∀ wz, Keep w wz → ∃ k' : Nat, k' < gk ∧ ∃ j' : Nat, k' + j' = ls.length ∧ I ((j2 : Int) + 1) = I j' ∧ Hid (Keep w wz) := fun wz hz => ⟨gk - 1, by omega, j2 + 1, by omega, by simp, hz⟩
          have NX := hide nx
          have H2 := hide (And.intro hk.out (And.intro e1 hv))
          have HR := hide hrow
          clear hL hk hq hrow e1 hv nx
          go_wp2_with fail
          go_loopg [7] n (fun q i wi => ∃ jj : Nat, q + jj = n ∧ i = I jj ∧ Hid (Keep w wi ∧ wi.ownsRow 0 60 3 (.slice av n cv) n ((List.replicate n (-99)).flatMap markC) ∧ wi.cell? ⟨wb, 2, none⟩ = some (.slice (some ⟨g1, 0, none⟩) ls.length cp1) ∧ wi.cell? ⟨g1, j2, none⟩ = some (.slice av n cv)))
          case atStart => exact ⟨0, by omega, rfl, (H2.out).1, HR.out, c2, d1⟩
          case round =>
            obtain ⟨jj, hqq, rfl, hk⟩ := hrel
            obtain ⟨kw, hrow, y2, z1⟩ := hk.out
            clear c2 d1
            by_cases hjj : jj < n
            · obtain ⟨g, cap, hvv, -, hcell, -⟩ := row_at hrow (fun _ => rfl) (replicate_get n (-99) jj hjj) (by decide)
              have x0 := hcell 0 (by decide)
              have x1 := hcell 1 (by decide)
              have x2 := hcell 2 (by decide)
              simp [markC] at x0 x1 x2
              simp at hvv
              obtain ⟨rfl, rfl⟩ := hvv
              have nz : ∀ wz, Keep wr wz → ∃ k' : Nat, k' < gk ∧ ∃ jj' : Nat, k' + jj' = n ∧ I ((jj : Int) + 1) = I jj' ∧ Hid (Keep w wz ∧ wz.ownsRow 0 60 3 (.slice (some ⟨g, 0, none⟩) n cv) n ((List.replicate n (-99)).flatMap markC) ∧ wz.cell? ⟨wb, 2, none⟩ = some (.slice (some ⟨g1, 0, none⟩) ls.length cp1) ∧ wz.cell? ⟨g1, j2, none⟩ = some (.slice (some ⟨g, 0, none⟩) n cv)) :=
                fun wz hz => ⟨gk - 1, by omega, jj + 1, by omega, by simp, kw.trans hz, row_frm hrow hz (fun _ _ e => e), hz.cell y2 (fun e => e), hz.cell z1 (fun e => e)⟩
              have NZ := hide nz
              have lw : wb < wr.heap.size := by simpa using World.block_lt_of_cell? _ _ y2
              have lg1 : g1 < wr.heap.size := by simpa using World.block_lt_of_cell? _ _ z1
              have lg : g < wr.heap.size := by simpa using World.block_lt_of_cell? _ _ x0
              clear hcell hk kw hrow nz hqq
              go_wp2_with fail
              go_region_with (go_at_call 44; refine (over_any _).mono ?_; rintro e w3 ⟨rfl, k3⟩; have y2' : w3.cell? ⟨wb, 2, none⟩ = some (.slice (some ⟨g1, 0, none⟩) ls.length cp1) := k3.cell y2 (fun e => e); have z1' : w3.cell? ⟨g1, j2, none⟩ = some (.slice (some ⟨g, 0, none⟩) n cv) := k3.cell z1 (fun e => e); have x0' : w3.cell? ⟨g, jj * 3, none⟩ = some (I (-99)) := k3.cell x0 (fun e => e); have x1' : w3.cell? ⟨g, jj * 3 + 1, none⟩ = some (I (-99)) := k3.cell x1 (fun e => e); have x2' : w3.cell? ⟨g, jj * 3 + 2, none⟩ = some (I (-99)) := k3.cell x2 (fun e => e))
              all_goals go_wp2_with fail
              all_goals (obtain ⟨k', m1, m2⟩ := NZ.out w3 (((Frm.refl _ _).drew).trans k3))
              all_goals (go_roundg k')
              all_goals first | exact m1 | exact m2
            · have H3 := hide kw
              clear hk hrow hqq kw
              go_wp2_with fail
              obtain ⟨k', m1, m2⟩ := NX.out _ H3.out
              go_roundg k'
              case measure => exact m1
              case rel => exact m2
        · obtain ⟨a1, p1, e1⟩ := row_slice hL.lent
          rw [e1] at c2
          have H2 := hide hk.out
          clear hL hk hq e1
          go_wp2_with fail
          go_ret
          exact ⟨rfl, H2.out⟩

end Go.Proofs.YtpilmkipbbengaaGreatDoor
