/- driplaw: pick, num, over, sameDoses. -/
import Derived.Test.YtpilmkipbbengaaGreatDoorRM
import Derived.Deep.CutRange
namespace Go.Proofs.YtpilmkipbbengaaGreatDoor
open Go.RowKit

set_option maxRecDepth 100000 in
set_option maxHeartbeats 800000 in
theorem num_any (e : Int) (w : World) : Calls Tryz.prog 72 #[I e] w fun r w' => r = .returned (I e) ∧ w' = w := by
  go_enter Tryz.func72, Tryz.ntmps72
  go_wp2
  go_ret
  exact ⟨rfl, rfl⟩

set_option maxRecDepth 100000 in
set_option maxHeartbeats 800000 in
theorem over_any (w : World) : Calls Tryz.prog 44 #[] w fun r w' => r = .returned (.agg #[I (-99), I (-99), I (-99)]) ∧ Keep w w' := by
  go_enter Tryz.func44, Tryz.ntmps44
  go_wp2
  exact bodyPost_ret (v := .agg #[I (-99), I (-99), I (-99)]) (by simp [results, Tryz.results44, go_sem]) rfl ⟨rfl, (Frm.refl _ _).alloc _⟩

set_option maxRecDepth 100000 in
set_option maxHeartbeats 800000 in
theorem pick_any (c : Int) (n : Nat) (w : World) (h0 : 0 < n) (h1 : n ≤ 6000000000000) (hc1 : -9223372036854775808 ≤ c) (hc2 : c ≤ 9223372036854775807) : Calls Tryz.prog 39 #[I c, I n] w fun r w' => (∃ k : Nat, k < n ∧ r = .returned (I k)) ∧ w' = w := by
  by_cases hc : c < 0
  · go_enter Tryz.func39, Tryz.ntmps39
    go_wp2
    go_ret
    have hm : 0 ≤ -(c + 1) := by omega
    have e1 : -(c + 1).tmod n = (-(c + 1)) % n := by
      rw [← Int.neg_tmod, Int.tmod_eq_emod_of_nonneg hm]
    have h2 := Int.emod_lt_of_pos (-(c + 1)) (show (0 : Int) < n by omega)
    have h3 := Int.emod_nonneg (-(c + 1)) (show (n : Int) ≠ 0 by omega)
    refine ⟨⟨((-(c + 1)) % n).toNat, by omega, ret_int ?_⟩, rfl⟩
    rw [e1]; omega
  · go_enter Tryz.func39, Tryz.ntmps39
    go_wp2
    go_ret
    refine ⟨⟨(c % n).toNat, ?_, ret_int ?_⟩, rfl⟩
    · have := Int.emod_lt_of_pos c (show (0 : Int) < n by omega); have := Int.emod_nonneg c (show (n : Int) ≠ 0 by omega); omega
    · have := Int.emod_nonneg c (show (n : Int) ≠ 0 by omega); omega

set_option maxRecDepth 100000 in
set_option maxHeartbeats 800000 in
theorem sameDoses_any (a b : Value) (la lb : List Ds) (w : World) (ha : w.ownsRow 0 100 3 a la.length (la.flatMap dsC)) (hb : w.ownsRow 0 100 3 b lb.length (lb.flatMap dsC)) (hl : la = lb) (hn : la.length ≤ 1000000) :
    Calls Tryz.prog 75 #[a, b] w fun r w' => r = .returned (.bool true) ∧ Keep w w' := by
  subst hl
  obtain ⟨aa, ca, hva⟩ := row_slice ha
  obtain ⟨ab, cb, hvb⟩ := row_slice hb
  have H := hide (And.intro ha hb)
  subst hva hvb
  have hx : ((la.length : Int) != (la.length : Int)) = false := by simp
  clear ha hb
  go_enter Tryz.func75, Tryz.ntmps75
  go_wp2_with fail
  go_loopg [5] la.length (fun q i wr => ∃ j : Nat, q + j = la.length ∧ i = I j ∧ Hid (Keep w wr))
  case atStart => exact ⟨0, by omega, rfl, Frm.refl _ _⟩
  case round =>
    obtain ⟨j, hq, rfl, hk⟩ := hrel
    by_cases hj : j < la.length
    · obtain ⟨d, hd⟩ : ∃ d, la[j]? = some d := ⟨_, List.getElem?_eq_getElem hj⟩
      obtain ⟨g, cap, hv, hcap, hcell, -⟩ := row_at (row_frm (H.out).1 hk.out (fun _ _ e => e)) (fun _ => rfl) hd (by decide)
      obtain ⟨g2, cap2, hv2, hcap2, hcell2, -⟩ := row_at (row_frm (H.out).2 hk.out (fun _ _ e => e)) (fun _ => rfl) hd (by decide)
      have d0 := hcell 0 (by decide)
      have d1 := hcell 1 (by decide)
      have d2 := hcell 2 (by decide)
      have e0 := hcell2 0 (by decide)
      have e1 := hcell2 1 (by decide)
      have e2 := hcell2 2 (by decide)
      simp [dsC] at d0 d1 d2 e0 e1 e2
      simp at hv hv2
      obtain ⟨rfl, rfl⟩ := hv
      obtain ⟨rfl, rfl⟩ := hv2
      have HK := hide (And.intro hk.out hq)
      clear hcell hcell2 hk hq hd
      go_wp2_with fail
      go_quiet (fail)
      go_wp2_with fail
      go_roundg (gk - 1)
      case measure => have := (HK.out).2; omega
      case rel => exact ⟨j + 1, by have := (HK.out).2; omega, by simp, (HK.out).1.drewN _⟩
    · have HK := hide (And.intro hk.out hq)
      clear hk hq
      go_wp2_with fail
      go_ret
      exact ⟨rfl, (HK.out).1⟩

theorem flat_one (l : List Value) : l.flatMap (fun v => [v]) = l := by
  induction l with
  | nil => rfl
  | cons a l ih => simp [ih]
theorem row_at1 {w : World} {e : TypeId} {n : Nat} {v : Value} {l : List Value} (h : w.ownsRow 0 e 1 v n l) {i : Nat} {x : Value} (hi : l[i]? = some x) :
    ∃ g cap, v = .slice (some ⟨g, 0, none⟩) n cap ∧ n ≤ cap ∧ w.cell? ⟨g, i, none⟩ = some x := by
  have h' := h
  rw [← flat_one l] at h'
  obtain ⟨g, cap, h1, h2, h3, -⟩ := row_at h' (fun _ => rfl) hi (by decide)
  have := h3 0 (by decide)
  simp at this
  exact ⟨g, cap, h1, h2, this⟩

def markC (m : Int) : List Value := [I m, I m, I m]
/-- a list all of whose elements bear the mark m -/
def Marked (w : World) (T : TypeId) (v : Value) (m : Int) : Prop := ∃ n, n ≤ 6000000000000 ∧ w.ownsRow 0 T 3 v n ((List.replicate n m).flatMap markC)

theorem Marked.frm {S : Nat → Prop} {w w' : World} {T : TypeId} {v : Value} {m : Int} (h : Marked w T v m) (f : Frm S w w') (hs : ∀ g, v.ownBlock = some g → ¬ S g) : Marked w' T v m := by
  obtain ⟨n, hn, hr⟩ := h
  exact ⟨n, hn, row_frm hr f hs⟩

/-- the lists of a World -/
structure Lists (w : World) (wb : Nat) (vp vd vl vm : Value) (ds : List Value) (ms : List Int) (ls : List Value) : Prop where
  head : Blk w wb #[vp, vd, vl, vm] 57
  doses : w.ownsRow 0 35 1 vd ds.length ds
  marks : w.ownsRow 0 3 1 vm ms.length (ms.map I)
  lent : w.ownsRow 0 28 1 vl ls.length ls
  len : ds.length = ms.length
  dm : ∀ (i : Nat) (v : Value) (m : Int), ds[i]? = some v → ms[i]? = some m → Marked w 100 v m
  lm : ∀ v ∈ ls, Marked w 60 v (-99)

theorem Lists.keep {w w' : World} {wb : Nat} {vp vd vl vm : Value} {ds : List Value} {ms : List Int} {ls : List Value} (h : Lists w wb vp vd vl vm ds ms ls) (k : Keep w w') : Lists w' wb vp vd vl vm ds ms ls :=
  ⟨k.blk h.head, row_frm h.doses k (fun _ _ e => e), row_frm h.marks k (fun _ _ e => e), row_frm h.lent k (fun _ _ e => e), h.len, fun i v m h1 h2 => (h.dm i v m h1 h2).frm k (fun _ _ e => e), fun v hv => (h.lm v hv).frm k (fun _ _ e => e)⟩

theorem replicate_get {α : Type} (n : Nat) (m : α) (j : Nat) (h : j < n) : (List.replicate n m)[j]? = some m := by simp [h]

set_option maxRecDepth 100000 in
set_option maxHeartbeats 3200000 in
theorem looks_any (wb : Nat) (vp vd vl vm : Value) (ds : List Value) (ms : List Int) (ls : List Value) (w : World) (h : Lists w wb vp vd vl vm ds ms ls) (hn : ds.length ≤ 6000000000000) (hn2 : ls.length ≤ 6000000000000) :
    Calls Tryz.prog 19 #[.pointer (some ⟨wb, 0, none⟩)] w fun r w' => r = .returned (.bool true) ∧ Keep w w' := by
  have H := hide h
  clear h
  go_enter Tryz.func19, Tryz.ntmps19
  go_wp2_with fail
  go_loopg [3, 4, 5] ds.length (fun q i _ _ wr => ∃ j : Nat, q + j = ds.length ∧ i = I j ∧ Hid (Keep w wr))
  case atStart => exact ⟨0, by omega, rfl, Frm.refl _ _⟩
  case round =>
    obtain ⟨j, hq, rfl, hk⟩ := hrel
    have hL := (H.out).keep hk.out
    have c1 : wr.cell? ⟨wb, 1, none⟩ = some vd := by rw [hL.head.cell]; rfl
    have c2 : wr.cell? ⟨wb, 2, none⟩ = some vl := by rw [hL.head.cell]; rfl
    have c3 : wr.cell? ⟨wb, 3, none⟩ = some vm := by rw [hL.head.cell]; rfl
    by_cases hj : j < ds.length
    · obtain ⟨v, hv⟩ : ∃ v, ds[j]? = some v := ⟨_, List.getElem?_eq_getElem hj⟩
      obtain ⟨m, hm⟩ : ∃ m, ms[j]? = some m := ⟨_, List.getElem?_eq_getElem (by rw [← hL.len]; exact hj)⟩
      obtain ⟨g1, cp1, e1, -, d1⟩ := row_at1 hL.doses hv
      obtain ⟨g3, cp3, e3, -, d3⟩ := row_at1 hL.marks (x := I m) (by rw [List.getElem?_map, hm]; rfl)
      obtain ⟨n, hnn, hrow⟩ := hL.dm j v m hv hm
      obtain ⟨av, cv, hvv⟩ := row_slice hrow
      rw [e1] at c1
      rw [e3] at c3
      have hlm := hL.len
      subst hvv
      have hjm : j < ms.length := by omega
      have nx : ∃ k' : Nat, k' < gk ∧ ∃ j' : Nat, k' + j' = ds.length ∧ I ((j : Int) + 1) = I j' ∧ Hid (Keep w wr) := ⟨gk - 1, by omega, j + 1, by omega, by simp, hk⟩
      have NX := hide nx
      have HH := hide (And.intro hk.out (And.intro hq hrow))
      clear hL hk hq hrow e1 e3 hv hm nx
      go_wp2_with fail
      go_loopg [5] n (fun q i wi => ∃ jj : Nat, q + jj = n ∧ i = I jj ∧ wi = wr)
      case atStart => exact ⟨0, by omega, rfl, rfl⟩
      case round =>
        obtain ⟨jj, hqq, rfl, rfl⟩ := hrel
        by_cases hjj : jj < n
        · obtain ⟨g, cap, hvv, -, hcell, -⟩ := row_at (HH.out).2.2 (fun _ => rfl) (replicate_get n m jj hjj) (by decide)
          have x0 := hcell 0 (by decide)
          have x1 := hcell 1 (by decide)
          have x2 := hcell 2 (by decide)
          simp [markC] at x0 x1 x2
          simp at hvv
          obtain ⟨rfl, rfl⟩ := hvv
          clear hcell
          go_wp2_with fail
          go_roundg (gk - 1)
          case measure => omega
          case rel => exact ⟨jj + 1, by omega, by simp, rfl⟩
        · go_wp2_with fail
          obtain ⟨k', m1, m2⟩ := NX.out
          go_roundg k'
          case measure => exact m1
          case rel => exact m2
    · obtain ⟨a1, p1, e1⟩ := row_slice hL.doses
      rw [e1] at c1
      have HH := hide hk.out
      clear hL hk hq e1 c2 c3
      go_wp2_with fail
      go_loopg [6, 7] ls.length (fun q i _ wi => ∃ j : Nat, q + j = ls.length ∧ i = I j ∧ Hid (Keep w wi))
      case atStart => exact ⟨0, by omega, rfl, HH.out⟩
      case round =>
        obtain ⟨j2, hq, rfl, hk⟩ := hrel
        have hL := (H.out).keep hk.out
        have c2 : wr.cell? ⟨wb, 2, none⟩ = some vl := by rw [hL.head.cell]; rfl
        by_cases hj2 : j2 < ls.length
        · obtain ⟨v, hv⟩ : ∃ v, ls[j2]? = some v := ⟨_, List.getElem?_eq_getElem hj2⟩
          obtain ⟨g1, cp1, e1, -, d1⟩ := row_at1 hL.lent hv
          obtain ⟨n, hnn, hrow⟩ := hL.lm v (List.mem_of_getElem? hv)
          obtain ⟨av, cv, hvv⟩ := row_slice hrow
          rw [e1] at c2
          subst hvv
          have nx : ∀ wz, Keep w wz → ∃ k' : Nat, k' < gk ∧ ∃ j' : Nat, k' + j' = ls.length ∧ I ((j2 : Int) + 1) = I j' ∧ Hid (Keep w wz) := fun wz hz => ⟨gk - 1, by omega, j2 + 1, by omega, by simp, hz⟩
          have NX := hide nx
          have H2 := hide (And.intro hk.out (And.intro e1 hv))
          have HR := hide hrow
          clear hL hk hq hrow e1 hv nx
          go_wp2_with fail
          go_loopg [7] n (fun q i wi => ∃ jj : Nat, q + jj = n ∧ i = I jj ∧ Hid (Keep w wi ∧ wi.ownsRow 0 60 3 (.slice av n cv) n ((List.replicate n (-99)).flatMap markC) ∧ wi.cell? ⟨wb, 2, none⟩ = some (.slice (some ⟨g1, 0, none⟩) ls.length cp1) ∧ wi.cell? ⟨g1, j2, none⟩ = some (.slice av n cv)))
          case atStart => exact ⟨0, by omega, rfl, (H2.out).1, HR.out, c2, d1⟩
          case round =>
            obtain ⟨jj, hqq, rfl, hk⟩ := hrel
            obtain ⟨kw, hrow, y2, z1⟩ := hk.out
            clear c2 d1
            by_cases hjj : jj < n
            · obtain ⟨g, cap, hvv, -, hcell, -⟩ := row_at hrow (fun _ => rfl) (replicate_get n (-99) jj hjj) (by decide)
              have x0 := hcell 0 (by decide)
              have x1 := hcell 1 (by decide)
              have x2 := hcell 2 (by decide)
              simp [markC] at x0 x1 x2
              simp at hvv
              obtain ⟨rfl, rfl⟩ := hvv
              have nz : ∀ wz, Keep wr wz → ∃ k' : Nat, k' < gk ∧ ∃ jj' : Nat, k' + jj' = n ∧ I ((jj : Int) + 1) = I jj' ∧ Hid (Keep w wz ∧ wz.ownsRow 0 60 3 (.slice (some ⟨g, 0, none⟩) n cv) n ((List.replicate n (-99)).flatMap markC) ∧ wz.cell? ⟨wb, 2, none⟩ = some (.slice (some ⟨g1, 0, none⟩) ls.length cp1) ∧ wz.cell? ⟨g1, j2, none⟩ = some (.slice (some ⟨g, 0, none⟩) n cv)) :=
                fun wz hz => ⟨gk - 1, by omega, jj + 1, by omega, by simp, kw.trans hz, row_frm hrow hz (fun _ _ e => e), hz.cell y2 (fun e => e), hz.cell z1 (fun e => e)⟩
              have NZ := hide nz
              have lw : wb < wr.heap.size := by simpa using World.block_lt_of_cell? _ _ y2
              have lg1 : g1 < wr.heap.size := by simpa using World.block_lt_of_cell? _ _ z1
              have lg : g < wr.heap.size := by simpa using World.block_lt_of_cell? _ _ x0
              clear hcell hk kw hrow nz hqq
              go_wp2_with fail
              go_region_with (go_at_call 44; refine (over_any _).mono ?_; rintro e w3 ⟨rfl, k3⟩; have y2' : w3.cell? ⟨wb, 2, none⟩ = some (.slice (some ⟨g1, 0, none⟩) ls.length cp1) := k3.cell y2 (fun e => e); have z1' : w3.cell? ⟨g1, j2, none⟩ = some (.slice (some ⟨g, 0, none⟩) n cv) := k3.cell z1 (fun e => e); have x0' : w3.cell? ⟨g, jj * 3, none⟩ = some (I (-99)) := k3.cell x0 (fun e => e); have x1' : w3.cell? ⟨g, jj * 3 + 1, none⟩ = some (I (-99)) := k3.cell x1 (fun e => e); have x2' : w3.cell? ⟨g, jj * 3 + 2, none⟩ = some (I (-99)) := k3.cell x2 (fun e => e))
              all_goals go_wp2_with fail
              all_goals (obtain ⟨k', m1, m2⟩ := NZ.out w3 (((Frm.refl _ _).drew).trans k3))
              all_goals (go_roundg k')
              all_goals first | exact m1 | exact m2
            · have H3 := hide kw
              clear hk hrow hqq kw
              go_wp2_with fail
              obtain ⟨k', m1, m2⟩ := NX.out _ H3.out
              go_roundg k'
              case measure => exact m1
              case rel => exact m2
        · obtain ⟨a1, p1, e1⟩ := row_slice hL.lent
          rw [e1] at c2
          have H2 := hide hk.out
          clear hL hk hq e1
          go_wp2_with fail
          go_ret
          exact ⟨rfl, H2.out⟩

end Go.Proofs.YtpilmkipbbengaaGreatDoor

/- driplaw: own. -/
namespace Go.Proofs.YtpilmkipbbengaaGreatDoor
open Go.RowKit

theorem flat_mark (n : Nat) (m : Int) : (List.replicate n m).flatMap markC = List.replicate (n * 3) (I m) := by
  induction n with
  | zero => rfl
  | succ n ih =>
    rw [List.replicate_succ, List.flatMap_cons, ih, show (n + 1) * 3 = n * 3 + 1 + 1 + 1 from by omega]
    simp only [List.replicate_succ, markC]
    rfl

theorem rep_cells (w : World) (l : List Value) (T : TypeId) (b : Nat) (h : b = w.heap.size) (u : Value) (hl : ∀ x ∈ l, x = u) (k : Nat) (hk : l.length = k) : ∀ j, j < k → (w.alloc (.cells l.toArray T)).cell? ((⟨b, 0, none⟩ : Addr).add j) = some u := by
  intro j hj
  have : l[j]? = some u := by
    rw [List.getElem?_eq_getElem (by omega)]
    exact congrArg some (hl _ (List.getElem_mem _))
  exact cell_news w l T b h j u this

section
variable {P : Program} (w : World)
/-- append of marks: what already bears the mark goes on bearing it -/
theorem run_append_mark (t ty e : TypeId) (i : TypeInfo) (z : Value) (size bytes : Nat) (ht : P.underlying t = some (.slice e)) (hi : P.info? e = some i) (hz : i.zero = some z)
    (hsize : i.size = size) (hby : i.bytes = bytes) (hzs : z.cells.size = size) (hsz : 0 < size)
    (v : Value) (n : Nat) (xs : List Value) (hown : w.ownsRow 0 e size v n xs)
    (a : Addr) (m c : Nat) (u : Value) (hu1 : u.oneCell' = true) (hnews : ∀ j, j < m * size → w.cell? (a.add j) = some u)
    (h63 : n + m ≤ maxLen) (hbytes : (n + m) * bytes ≤ 140737488355328) :
    ∃ v' w', (Builtin.append_ #[t, t] ty #[v, .slice (some a) m c]).run P w = .ok v' w' ∧ w'.ownsRow 0 e size v' (n + m) (xs ++ List.replicate (m * size) u) ∧ w.grownBy w' v.ownBlock ∧
      (v'.ownBlock = v.ownBlock ∨ (v'.ownBlock = some w.heap.size ∧ w.grownBy w' none)) ∧ (∀ q k, w.ownsRow 0 e size q k (List.replicate (k * size) u) → w'.ownsRow 0 e size q k (List.replicate (k * size) u)) := by
  have hl : (List.replicate (m * size) u).length = m * size := by simp
  have hnews' : ∀ j y, (List.replicate (m * size) u)[j]? = some y → w.cell? (a.add j) = some y := by
    intro j y hy
    have hj : j < m * size := by simpa using (List.getElem?_eq_some_iff.1 hy).1
    rw [replicate_get _ _ _ hj] at hy
    injection hy with hy
    subst hy; exact hnews j hj
  have h1 : ∀ y ∈ List.replicate (m * size) u, y.oneCell' = true := fun y hy => by rw [(List.mem_replicate.1 hy).2]; exact hu1
  obtain ⟨v', w', hr, h2, h3, h4⟩ := run_append_row (P := P) w t ty e i z size bytes ht hi hz hsize hby hzs hsz v n xs hown a m c _ hl hnews' h1 h63 hbytes
  refine ⟨v', w', hr, h2, h3, h4, ?_⟩
  intro q k hq
  rcases h4 with h4 | ⟨-, h4⟩
  · by_cases hqv : q.ownBlock = v.ownBlock
    · -- the same block, or both nil
      rcases hq.2 with ⟨rfl, rfl⟩ | ⟨g, cap, cur, rfl, -, r2, r3, r4, r5, r6⟩
      · simpa using World.ownsRow_nil w' 0 e size
      · rcases hown.2 with ⟨rfl, rfl⟩ | ⟨g', cap', cur', rfl, -, s2, s3, s4, s5, s6⟩
        · simp [Value.ownBlock] at hqv
        · simp [Value.ownBlock] at hqv
          subst hqv
          rw [r2] at s2
          injection s2 with s2
          injection s2 with s2 _ _
          subst s2
          subst hsize
          subst hby
          have hsmall : n + m ≤ 9223372036854775807 := by simp only [maxLen] at h63; omega
          have hglt : g < w.heap.size := (Array.getElem?_eq_some_iff.1 r2).1
          by_cases hroom : n + m ≤ cap'
          · have hfit : n * i.size + (List.replicate (m * i.size) u).length ≤ cur.size := by
              rw [hl, s5, ← Nat.add_mul]; exact Nat.mul_le_mul_right _ hroom
            have hrr := run_append_room (P := P) w t ty e i ht hi g n cap' cur r2 a m c _ hl hnews' h1 hroom hfit
            rw [hr] at hrr
            injection hrr with e1 e2
            rw [e2]
            refine ⟨by simp, Or.inr ⟨g, cap, _, rfl, Nat.zero_le _, setRow_heap w g cur _ e _ r2, r3, r4, ?_, ?_⟩⟩
            · rw [← r5]; simp at hfit ⊢; omega
            · apply List.ext_getElem?
              intro x
              rw [List.getElem?_take, List.getElem?_replicate]
              split
              · rename_i hx
                have hcx : cur.toList[x]? = some u := by
                  have := congrArg (fun l => l[x]?) r6
                  simp only [List.getElem?_take, hx, if_true, List.getElem?_replicate] at this
                  exact this
                rw [List.append_assoc, List.getElem?_append]
                split
                · rename_i hx1
                  rw [List.getElem?_take]
                  simp only [List.length_take] at hx1
                  rw [if_pos (by omega)]; exact hcx
                · rename_i hx1
                  simp only [List.length_take] at hx1 ⊢
                  have hfit2 : n * i.size ≤ cur.toList.length := by simp at hfit ⊢; omega
                  rw [Nat.min_eq_left hfit2] at hx1 ⊢
                  rw [List.getElem?_append]
                  split
                  · rename_i hx2
                    rw [hl] at hx2
                    exact replicate_get _ _ _ hx2
                  · rename_i hx2
                    rw [hl] at hx2 ⊢
                    rw [List.getElem?_drop, show n * i.size + m * i.size + (x - n * i.size - m * i.size) = x from by omega]
                    exact hcx
              · rfl
          · exfalso
            have hholds : ∀ j u, xs[j]? = some u → w.cell? ((⟨g, 0, none⟩ : Addr).add j) = some u := hown.cells (g := g) rfl
            have hrr := run_append_grow (P := P) w t ty e i z ht hi hz ⟨g, 0, none⟩ n cap' xs hown.1 hholds a m c _ hl hnews' (by omega) (by omega) (growslice_fits (by omega) hbytes)
            rw [hr] at hrr
            injection hrr with e1 e2
            rw [e1] at h4
            simp [Value.ownBlock] at h4
            omega
    · exact row_frm hq (grown_frm h3) (fun g hg e => hqv (by rw [hg, e]))
  · exact row_frm hq (grown_frm h4) (fun g hg e => by simp at e)
end

theorem wpList_append_mark {P : Program} (w : World) {ops : Array Oper} {rest : List Oper} {o : Oper} {a : Act} {Q : Exit → Act → World → Prop} (hgd : o.guard = none) (s x : Operand) (t : TypeId)
    (ho : o.op = .call { callee := .builtin .append, args := #[s, x], argTypes := #[t, t] })
    (e : TypeId) (i : TypeInfo) (z : Value) (size bytes : Nat) (ht : P.underlying t = some (.slice e)) (hi : P.info? e = some i) (hz : i.zero = some z)
    (hsize : i.size = size) (hby : i.bytes = bytes) (hzs : z.cells.size = size) (hsz : 0 < size)
    (v : Value) (n : Nat) (xs : List Value) (hs : a.eval s = v) (hown : w.ownsRow 0 e size v n xs) (ad : Addr) (m c : Nat) (u : Value) (hxe : a.eval x = .slice (some ad) m c) (hu1 : u.oneCell' = true) (hnews : ∀ j, j < m * size → w.cell? (ad.add j) = some u)
    (h63 : n + m ≤ maxLen) (hbytes : (n + m) * bytes ≤ 140737488355328)
    (h : ∀ v' w', w'.ownsRow 0 e size v' (n + m) (xs ++ List.replicate (m * size) u) → w.grownBy w' v.ownBlock → (v'.ownBlock = v.ownBlock ∨ (v'.ownBlock = some w.heap.size ∧ w.grownBy w' none)) → (∀ q k, w.ownsRow 0 e size q k (List.replicate (k * size) u) → w'.ownsRow 0 e size q k (List.replicate (k * size) u)) → wpList P ops Q rest (a.put o.dst v') w') : wpList P ops Q (o :: rest) a w :=
  wpList_plain hgd fun _ hK => by
    obtain ⟨v', w', hr, h2, h3, h4, h5⟩ := run_append_mark (P := P) w t o.type e i z size bytes ht hi hz hsize hby hzs hsz v n xs hown ad m c u hu1 hnews h63 hbytes
    unfold Oper.wp execOp
    simp only [ho, resolve, invoke, builtin, Sem.run_bind, Sem.run_pure, Result.andThen_ok, List.map_toArray, List.map_cons, List.map_nil, hs, hxe, hr]
    exact hK _ _ (h v' w' h2 h3 h4 h5)

/-- the lists' footprint -/
def LF (wb : Nat) (vp vd vl vm : Value) (ds ls : List Value) : Nat → Prop := fun x => x = wb ∨ vp.ownBlock = some x ∨ vd.ownBlock = some x ∨ vl.ownBlock = some x ∨ vm.ownBlock = some x ∨ (∃ v ∈ ds, v.ownBlock = some x) ∨ (∃ v ∈ ls, v.ownBlock = some x)

/-- a list apart from the World's own blocks -/
structure Off (wb : Nat) (vp vd vl vm v : Value) : Prop where
  b : v.ownBlock ≠ some wb
  p : Dis v vp
  d : Dis v vd
  l : Dis v vl
  m : Dis v vm

structure LSep (wb : Nat) (vp vd vl vm : Value) (ds ls : List Value) : Prop where
  bp : vp.ownBlock ≠ some wb
  bd : vd.ownBlock ≠ some wb
  bl : vl.ownBlock ≠ some wb
  bm : vm.ownBlock ≠ some wb
  pd : Dis vp vd
  pl : Dis vp vl
  pm : Dis vp vm
  dl : Dis vd vl
  dm : Dis vd vm
  lm : Dis vl vm
  ds : ∀ v ∈ ds, Off wb vp vd vl vm v
  ls : ∀ v ∈ ls, Off wb vp vd vl vm v

theorem infoSD : (Tryz.prog.info? 35).map (fun i => (i.zero, i.size, i.bytes)) = some (some (.slice none 0 0), 1, 24) := by kernel_rfl
theorem infoInt : (Tryz.prog.info? 3).map (fun i => (i.zero, i.size, i.bytes)) = some (some (I 0), 1, 8) := by kernel_rfl

/-- what own has done when all elements of l bear the mark -/
structure OwnSt (w wr : World) (l : Value) (n : Nat) (m : Int) (xs : List Value) (j : Nat) : Prop where
  row : wr.ownsRow 0 100 3 l n (List.replicate (j * 3) (I m) ++ xs.drop (j * 3))
  frm : Frm (fun x => l.ownBlock = some x) w wr
  box : Blk wr w.heap.size #[I m, I m, I m] 100

theorem set3a (u a b c : Value) (r : List Value) : ∀ (A : List Value), ((((A ++ a :: b :: c :: r).set A.length u).set (A.length + 1) u).set (A.length + 2) u) = A ++ u :: u :: u :: r := by
  intro A
  induction A with
  | nil => rfl
  | cons x A ih => simp
theorem set3 (u : Value) (xs : List Value) (j n : Nat) (hl : xs.length = n * 3) (hj : j < n) :
    ((((List.replicate (j * 3) u ++ xs.drop (j * 3)).set (j * 3) u).set (j * 3 + 1) u).set (j * 3 + 2) u) = List.replicate ((j + 1) * 3) u ++ xs.drop ((j + 1) * 3) := by
  have h1 : xs.drop (j * 3) = xs[j * 3]'(by omega) :: xs[j * 3 + 1]'(by omega) :: xs[j * 3 + 2]'(by omega) :: xs.drop ((j + 1) * 3) := by
    rw [List.drop_eq_getElem_cons (by omega), List.drop_eq_getElem_cons (by omega), List.drop_eq_getElem_cons (by omega)]
    rw [show j * 3 + 1 + 1 + 1 = (j + 1) * 3 from by omega]
  rw [h1]
  have := set3a u (xs[j * 3]'(by omega)) (xs[j * 3 + 1]'(by omega)) (xs[j * 3 + 2]'(by omega)) (xs.drop ((j + 1) * 3)) (List.replicate (j * 3) u)
  rw [List.length_replicate] at this
  rw [this, show (j + 1) * 3 = j * 3 + 3 from by omega, ← List.replicate_append_replicate]
  simp [List.replicate]

theorem OwnSt.set {w wr : World} {g cl n : Nat} {m : Int} {xs : List Value} {j : Nat} (h : OwnSt w wr (.slice (some ⟨g, 0, none⟩) n cl) n m xs j) (hg : g < w.heap.size) (hl : xs.length = n * 3) (hj : j < n) :
    OwnSt w (((wr.setCell ⟨g, j * 3, none⟩ (I m)).setCell ⟨g, j * 3 + 1, none⟩ (I m)).setCell ⟨g, j * 3 + 2, none⟩ (I m)) (.slice (some ⟨g, 0, none⟩) n cl) n m xs (j + 1) := by
  have r1 := (h.row.stored (j * 3) (I m)).1
  have r2 := (r1.stored (j * 3 + 1) (I m)).1
  have r3 := (r2.stored (j * 3 + 2) (I m)).1
  rw [set3 (I m) xs j n hl hj] at r3
  have hne : w.heap.size ≠ g := by omega
  have hS : (fun x => (Value.slice (some ⟨g, 0, none⟩) n cl).ownBlock = some x) g := rfl
  have fr : Frm (fun x => (Value.slice (some ⟨g, 0, none⟩) n cl).ownBlock = some x) w (((wr.setCell ⟨g, j * 3, none⟩ (I m)).setCell ⟨g, j * 3 + 1, none⟩ (I m)).setCell ⟨g, j * 3 + 2, none⟩ (I m)) :=
    ((h.frm.setCell (p := ⟨g, j * 3, none⟩) hS _).setCell (p := ⟨g, j * 3 + 1, none⟩) hS _).setCell (p := ⟨g, j * 3 + 2, none⟩) hS _
  exact ⟨r3, fr, ((h.box.other (p := ⟨g, j * 3, none⟩) hne _).other (p := ⟨g, j * 3 + 1, none⟩) hne _).other (p := ⟨g, j * 3 + 2, none⟩) hne _⟩

theorem row_cells {w : World} {e : TypeId} {s n : Nat} {v : Value} {xs : List Value} (h : w.ownsRow 0 e s v n xs) (h0 : 0 < n) : ∃ g cap, v = .slice (some ⟨g, 0, none⟩) n cap ∧ (∀ j, j < n * s → ∃ y, w.cell? ⟨g, j, none⟩ = some y) ∧ (∀ j, w.frozen? ⟨g, j, none⟩ = false) ∧ g < w.heap.size := by
  rcases h.2 with ⟨rfl, rfl⟩ | ⟨g, cap, cur, rfl, _, r2, r3, r4, r5, r6⟩
  · omega
  · have hb : Blk w g cur e := r2
    refine ⟨g, cap, rfl, fun j hj => ?_, fun j => hb.frozen j, hb.lt⟩
    rw [hb.cell]
    have : j < cur.size := by rw [r5]; exact Nat.lt_of_lt_of_le hj (Nat.mul_le_mul_right _ r3)
    exact ⟨_, Array.getElem?_eq_getElem this⟩

theorem Lists.frm {S : Nat → Prop} {w w' : World} {wb : Nat} {vp vd vl vm : Value} {ds : List Value} {ms : List Int} {ls : List Value} (h : Lists w wb vp vd vl vm ds ms ls) (k : Frm S w w') (hs : ∀ x, LF wb vp vd vl vm ds ls x → ¬ S x) : Lists w' wb vp vd vl vm ds ms ls :=
  ⟨h.head.frm k (hs _ (Or.inl rfl)), row_frm h.doses k (fun g hg => hs g (Or.inr (Or.inr (Or.inl hg)))), row_frm h.marks k (fun g hg => hs g (Or.inr (Or.inr (Or.inr (Or.inr (Or.inl hg)))))), row_frm h.lent k (fun g hg => hs g (Or.inr (Or.inr (Or.inr (Or.inl hg))))), h.len,
    fun i v m h1 h2 => (h.dm i v m h1 h2).frm k (fun g hg => hs g (Or.inr (Or.inr (Or.inr (Or.inr (Or.inr (Or.inl ⟨v, List.mem_of_getElem? h1, hg⟩))))))), fun v hv => (h.lm v hv).frm k (fun g hg => hs g (Or.inr (Or.inr (Or.inr (Or.inr (Or.inr (Or.inr ⟨v, hv, hg⟩)))))))⟩

/-- one list of the World has been replaced: its row stands, all other things are as they were -/
theorem grow_off {w W w' : World} {v : Value} {wb k : Nat} (kW : Keep w W) (hg : W.grownBy w' v.ownBlock) {T : TypeId} {s n : Nat} {u : Value} {xs : List Value} (h : w.ownsRow 0 T s u n xs) (hd : Dis u v) (hb : u.ownBlock ≠ some wb) (x : Value) : (w'.setCell ⟨wb, k, none⟩ x).ownsRow 0 T s u n xs :=
  row_of_block (row_frm (row_frm h kW (fun _ _ e => e)) (grown_frm hg) (fun g hg' e => hd g hg' e)) fun g hg' => Below.heap_setCell _ _ _ _ fun e => hb (by rw [hg', e])

theorem fresh_dis {w W w' : World} {v v' u : Value} (kW : Keep w W) (hn : v'.ownBlock = v.ownBlock ∨ (v'.ownBlock = some W.heap.size ∧ W.grownBy w' none)) (hu : ∀ x, u.ownBlock = some x → x < w.heap.size) (hd : Dis v u) : Dis v' u := by
  intro x hx e
  rcases hn with h | ⟨h, -⟩
  · rw [h] at hx; exact hd x hx e
  · rw [h] at hx; injection hx with hx; have := hu x e; have := kW.size; omega
theorem fresh_ne {w W w' : World} {v v' : Value} {b : Nat} (kW : Keep w W) (hn : v'.ownBlock = v.ownBlock ∨ (v'.ownBlock = some W.heap.size ∧ W.grownBy w' none)) (hb : b < w.heap.size) (hne : v.ownBlock ≠ some b) : v'.ownBlock ≠ some b := by
  rcases hn with h | ⟨h, -⟩
  · rw [h]; exact hne
  · rw [h]; intro e; injection e with e; have := kW.size; omega

theorem Lists.lt {w : World} {wb : Nat} {vp vd vl vm : Value} {ds : List Value} {ms : List Int} {ls : List Value} (h : Lists w wb vp vd vl vm ds ms ls) (hp : ∀ x, vp.ownBlock = some x → x < w.heap.size) : ∀ x, LF wb vp vd vl vm ds ls x → x < w.heap.size := by
  rintro x (rfl | e | e | e | e | ⟨v, hv, e⟩ | ⟨v, hv, e⟩)
  · exact h.head.lt
  · exact hp x e
  · exact (h.doses.lt x e).2
  · exact (h.lent.lt x e).2
  · exact (h.marks.lt x e).2
  · obtain ⟨i, hi⟩ := List.getElem?_of_mem hv
    have hil : i < ms.length := by rw [← h.len]; exact (List.getElem?_eq_some_iff.1 hi).1
    obtain ⟨n, _, hr⟩ := h.dm i v _ hi (List.getElem?_eq_getElem hil)
    exact (hr.lt x e).2
  · obtain ⟨n, _, hr⟩ := h.lm v hv
    exact (hr.lt x e).2

/-- what own leaves -/
def OwnEnd (w : World) (wb : Nat) (vp vd vl vm : Value) (ds : List Value) (ms : List Int) (ls : List Value) (l : Value) (w' : World) : Prop :=
  ∃ vd' vm' v1 v2 v3 m, Lists w' wb vp vd' vl vm' (ds ++ [l, v1, v2, v3]) (ms ++ [m, m, m, m]) ls ∧ LSep wb vp vd' vl vm' (ds ++ [l, v1, v2, v3]) ls ∧
    Frm (fun x => x = wb ∨ vd.ownBlock = some x ∨ vm.ownBlock = some x ∨ l.ownBlock = some x) w w' ∧ (∀ x, LF wb vp vd' vl vm' (ds ++ [l, v1, v2, v3]) ls x → LF wb vp vd vl vm ds ls x ∨ l.ownBlock = some x ∨ w.heap.size ≤ x)

theorem own_fin {w w3 W4 w4 W6 w6 : World} {wb : Nat} {vp vd vl vm vd' vm' : Value} {ds : List Value} {ms : List Int} {ls : List Value} {l v1 v2 v3 : Value} {m : Int} (hp : ∀ x, vp.ownBlock = some x → x < w.heap.size) (h : Lists w3 wb vp vd vl vm ds ms ls) (sep : LSep wb vp vd vl vm ds ls)
    (f3 : Frm (fun x => l.ownBlock = some x) w w3) (hm : ∀ v ∈ [l, v1, v2, v3], Marked w3 100 v m) (ho : ∀ v ∈ [l, v1, v2, v3], Off wb vp vd vl vm v) (hf : ∀ v ∈ [l, v1, v2, v3], ∀ x, v.ownBlock = some x → l.ownBlock = some x ∨ w.heap.size ≤ x)
    (k4 : Keep w3 W4) (g4 : W4.grownBy w4 vd.ownBlock) (r4 : w4.ownsRow 0 35 1 vd' (ds.length + 4) (ds ++ [l, v1, v2, v3])) (n4 : vd'.ownBlock = vd.ownBlock ∨ (vd'.ownBlock = some W4.heap.size ∧ W4.grownBy w4 none))
    (k6 : Keep (w4.setCell ⟨wb, 1, none⟩ vd') W6) (g6 : W6.grownBy w6 vm.ownBlock) (r6 : w6.ownsRow 0 3 1 vm' (ms.length + 4) (ms.map I ++ [I m, I m, I m, I m])) (n6 : vm'.ownBlock = vm.ownBlock ∨ (vm'.ownBlock = some W6.heap.size ∧ W6.grownBy w6 none)) :
    OwnEnd w wb vp vd vl vm ds ms ls l (w6.setCell ⟨wb, 3, none⟩ vm') := by
  have lwb := h.head.lt
  have s3 := f3.size
  have s4 := k4.size
  have s4' := g4.size
  have s6 := k6.size
  simp at s6
  have lt3 : ∀ {T s v n xs}, w3.ownsRow 0 T s v n xs → ∀ x, v.ownBlock = some x → x < w3.heap.size := fun hr x hx => (hr.lt x hx).2
  have lt5 : ∀ x, x < w3.heap.size → x < (w4.setCell ⟨wb, 1, none⟩ vd').heap.size := fun x hx => by simp; omega
  have hp3 : ∀ x, vp.ownBlock = some x → x < w3.heap.size := fun x hx => by have := hp x hx; omega
  have d1 : ∀ {T s v n xs}, w3.ownsRow 0 T s v n xs → Dis v vd → Dis v vm → v.ownBlock ≠ some wb → (w6.setCell ⟨wb, 3, none⟩ vm').ownsRow 0 T s v n xs :=
    fun hr hd hmm hb => grow_off k6 g6 (grow_off k4 g4 hr hd hb vd') hmm hb vm'
  have bd' : vd'.ownBlock ≠ some wb := fresh_ne k4 n4 lwb sep.bd
  have bm' : vm'.ownBlock ≠ some wb := fresh_ne k6 n6 (lt5 _ lwb) sep.bm
  have dm' : Dis vd' vm := fresh_dis k4 n4 (lt3 h.marks) sep.dm
  have r5 : (w4.setCell ⟨wb, 1, none⟩ vd').ownsRow 0 35 1 vd' (ds.length + 4) (ds ++ [l, v1, v2, v3]) := row_of_block r4 fun g hg => Below.heap_setCell _ _ _ _ fun e => bd' (by rw [hg, e])
  have dmm : Dis vd' vm' := (fresh_dis k6 n6 (fun x hx => (r5.lt x hx).2) dm'.symm).symm
  have off' : ∀ v, (∀ x, v.ownBlock = some x → x < w3.heap.size) → Off wb vp vd vl vm v → Off wb vp vd' vl vm' v := fun v hv o =>
    ⟨o.b, o.p, (fresh_dis k4 n4 hv o.d.symm).symm, o.l, (fresh_dis k6 n6 (fun x hx => lt5 x (hv x hx)) o.m.symm).symm⟩
  have mlt : ∀ {T v m}, Marked w3 T v m → ∀ x, v.ownBlock = some x → x < w3.heap.size := fun ⟨_, _, hr⟩ => lt3 hr
  have mk : ∀ {T v m}, Marked w3 T v m → Off wb vp vd vl vm v → Marked (w6.setCell ⟨wb, 3, none⟩ vm') T v m := fun ⟨n, hn, hr⟩ o => ⟨n, hn, d1 hr o.d o.m o.b⟩
  have dlt : ∀ v ∈ ds, ∀ x, v.ownBlock = some x → x < w3.heap.size := by
    intro v hv
    obtain ⟨i, hi⟩ := List.getElem?_of_mem hv
    have hil : i < ms.length := by rw [← h.len]; exact (List.getElem?_eq_some_iff.1 hi).1
    exact mlt (h.dm i v _ hi (List.getElem?_eq_getElem hil))
  refine ⟨vd', vm', v1, v2, v3, m, ⟨?_, ?_, ?_, d1 h.lent sep.dl.symm sep.lm sep.bl, by simp [h.len], ?_, fun v hv => mk (h.lm v hv) (sep.ls v hv)⟩, ⟨sep.bp, bd', sep.bl, bm', (fresh_dis k4 n4 hp3 sep.pd.symm).symm, sep.pl, (fresh_dis k6 n6 (fun x hx => lt5 x (hp3 x hx)) sep.pm.symm).symm, fresh_dis k4 n4 (lt3 h.lent) sep.dl, dmm, (fresh_dis k6 n6 (fun x hx => lt5 x (lt3 h.lent x hx)) sep.lm.symm).symm, ?_, fun v hv => off' v (mlt (h.lm v hv)) (sep.ls v hv)⟩, ?_, ?_⟩
  · have b4 := ((k4.blk h.head).frm (grown_frm g4) sep.bd).set 1 vd'
    have b6 := ((k6.blk b4).frm (grown_frm g6) sep.bm).set 3 vm'
    simpa using b6
  · have := grow_off (k := 3) k6 g6 r5 dm' bd' vm'
    simpa using this
  · have := row_of_block r6 (w' := w6.setCell ⟨wb, 3, none⟩ vm') fun g hg => Below.heap_setCell _ _ _ _ fun e => bm' (by rw [hg, e])
    simpa using this
  · intro i v mm hi hmm
    by_cases hlt : i < ds.length
    · rw [List.getElem?_append_left hlt] at hi
      rw [List.getElem?_append_left (by rw [← h.len]; exact hlt)] at hmm
      exact mk (h.dm i v mm hi hmm) (sep.ds v (List.mem_of_getElem? hi))
    · rw [List.getElem?_append_right (by omega)] at hi
      rw [List.getElem?_append_right (by rw [← h.len]; omega)] at hmm
      have hv := List.mem_of_getElem? hi
      have hm4 := List.mem_of_getElem? hmm
      have e : mm = m := by simpa using hm4
      subst e
      exact mk (hm v hv) (ho v hv)
  · intro v hv
    rcases List.mem_append.1 hv with hv | hv
    · exact off' v (dlt v hv) (sep.ds v hv)
    · exact off' v (mlt (hm v hv)) (ho v hv)
  · refine ((((f3.mono ?_).trans2 k4 (fun _ _ e => e.elim)).trans2 (grown_frm g4) ?_).setCell (Or.inl rfl) _ |>.trans2 k6 (fun _ _ e => e.elim) |>.trans2 (grown_frm g6) ?_).setCell (Or.inl rfl) _
    · exact fun x _ e => Or.inr (Or.inr (Or.inr e))
    · exact fun x _ e => Or.inr (Or.inl e)
    · exact fun x _ e => Or.inr (Or.inr (Or.inl e))
  · have hsz : w.heap.size ≤ w3.heap.size := s3
    rintro x (e | e | e | e | e | ⟨v, hv, e⟩ | e)
    · exact Or.inl (Or.inl e)
    · exact Or.inl (Or.inr (Or.inl e))
    · rcases n4 with h' | ⟨h', -⟩
      · exact Or.inl (Or.inr (Or.inr (Or.inl (by rw [← h', e]))))
      · rw [h'] at e; injection e with e; exact Or.inr (Or.inr (by omega))
    · exact Or.inl (Or.inr (Or.inr (Or.inr (Or.inl e))))
    · rcases n6 with h' | ⟨h', -⟩
      · exact Or.inl (Or.inr (Or.inr (Or.inr (Or.inr (Or.inl (by rw [← h', e]))))))
      · rw [h'] at e; injection e with e; exact Or.inr (Or.inr (by omega))
    · rcases List.mem_append.1 hv with hv | hv
      · exact Or.inl (Or.inr (Or.inr (Or.inr (Or.inr (Or.inr (Or.inl ⟨v, hv, e⟩))))))
      · exact Or.inr (hf v hv x e)
    · exact Or.inl (Or.inr (Or.inr (Or.inr (Or.inr (Or.inr (Or.inr e))))))

set_option maxRecDepth 100000 in
set_option maxHeartbeats 3200000 in
theorem own_any (wb : Nat) (vp vd vl vm : Value) (ds : List Value) (ms : List Int) (ls : List Value) (l : Value) (n : Nat) (xs : List Value) (w : World) (h : Lists w wb vp vd vl vm ds ms ls) (sep : LSep wb vp vd vl vm ds ls)
    (hl : w.ownsRow 0 100 3 l n xs) (hlf : ∀ x, l.ownBlock = some x → ¬ LF wb vp vd vl vm ds ls x) (hn : n ≤ 2000) (hd : ds.length ≤ 5800000000000) (hp : ∀ x, vp.ownBlock = some x → x < w.heap.size) :
    Calls Tryz.prog 76 #[.pointer (some ⟨wb, 0, none⟩), l] w fun r w' => r = .returned (.tuple #[]) ∧ OwnEnd w wb vp vd vl vm ds ms ls l w' := by
  obtain ⟨iD, hiD, hzD0, hzD1, hzD2⟩ := info_parts infoD
  obtain ⟨iS, hiS, hzS0, hzS1, hzS2⟩ := info_parts infoSD
  obtain ⟨iI, hiI, hzI0, hzI1, hzI2⟩ := info_parts infoInt
  obtain ⟨am, cm, hvm⟩ := row_slice h.marks
  obtain ⟨al, cl, hvl⟩ := row_slice hl
  have c3 : w.cell? ⟨wb, 3, none⟩ = some vm := by rw [h.head.cell]; rfl
  have hlen := h.len
  have lwb := h.head.lt
  have H := hide (And.intro h (And.intro sep (And.intro hl hlf)))
  have HP := hide hp
  clear hp
  subst hvl
  rw [hvm] at c3
  have HVM := hide hvm
  clear h sep hl hlf hvm
  have hml : ms.length ≤ 5800000000000 := by omega
  clear hlen
  generalize hM : -1 - (ms.length : Int) = m at *
  go_enter Tryz.func76, Tryz.ntmps76
  go_wp2_with fail
  have HM := hide hM
  clear hM
  go_loopg [6] n (fun q i wr => ∃ j : Nat, q + j = n ∧ i = I j ∧ Hid (OwnSt w wr (.slice al n cl) n m xs j))
  case atStart => exact ⟨0, by omega, rfl, ⟨by simpa using row_frm (H.out).2.2.1 (show Keep _ _ from (Frm.refl _ _).alloc _) (fun _ _ e => e), (Frm.refl _ _).alloc _, Blk.new _ _ _⟩⟩
  case round =>
    obtain ⟨j, hq, rfl, hst⟩ := hrel
    have hs := hst.out
    have b0 : wr.cell? ⟨w.heap.size, 0, none⟩ = some (I m) := by rw [hs.box.cell]; rfl
    have b1 : wr.cell? ⟨w.heap.size, 1, none⟩ = some (I m) := by rw [hs.box.cell]; rfl
    have b2 : wr.cell? ⟨w.heap.size, 2, none⟩ = some (I m) := by rw [hs.box.cell]; rfl
    have lbx := hs.box.lt
    by_cases hj : j < n
    · obtain ⟨g, cap, hv, hcells, hfz, -⟩ := row_cells hs.row (by omega)
      simp at hv
      obtain ⟨rfl, rfl⟩ := hv
      obtain ⟨y0, d0⟩ := hcells (j * 3) (by omega)
      obtain ⟨y1, d1⟩ := hcells (j * 3 + 1) (by omega)
      obtain ⟨y2, d2⟩ := hcells (j * 3 + 2) (by omega)
      have f0 := hfz (j * 3)
      have f1 := hfz (j * 3 + 1)
      have f2 := hfz (j * 3 + 2)
      have hgl := ((H.out).2.2.1.lt g rfl).2
      have nx := hs.set hgl (H.out).2.2.1.1 hj
      have NX := hide (And.intro nx hq)
      clear hcells hfz hst hs nx hq
      go_wp2_with fail
      go_roundg (gk - 1)
      case measure => have := (NX.out).2; omega
      case rel => exact ⟨j + 1, by have := (NX.out).2; omega, by simp, (NX.out).1⟩
    · have hje : j = n := by omega
      have HO := hide (And.intro hs hje)
      clear hst hs hq hje
      have hr0 : wr.ownsRow 0 100 3 (.slice al n cl) n (List.replicate (n * 3) (I m)) := by
        have := (HO.out).1.row
        rw [(HO.out).2, List.drop_eq_nil_of_le (by have := (H.out).2.2.1.1; omega)] at this
        simpa using this
      have HR0 := hide hr0
      clear hr0
      go_upto_region 7 with (at_builtin; refine wpList_append_mark _ rfl (.tmp 30) (.tmp 32) 35 rfl 100 iD (.agg #[I 0, I 0, I 0]) 3 24 Tryz.underlying35 hiD hzD0 hzD1 hzD2 rfl (by decide) (.slice al n cl) n _ rfl (row_frm HR0.out (show Keep _ _ from (Frm.refl _ _).alloc _) (fun _ _ e => e)) ⟨wr.heap.size, 0, none⟩ 1 1 (I m) rfl rfl (rep_cells _ [I m, I m, I m] _ _ (by simp) (I m) (by simp) _ rfl) (by unfold maxLen; omega) (by omega) ?_; intro v1 w1 hw1 hg1 hn1 hm1; have bx1 : Blk w1 w.heap.size #[I m, I m, I m] 100 := ((show Keep _ _ from (Frm.refl _ _).alloc _).blk (HO.out).1.box).frm (grown_frm hg1) (fun e => by have := ((H.out).2.2.1.lt _ e).2; omega); have x10 : w1.cell? ⟨w.heap.size, 0, none⟩ = some (I m) := (by { rw [bx1.cell]; rfl }); have x11 : w1.cell? ⟨w.heap.size, 1, none⟩ = some (I m) := (by { rw [bx1.cell]; rfl }); have x12 : w1.cell? ⟨w.heap.size, 2, none⟩ = some (I m) := (by { rw [bx1.cell]; rfl }); have lx1 := bx1.lt; have ONE := hide (And.intro hw1 (And.intro hg1 (And.intro hn1 (And.intro hm1 bx1)))); clear hw1 hg1 hn1 hm1 bx1)
      have r1 : w1.ownsRow 0 100 3 (.slice al n cl) n (List.replicate (n * 3) (I m)) := (ONE.out).2.2.2.1 _ _ (row_frm HR0.out (show Keep _ _ from (Frm.refl _ _).alloc _) (fun _ _ e => e))
      have R1 := hide r1
      clear r1
      go_upto_region 8 with (at_builtin; refine wpList_append_mark _ rfl (.tmp 34) (.tmp 37) 35 rfl 100 iD (.agg #[I 0, I 0, I 0]) 3 24 Tryz.underlying35 hiD hzD0 hzD1 hzD2 rfl (by decide) (.slice al n cl) n _ rfl (row_frm R1.out (show Keep _ _ from (Frm.refl _ _).alloc _) (fun _ _ e => e)) ⟨w1.heap.size, 0, none⟩ 2 2 (I m) rfl rfl (rep_cells _ [I m, I m, I m, I m, I m, I m] _ _ (by simp) (I m) (by simp) _ rfl) (by unfold maxLen; omega) (by omega) ?_; intro v2 w2 hw2 hg2 hn2 hm2; have bx2 : Blk w2 w.heap.size #[I m, I m, I m] 100 := ((show Keep _ _ from (Frm.refl _ _).alloc _).blk (ONE.out).2.2.2.2).frm (grown_frm hg2) (fun e => by have := ((H.out).2.2.1.lt _ e).2; omega); have x20 : w2.cell? ⟨w.heap.size, 0, none⟩ = some (I m) := (by { rw [bx2.cell]; rfl }); have x21 : w2.cell? ⟨w.heap.size, 1, none⟩ = some (I m) := (by { rw [bx2.cell]; rfl }); have x22 : w2.cell? ⟨w.heap.size, 2, none⟩ = some (I m) := (by { rw [bx2.cell]; rfl }); have lx2 := bx2.lt; have TWO := hide (And.intro hw2 (And.intro hg2 (And.intro hn2 (And.intro hm2 bx2)))); clear hw2 hg2 hn2 hm2 bx2)
      have r2 : w2.ownsRow 0 100 3 (.slice al n cl) n (List.replicate (n * 3) (I m)) := (TWO.out).2.2.2.1 _ _ (row_frm R1.out (show Keep _ _ from (Frm.refl _ _).alloc _) (fun _ _ e => e))
      have R2 := hide r2
      clear r2
      go_upto_region 9 with (at_builtin; refine wpList_append_mark _ rfl (.tmp 39) (.tmp 43) 35 rfl 100 iD (.agg #[I 0, I 0, I 0]) 3 24 Tryz.underlying35 hiD hzD0 hzD1 hzD2 rfl (by decide) (.slice al n cl) n _ rfl (row_frm R2.out (show Keep _ _ from (Frm.refl _ _).alloc _) (fun _ _ e => e)) ⟨w2.heap.size, 0, none⟩ 3 3 (I m) rfl rfl (rep_cells _ [I m, I m, I m, I m, I m, I m, I m, I m, I m] _ _ (by simp) (I m) (by simp) _ rfl) (by unfold maxLen; omega) (by omega) ?_; intro v3 w3 hw3 hg3 hn3 hm3; have bx3 : Blk w3 w.heap.size #[I m, I m, I m] 100 := ((show Keep _ _ from (Frm.refl _ _).alloc _).blk (TWO.out).2.2.2.2).frm (grown_frm hg3) (fun e => by have := ((H.out).2.2.1.lt _ e).2; omega); have x30 : w3.cell? ⟨w.heap.size, 0, none⟩ = some (I m) := (by { rw [bx3.cell]; rfl }); have x31 : w3.cell? ⟨w.heap.size, 1, none⟩ = some (I m) := (by { rw [bx3.cell]; rfl }); have x32 : w3.cell? ⟨w.heap.size, 2, none⟩ = some (I m) := (by { rw [bx3.cell]; rfl }); have lx3 := bx3.lt; have THREE := hide (And.intro hw3 (And.intro hg3 (And.intro hn3 (And.intro hm3 bx3)))); clear hw3 hg3 hn3 hm3 bx3)
      have r3 : w3.ownsRow 0 100 3 (.slice al n cl) n (List.replicate (n * 3) (I m)) := (THREE.out).2.2.2.1 _ _ (row_frm R2.out (show Keep _ _ from (Frm.refl _ _).alloc _) (fun _ _ e => e))
      have f3 : Frm (fun x => (Value.slice al n cl).ownBlock = some x) w w3 :=
        ((((((HO.out).1.frm.trans2 (show Keep _ _ from (Frm.refl _ _).alloc _) (fun _ _ e => e.elim)).trans (grown_frm (ONE.out).2.1)).trans2 (show Keep _ _ from (Frm.refl _ _).alloc _) (fun _ _ e => e.elim)).trans (grown_frm (TWO.out).2.1)).trans2 (show Keep _ _ from (Frm.refl _ _).alloc _) (fun _ _ e => e.elim)).trans (grown_frm (THREE.out).2.1)
      have kk : ∀ {a b : World} (o : Obj), a = b.alloc o → Keep b a := fun o e => e ▸ (Frm.refl _ _).alloc o
      have q1 : w3.ownsRow 0 100 3 v1 (n + 1) (List.replicate ((n + 1) * 3) (I m)) := by
        have := (ONE.out).1
        rw [List.replicate_append_replicate, show n * 3 + 1 * 3 = (n + 1) * 3 from by omega] at this
        exact (THREE.out).2.2.2.1 _ _ (row_frm ((TWO.out).2.2.2.1 _ _ (row_frm this (show Keep _ _ from (Frm.refl _ _).alloc _) (fun _ _ e => e))) (show Keep _ _ from (Frm.refl _ _).alloc _) (fun _ _ e => e))
      have q2 : w3.ownsRow 0 100 3 v2 (n + 2) (List.replicate ((n + 2) * 3) (I m)) := by
        have := (TWO.out).1
        rw [List.replicate_append_replicate, show n * 3 + 2 * 3 = (n + 2) * 3 from by omega] at this
        exact (THREE.out).2.2.2.1 _ _ (row_frm this (show Keep _ _ from (Frm.refl _ _).alloc _) (fun _ _ e => e))
      have q3 : w3.ownsRow 0 100 3 v3 (n + 3) (List.replicate ((n + 3) * 3) (I m)) := by
        have := (THREE.out).1
        rw [List.replicate_append_replicate, show n * 3 + 3 * 3 = (n + 3) * 3 from by omega] at this
        exact this
      have hL3 : Lists w3 wb vp vd vl vm ds ms ls := (H.out).1.frm f3 (fun x hx e => (H.out).2.2.2 x e hx)
      have hfr : ∀ v ∈ [.slice al n cl, v1, v2, v3], ∀ x, v.ownBlock = some x → (Value.slice al n cl).ownBlock = some x ∨ w.heap.size ≤ x := by
        have z0 := (HO.out).1.frm.size
        have z1 := (ONE.out).2.1.size
        have z2 := (TWO.out).2.1.size
        simp at z1 z2
        intro v hv x hx
        simp only [List.mem_cons, List.not_mem_nil, or_false] at hv
        rcases hv with rfl | rfl | rfl | rfl
        · exact Or.inl hx
        · rcases (ONE.out).2.2.1 with e | ⟨e, -⟩
          · exact Or.inl (by rw [← e, hx])
          · rw [e] at hx; injection hx with hx; simp at hx; exact Or.inr (by omega)
        · rcases (TWO.out).2.2.1 with e | ⟨e, -⟩
          · exact Or.inl (by rw [← e, hx])
          · rw [e] at hx; injection hx with hx; simp at hx; exact Or.inr (by omega)
        · rcases (THREE.out).2.2.1 with e | ⟨e, -⟩
          · exact Or.inl (by rw [← e, hx])
          · rw [e] at hx; injection hx with hx; simp at hx; exact Or.inr (by omega)
      have hLlt : ∀ x, LF wb vp vd vl vm ds ls x → x < w.heap.size := (H.out).1.lt HP.out
      have hoff : ∀ v ∈ [.slice al n cl, v1, v2, v3], Off wb vp vd vl vm v := by
        intro v hv
        have hx : ∀ x, v.ownBlock = some x → ¬ LF wb vp vd vl vm ds ls x := fun x hx hLF => by
          rcases hfr v hv x hx with e | e
          · exact (H.out).2.2.2 x e hLF
          · have := hLlt x hLF; omega
        exact ⟨fun e => hx wb e (Or.inl rfl), fun x h1 h2 => hx x h1 (Or.inr (Or.inl h2)), fun x h1 h2 => hx x h1 (Or.inr (Or.inr (Or.inl h2))), fun x h1 h2 => hx x h1 (Or.inr (Or.inr (Or.inr (Or.inl h2)))), fun x h1 h2 => hx x h1 (Or.inr (Or.inr (Or.inr (Or.inr (Or.inl h2)))))⟩
      have hmk : ∀ v ∈ [.slice al n cl, v1, v2, v3], Marked w3 100 v m := by
        intro v hv
        simp only [List.mem_cons, List.not_mem_nil, or_false] at hv
        rcases hv with rfl | rfl | rfl | rfl
        · exact ⟨n, by omega, by rw [flat_mark]; exact r3⟩
        · exact ⟨n + 1, by omega, by rw [flat_mark]; exact q1⟩
        · exact ⟨n + 2, by omega, by rw [flat_mark]; exact q2⟩
        · exact ⟨n + 3, by omega, by rw [flat_mark]; exact q3⟩
      obtain ⟨a1, p1, e1⟩ := row_slice q1
      obtain ⟨a2, p2, e2⟩ := row_slice q2
      obtain ⟨a3, p3, e3⟩ := row_slice q3
      subst e1 e2 e3
      obtain ⟨ad, cd, hvd⟩ := row_slice hL3.doses
      have y1 : w3.cell? ⟨wb, 1, none⟩ = some vd := by rw [hL3.head.cell]; rfl
      have g1 := hL3.head.frozen 1
      have y3 : w3.cell? ⟨wb, 3, none⟩ = some vm := by rw [hL3.head.cell]; rfl
      rw [hvd] at y1
      have lw3 := hL3.head.lt
      have FIN := hide (And.intro hL3 (And.intro f3 (And.intro hmk (And.intro hoff hfr))))
      have HVD := hide hvd
      clear r3 f3 q1 q2 q3 hL3 hfr hoff hmk hLlt kk hvd
      go_upto_region 10 with (at_builtin; refine wpList_append_row _ rfl (.tmp 49) (.tmp 54) 53 rfl 35 iS (.slice none 0 0) 1 24 Tryz.underlying53 hiS hzS0 hzS1 hzS2 rfl (by decide) (.slice ad ds.length cd) ds.length ds rfl (by rw [← HVD.out]; exact row_frm (FIN.out).1.doses (show Keep _ _ from (Frm.refl _ _).alloc _) (fun _ _ e => e)) ⟨w3.heap.size, 0, none⟩ 4 4 [.slice al n cl, .slice a1 (n + 1) p1, .slice a2 (n + 2) p2, .slice a3 (n + 3) p3] rfl rfl (cell_news _ [.slice al n cl, .slice a1 (n + 1) p1, .slice a2 (n + 2) p2, .slice a3 (n + 3) p3] _ _ (by simp)) (by intro u hu; simp at hu; rcases hu with rfl | rfl | rfl | rfl <;> rfl) (by unfold maxLen; omega) (by omega) ?_; intro v4 w4 hr4 hg4 hn4; rw [← HVD.out] at hg4 hn4; obtain ⟨a4, p4, hv4⟩ := row_slice hr4; subst hv4; have bb4 := ((show Keep _ _ from (Frm.refl _ _).alloc _).blk (FIN.out).1.head).frm (grown_frm hg4) (H.out).2.1.bd; have c41 : w4.cell? ⟨wb, 1, none⟩ = some (.slice ad ds.length cd) := (by { rw [bb4.cell, ← HVD.out]; rfl }); have f41 := bb4.frozen 1; have c43 : w4.cell? ⟨wb, 3, none⟩ = some (.slice am ms.length cm) := (by { rw [bb4.cell, ← HVM.out]; rfl }); have f43 := bb4.frozen 3; have lw4 := bb4.lt; have FOUR := hide (And.intro hr4 (And.intro hg4 (And.intro hn4 bb4))); clear hr4 hg4 hn4 bb4)
      go_wp2_with (at_builtin; refine wpList_append_row _ rfl (.tmp 62) (.tmp 67) 55 rfl 3 iI (I 0) 1 8 Tryz.underlying55 hiI hzI0 hzI1 hzI2 rfl (by decide) (.slice am ms.length cm) ms.length (ms.map I) rfl (by rw [← HVM.out]; exact row_frm (grow_off (k := 1) (wb := wb) (show Keep _ _ from (Frm.refl _ _).alloc _) (FOUR.out).2.1 (FIN.out).1.marks (H.out).2.1.dm.symm (H.out).2.1.bm _) (show Keep _ _ from (Frm.refl _ _).alloc _) (fun _ _ e => e)) ⟨w4.heap.size, 0, none⟩ 4 4 [I m, I m, I m, I m] rfl rfl (cell_news _ [I m, I m, I m, I m] _ _ (by simp)) (by intro u hu; simp at hu; subst hu; rfl) (by unfold maxLen; omega) (by omega) ?_; intro v6 w6 hr6 hg6 hn6; rw [← HVM.out] at hg6 hn6; obtain ⟨a6, p6, hv6⟩ := row_slice hr6; subst hv6; have bb6 := ((show Keep _ _ from (Frm.refl _ _).alloc _).blk ((FOUR.out).2.2.2.set 1 _)).frm (grown_frm hg6) (H.out).2.1.bm; have c63 : w6.cell? ⟨wb, 3, none⟩ = some (.slice am ms.length cm) := (by { rw [bb6.cell, ← HVM.out]; rfl }); have f63 := bb6.frozen 3; have SIX := hide (And.intro hr6 (And.intro hg6 hn6)); clear hr6 hg6 hn6 bb6)
      go_end0
      refine ⟨rfl, own_fin HP.out (FIN.out).1 (H.out).2.1 (FIN.out).2.1 (FIN.out).2.2.1 (FIN.out).2.2.2.1 (FIN.out).2.2.2.2 (show Keep _ _ from (Frm.refl _ _).alloc _) (FOUR.out).2.1 (FOUR.out).1 (FOUR.out).2.2.1 (show Keep _ _ from (Frm.refl _ _).alloc _) (SIX.out).2.1 (SIX.out).1 (SIX.out).2.2⟩

end Go.Proofs.YtpilmkipbbengaaGreatDoor

/- driplaw: lend. -/
namespace Go.Proofs.YtpilmkipbbengaaGreatDoor
open Go.RowKit

def mk77 : Lim := ⟨0, 0, -77⟩
/-- what is handed in, with its marks -/
def lent (lims : List Lim) (k : Nat) : List Lim := lims ++ List.replicate k mk77

structure LendSt (w wr : World) (c lock : Int) (a : Option Addr) (n cap : Nat) (lims : List Lim) (v : Value) (k : Nat) : Prop where
  keep : Keep w wr
  box : Blk wr w.heap.size #[I c, .slice a n cap, I lock] 30
  res : Blk wr (w.heap.size + 1) #[I 0, .slice none 0 0, I 0] 30
  row : wr.ownsRow 0 60 3 v (lims.length + k) ((lent lims k).flatMap limC)
  new : ∀ x, v.ownBlock = some x → w.heap.size + 1 < x

theorem LendSt.next {w wr W w2 : World} {c lock : Int} {a : Option Addr} {n cap : Nat} {lims : List Lim} {v v' : Value} {k : Nat} (h : LendSt w wr c lock a n cap lims v k) (kW : Keep wr W) (hg : W.grownBy w2 v.ownBlock) (hn : v'.ownBlock = v.ownBlock ∨ (v'.ownBlock = some W.heap.size ∧ W.grownBy w2 none))
    (hr : w2.ownsRow 0 60 3 v' (lims.length + k + 1) ((lent lims k).flatMap limC ++ limC mk77)) : LendSt w w2 c lock a n cap lims v' (k + 1) := by
  have hs := kW.size
  have hl := h.res.lt
  refine ⟨(h.keep.trans kW).trans2 (grown_frm hg) (fun x hx e => by have := h.new x e; omega), (kW.blk h.box).frm (grown_frm hg) (fun e => by have := h.new _ e; omega), (kW.blk h.res).frm (grown_frm hg) (fun e => by have := h.new _ e; omega), ?_, ?_⟩
  · have e : (lent lims (k + 1)).flatMap limC = (lent lims k).flatMap limC ++ limC mk77 := by
      simp [lent, List.replicate_succ', List.flatMap_append]
    rw [e]; exact hr
  · intro x hx
    rcases hn with e | ⟨e, -⟩
    · rw [e] at hx; exact h.new x hx
    · rw [e] at hx; injection hx with hx; omega

def LendEnd (w : World) (c lock : Int) (lims : List Lim) (e : Ending) (w' : World) : Prop :=
  ∃ g cap, e = .returned (.tuple #[cfgV c (some ⟨g, 0, none⟩) lims.length cap lock, .slice (some ⟨g, 0, none⟩) (lims.length + 8) cap]) ∧ w'.ownsRow 0 60 3 (.slice (some ⟨g, 0, none⟩) (lims.length + 8) cap) (lims.length + 8) ((lent lims 8).flatMap limC) ∧ w.heap.size ≤ g ∧ Keep w w'

set_option maxRecDepth 100000 in
set_option maxHeartbeats 3200000 in
theorem lend_any (c : Int) (a : Option Addr) (lims : List Lim) (cap : Nat) (lock : Int) (w : World) (hs : SeeL w a lims) (hnone : a = none → lims.length = 0 ∧ cap = 0) (hn : lims.length ≤ 5864062014634) (_hcap : lims.length ≤ cap) :
    Calls Tryz.prog 69 #[cfgV c a lims.length cap lock] w fun e w' => LendEnd w c lock lims e w' := by
  obtain ⟨iL, hiL, hzL0, hzL1, hzL2⟩ := info_parts infoL
  have HS := hide (And.intro hs hnone)
  clear hs hnone
  go_enter Tryz.func69, Tryz.ntmps69
  go_upto_region 3 with (at_builtin; refine wpList_append_src _ rfl (.tmp 6) (.tmp 8) 28 rfl 60 iL (.agg #[I 0, I 0, I 0]) 3 24 Tryz.underlying28 hiL hzL0 hzL1 hzL2 rfl (by decide) (.slice none 0 0) 0 [] rfl (World.ownsRow_nil _ 0 _ _) a lims.length cap (lims.flatMap limC) rfl (flat_len limC 3 (fun _ => rfl) lims) (HS.out).2 (by exact ((HS.out).1.frm (((Frm.refl _ _).alloc _).alloc _) (fun _ _ _ e => e)).news) (limC_one lims) (by unfold maxLen; omega) (by omega) ?_; intro v0 w1 hown hgr hnew; rw [Nat.zero_add, List.nil_append] at hown; have ST0 := hide (And.intro hown (And.intro hgr hnew)); clear hown hgr hnew)
  have st0 : LendSt w w1 c lock a lims.length cap lims v0 0 := by
    obtain ⟨hown, hgr, hnew⟩ := ST0.out
    have kk : Keep w ((w.alloc (.cells #[I c, .slice a lims.length cap, I lock] 30)).alloc (.cells #[I 0, .slice none 0 0, I 0] 30)) := ((Frm.refl _ _).alloc _).alloc _
    refine ⟨kk.trans2 (grown_frm hgr) (fun x _ e => by simp [Value.ownBlock] at e), ((Blk.new _ _ _).alloc _).frm (grown_frm hgr) (by simp [Value.ownBlock]), ?_, ?_, ?_⟩
    · have := (Blk.new (w.alloc (.cells #[I c, .slice a lims.length cap, I lock] 30)) #[I 0, .slice none 0 0, I 0] 30).frm (grown_frm hgr) (by simp [Value.ownBlock])
      simpa using this
    · simpa [lent] using hown
    · intro x hx
      rcases hnew with e | ⟨e, -⟩
      · rw [e] at hx; simp [Value.ownBlock] at hx
      · rw [e] at hx; injection hx with hx; simp at hx; omega
  have HST := hide st0
  clear st0 ST0
  go_wp2_with fail
  go_loopg [4, 5] 8 (fun q v i wr => ∃ j : Nat, q + j = 8 ∧ i = I j ∧ Hid (LendSt w wr c lock a lims.length cap lims v j))
  case atStart => exact ⟨0, by omega, rfl, HST.out⟩
  case round =>
    obtain ⟨j, hq, rfl, hst⟩ := hrel
    have hs := hst.out
    have b0 : wr.cell? ⟨w.heap.size, 0, none⟩ = some (I c) := by rw [hs.box.cell]; rfl
    have b1 : wr.cell? ⟨w.heap.size, 1, none⟩ = some (.slice a lims.length cap) := by rw [hs.box.cell]; rfl
    have b2 : wr.cell? ⟨w.heap.size, 2, none⟩ = some (I lock) := by rw [hs.box.cell]; rfl
    obtain ⟨av, cv, hv⟩ := row_slice hs.row
    subst hv
    by_cases hj : j < 8
    · have HH := hide (And.intro hs hq)
      clear hs hst hq
      go_wp2_with (at_builtin; refine wpList_append_row _ rfl (.tmp 14) (.tmp 16) 28 rfl 60 iL (.agg #[I 0, I 0, I 0]) 3 24 Tryz.underlying28 hiL hzL0 hzL1 hzL2 rfl (by decide) (.slice av (lims.length + j) cv) (lims.length + j) _ rfl (row_frm (HH.out).1.row (show Keep _ _ from (Frm.refl _ _).alloc _) (fun _ _ e => e)) ⟨wr.heap.size, 0, none⟩ 1 1 [I 0, I 0, I (-77)] rfl rfl (cell_news _ [I 0, I 0, I (-77)] _ _ (by simp)) (by intro u hu; simp at hu; rcases hu with rfl | rfl <;> rfl) (by unfold maxLen; omega) (by omega) ?_; intro v' w2 hown hgr hnew)
      go_roundg (gk - 1)
      case measure => have := (HH.out).2; omega
      case rel => exact ⟨j + 1, by have := (HH.out).2; omega, by simp, LendSt.next (HH.out).1 (show Keep _ _ from (Frm.refl _ _).alloc _) hgr hnew hown⟩
    · have hje : j = 8 := by omega
      subst hje
      have r0 : wr.cell? ⟨w.heap.size + 1, 0, none⟩ = some (I 0) := by rw [hs.res.cell]; rfl
      have r1 : wr.cell? ⟨w.heap.size + 1, 1, none⟩ = some (.slice none 0 0) := by rw [hs.res.cell]; rfl
      have r2 : wr.cell? ⟨w.heap.size + 1, 2, none⟩ = some (I 0) := by rw [hs.res.cell]; rfl
      have f0 := hs.res.frozen 0
      have f1 := hs.res.frozen 1
      have f2 := hs.res.frozen 2
      obtain ⟨g, cg, hvg, -, -, hgl⟩ := row_cells hs.row (by omega)
      simp at hvg
      obtain ⟨rfl, rfl⟩ := hvg
      have hcg : lims.length + 8 ≤ cv := by
        rcases hs.row.2 with ⟨e, -⟩ | ⟨g', cap', cur, e, -, -, r3, -⟩
        · simp at e
        · simp at e; omega
      have HH := hide hs
      clear hs hst hq
      go_wp2_with fail
      go_region
      all_goals go_wp2_with fail
      have hnew := (HH.out).new g rfl
      have hS : (fun x => x = w.heap.size + 1) (w.heap.size + 1) := rfl
      have fr : Frm (fun x => x = w.heap.size + 1) wr (((wr.setCell ⟨w.heap.size + 1, 0, none⟩ (I c)).setCell ⟨w.heap.size + 1, 1, none⟩ (.slice (some ⟨g, 0, none⟩) lims.length cv)).setCell ⟨w.heap.size + 1, 2, none⟩ (I lock)).drew :=
        ((((Frm.refl (fun x => x = w.heap.size + 1) wr).setCell (p := ⟨w.heap.size + 1, 0, none⟩) hS (I c)).setCell (p := ⟨w.heap.size + 1, 1, none⟩) hS (.slice (some ⟨g, 0, none⟩) lims.length cv)).setCell (p := ⟨w.heap.size + 1, 2, none⟩) hS (I lock)).drew
      have rw' := row_frm (HH.out).row fr (fun g' hg' e => by simp [Value.ownBlock] at hg'; omega)
      have kp : Keep w _ := (HH.out).keep.trans2 fr (fun x hx e => by omega)
      have fin : LendEnd w c lock lims (.returned (.tuple #[cfgV c (some ⟨g, 0, none⟩) lims.length cv lock, .slice (some ⟨g, 0, none⟩) (lims.length + 8) cv])) (((wr.setCell ⟨w.heap.size + 1, 0, none⟩ (I c)).setCell ⟨w.heap.size + 1, 1, none⟩ (.slice (some ⟨g, 0, none⟩) lims.length cv)).setCell ⟨w.heap.size + 1, 2, none⟩ (I lock)).drew := ⟨g, cv, rfl, rw', by omega, kp⟩
      refine bodyPost_ret (v := .tuple #[.agg #[I c, .slice (some ⟨g, 0, none⟩) lims.length cv, I lock], .slice (some ⟨g, 0, none⟩) (lims.length + 8) cv]) ?_ rfl fin
      clear fin kp rw' fr hnew
      simp [results, Tryz.results69, go_sem, r0, r1, r2]

end Go.Proofs.YtpilmkipbbengaaGreatDoor

/- driplaw: whole. -/
namespace Go.Proofs.YtpilmkipbbengaaGreatDoor
open Go.RowKit

def mk99 : Lim := ⟨-99, -99, -99⟩
theorem lim99 (n : Nat) : (List.replicate n mk99).flatMap limC = (List.replicate n (-99)).flatMap markC := by
  induction n with
  | zero => rfl
  | succ n ih => simp only [List.replicate_succ, List.flatMap_cons, ih]; rfl

theorem SeeL.frm' {S : Nat → Prop} {w w' : World} {a : Option Addr} {lims : List Lim} (h : SeeL w a lims) (f : Frm S w w') (hs : lims ≠ [] → ∀ g o, a = some ⟨g, o, none⟩ → ¬ S g) : SeeL w' a lims := by
  by_cases e : lims = []
  · exact Or.inl e
  · exact h.frm f (hs e)

/-- on the way through whole: j elements are written over -/
structure WholeSt (w wr : World) (g k cap : Nat) (ll : List Lim) (j : Nat) : Prop where
  row : wr.ownsRow 0 60 3 (.slice (some ⟨g, 0, none⟩) k cap) k ((List.replicate j mk99 ++ ll.drop j).flatMap limC)
  frm : Frm (fun x => x = g) w wr

theorem WholeSt.keep {w wr w2 : World} {g k cap : Nat} {ll : List Lim} {j : Nat} (h : WholeSt w wr g k cap ll j) (kk : Keep wr w2) : WholeSt w w2 g k cap ll j :=
  ⟨row_frm h.row kk (fun _ _ e => e), h.frm.trans2 kk (fun _ _ e => e.elim)⟩

theorem WholeSt.set {w wr : World} {g k cap : Nat} {ll : List Lim} {j : Nat} (h : WholeSt w wr g k cap ll j) {x : Lim} (hx : ll[j]? = some x) :
    WholeSt w (((wr.setCell ⟨g, j * 3, none⟩ (I (-99))).setCell ⟨g, j * 3 + 1, none⟩ (I (-99))).setCell ⟨g, j * 3 + 2, none⟩ (I (-99))) g k cap ll (j + 1) := by
  have hj : j < ll.length := (List.getElem?_eq_some_iff.1 hx).1
  have hd : ll.drop j = x :: ll.drop (j + 1) := by
    obtain ⟨lj, vj⟩ := List.getElem?_eq_some_iff.1 hx
    rw [List.drop_eq_getElem_cons lj, vj]
  have h0 := h.row
  rw [hd] at h0
  have gx : ∀ y : Lim, (List.replicate j mk99 ++ y :: ll.drop (j + 1))[j]? = some y := fun y => by rw [List.getElem?_append_right (by simp)]; simp
  have sx : ∀ y z : Lim, (List.replicate j mk99 ++ y :: ll.drop (j + 1)).set j z = List.replicate j mk99 ++ z :: ll.drop (j + 1) := fun y z => by rw [List.set_append_right _ _ (by simp)]; simp
  have r1 := row_set h0 (fun _ => rfl) (gx x) (i := 0) (by decide) (u := I (-99)) (x' := { x with ch := -99 }) rfl
  rw [sx] at r1
  have r2 := row_set r1 (fun _ => rfl) (gx _) (i := 1) (by decide) (u := I (-99)) (x' := { x with ch := -99, win := -99 }) rfl
  rw [sx] at r2
  have r3 := row_set r2 (fun _ => rfl) (gx _) (i := 2) (by decide) (u := I (-99)) (x' := mk99) rfl
  rw [sx] at r3
  have hS : (fun x => x = g) g := rfl
  refine ⟨?_, (((h.frm.setCell (S := fun x => x = g) (p := ⟨g, j * 3, none⟩) hS _).setCell (S := fun x => x = g) (p := ⟨g, j * 3 + 1, none⟩) hS _).setCell (S := fun x => x = g) (p := ⟨g, j * 3 + 2, none⟩) hS _)⟩
  rw [List.replicate_succ', List.append_assoc]
  exact r3

/-- what whole leaves -/
def WholeEnd (w : World) (wb : Nat) (vp vd vl vm : Value) (ds : List Value) (ms : List Int) (ls : List Value) (g k cap : Nat) (w' : World) : Prop :=
  ∃ vl', Lists w' wb vp vd vl' vm ds ms (ls ++ [.slice (some ⟨g, 0, none⟩) k cap]) ∧ LSep wb vp vd vl' vm ds (ls ++ [.slice (some ⟨g, 0, none⟩) k cap]) ∧ Frm (fun x => x = wb ∨ vl.ownBlock = some x ∨ x = g) w w' ∧
    (∀ x, LF wb vp vd vl' vm ds (ls ++ [.slice (some ⟨g, 0, none⟩) k cap]) x → LF wb vp vd vl vm ds ls x ∨ x = g ∨ w.heap.size ≤ x)

theorem whole_fin {w w3 W4 w4 : World} {wb : Nat} {vp vd vl vm vl' : Value} {ds : List Value} {ms : List Int} {ls : List Value} {g k cap : Nat} (hk : k ≤ 6000000000000) (hp : ∀ x, vp.ownBlock = some x → x < w.heap.size) (h : Lists w3 wb vp vd vl vm ds ms ls) (sep : LSep wb vp vd vl vm ds ls)
    (f3 : Frm (fun x => x = g) w w3) (hr : w3.ownsRow 0 60 3 (.slice (some ⟨g, 0, none⟩) k cap) k ((List.replicate k mk99).flatMap limC)) (ho : Off wb vp vd vl vm (.slice (some ⟨g, 0, none⟩) k cap))
    (k4 : Keep w3 W4) (g4 : W4.grownBy w4 vl.ownBlock) (r4 : w4.ownsRow 0 28 1 vl' (ls.length + 1) (ls ++ [.slice (some ⟨g, 0, none⟩) k cap])) (n4 : vl'.ownBlock = vl.ownBlock ∨ (vl'.ownBlock = some W4.heap.size ∧ W4.grownBy w4 none)) :
    WholeEnd w wb vp vd vl vm ds ms ls g k cap (w4.setCell ⟨wb, 2, none⟩ vl') := by
  have lwb := h.head.lt
  have s3 := f3.size
  have s4 := k4.size
  have lt3 : ∀ {T s v n xs}, w3.ownsRow 0 T s v n xs → ∀ x, v.ownBlock = some x → x < w3.heap.size := fun hr x hx => (hr.lt x hx).2
  have hp3 : ∀ x, vp.ownBlock = some x → x < w3.heap.size := fun x hx => by have := hp x hx; omega
  have d1 : ∀ {T s v n xs}, w3.ownsRow 0 T s v n xs → Dis v vl → v.ownBlock ≠ some wb → (w4.setCell ⟨wb, 2, none⟩ vl').ownsRow 0 T s v n xs := fun hr hd hb => grow_off k4 g4 hr hd hb vl'
  have bl' : vl'.ownBlock ≠ some wb := fresh_ne k4 n4 lwb sep.bl
  have off' : ∀ v, (∀ x, v.ownBlock = some x → x < w3.heap.size) → Off wb vp vd vl vm v → Off wb vp vd vl' vm v := fun v hv o => ⟨o.b, o.p, o.d, (fresh_dis k4 n4 hv o.l.symm).symm, o.m⟩
  have mlt : ∀ {T v m}, Marked w3 T v m → ∀ x, v.ownBlock = some x → x < w3.heap.size := fun ⟨_, _, hr⟩ => lt3 hr
  have mk : ∀ {T v m}, Marked w3 T v m → Off wb vp vd vl vm v → Marked (w4.setCell ⟨wb, 2, none⟩ vl') T v m := fun ⟨n, hn, hr⟩ o => ⟨n, hn, d1 hr o.l o.b⟩
  have hg : Marked w3 60 (.slice (some ⟨g, 0, none⟩) k cap) (-99) := ⟨k, hk, by rw [← lim99]; exact hr⟩
  have dlt : ∀ v ∈ ds, ∀ x, v.ownBlock = some x → x < w3.heap.size := by
    intro v hv
    obtain ⟨i, hi⟩ := List.getElem?_of_mem hv
    have hil : i < ms.length := by rw [← h.len]; exact (List.getElem?_eq_some_iff.1 hi).1
    exact mlt (h.dm i v _ hi (List.getElem?_eq_getElem hil))
  refine ⟨vl', ⟨?_, d1 h.doses sep.dl sep.bd, d1 h.marks sep.lm.symm sep.bm, ?_, h.len, fun i v m h1 h2 => mk (h.dm i v m h1 h2) (sep.ds v (List.mem_of_getElem? h1)), ?_⟩, ⟨sep.bp, sep.bd, bl', sep.bm, sep.pd, (fresh_dis k4 n4 hp3 sep.pl.symm).symm, sep.pm, (fresh_dis k4 n4 (lt3 h.doses) sep.dl.symm).symm, sep.dm, fresh_dis k4 n4 (lt3 h.marks) sep.lm, fun v hv => off' v (dlt v hv) (sep.ds v hv), ?_⟩, ?_, ?_⟩
  · have b4 := ((k4.blk h.head).frm (grown_frm g4) sep.bl).set 2 vl'
    simpa using b4
  · have := row_of_block r4 (w' := w4.setCell ⟨wb, 2, none⟩ vl') fun g hg => Below.heap_setCell _ _ _ _ fun e => bl' (by rw [hg, e])
    simpa using this
  · intro v hv
    rcases List.mem_append.1 hv with hv | hv
    · exact mk (h.lm v hv) (sep.ls v hv)
    · simp at hv; subst hv; exact mk hg ho
  · intro v hv
    rcases List.mem_append.1 hv with hv | hv
    · exact off' v (mlt (h.lm v hv)) (sep.ls v hv)
    · simp at hv; subst hv; exact off' _ (mlt hg) ho
  · refine (((f3.mono ?_).trans2 k4 (fun _ _ e => e.elim)).trans2 (grown_frm g4) ?_).setCell (Or.inl rfl) _
    · exact fun x _ e => Or.inr (Or.inr e)
    · exact fun x _ e => Or.inr (Or.inl e)
  · rintro x (e | e | e | e | e | e | ⟨v, hv, e⟩)
    · exact Or.inl (Or.inl e)
    · exact Or.inl (Or.inr (Or.inl e))
    · exact Or.inl (Or.inr (Or.inr (Or.inl e)))
    · rcases n4 with h' | ⟨h', -⟩
      · exact Or.inl (Or.inr (Or.inr (Or.inr (Or.inl (by rw [← h', e])))))
      · rw [h'] at e; injection e with e; exact Or.inr (Or.inr (by omega))
    · exact Or.inl (Or.inr (Or.inr (Or.inr (Or.inr (Or.inl e)))))
    · exact Or.inl (Or.inr (Or.inr (Or.inr (Or.inr (Or.inr (Or.inl e))))))
    · rcases List.mem_append.1 hv with hv | hv
      · exact Or.inl (Or.inr (Or.inr (Or.inr (Or.inr (Or.inr (Or.inr ⟨v, hv, e⟩))))))
      · simp at hv; subst hv; simp [Value.ownBlock] at e; exact Or.inr (Or.inl e.symm)

theorem infoSL : (Tryz.prog.info? 28).map (fun i => (i.zero, i.size, i.bytes)) = some (some (.slice none 0 0), 1, 24) := by kernel_rfl

set_option maxRecDepth 100000 in
set_option maxHeartbeats 3200000 in
theorem whole_any (wb : Nat) (vp vd vl vm : Value) (ds : List Value) (ms : List Int) (ls : List Value) (g cap : Nat) (a : Option Addr) (capl : Nat) (lims : List Lim) (w : World) (h : Lists w wb vp vd vl vm ds ms ls) (sep : LSep wb vp vd vl vm ds ls)
    (hr : w.ownsRow 0 60 3 (.slice (some ⟨g, 0, none⟩) (lims.length + 8) cap) (lims.length + 8) ((lent lims 8).flatMap limC)) (hg : ¬ LF wb vp vd vl vm ds ls g) (hs : SeeL w a lims) (ha : lims ≠ [] → ∀ g' o, a = some ⟨g', o, none⟩ → g' ≠ g) (hn : lims.length ≤ 5864062014634) (hl : ls.length ≤ 5800000000000) (hp : ∀ x, vp.ownBlock = some x → x < w.heap.size) :
    Calls Tryz.prog 71 #[.pointer (some ⟨wb, 0, none⟩), .slice (some ⟨g, 0, none⟩) (lims.length + 8) cap, .slice a lims.length capl] w fun r w' => r = .returned (.bool true) ∧ WholeEnd w wb vp vd vl vm ds ms ls g (lims.length + 8) cap w' := by
  obtain ⟨iS, hiS, hzS0, hzS1, hzS2⟩ := info_parts infoSL
  have H := hide (And.intro h (And.intro sep (And.intro hg (And.intro hs (And.intro ha (And.intro hp hr))))))
  have hll : (lent lims 8).length = lims.length + 8 := by simp [lent]
  have HLL := hide hll
  clear h sep hr hg hs ha hp hll
  go_enter Tryz.func71, Tryz.ntmps71
  go_wp2_with fail
  go_loopg [7, 8, 9] (lims.length + 8) (fun q ok i _ wr => ∃ j : Nat, q + j = lims.length + 8 ∧ ok = .bool true ∧ i = I j ∧ Hid (WholeSt w wr g (lims.length + 8) cap (lent lims 8) j))
  case atStart => exact ⟨0, by omega, rfl, rfl, ⟨by simpa using (H.out).2.2.2.2.2.2, Frm.refl _ _⟩⟩
  case round =>
    obtain ⟨j, hq, rfl, rfl, hst⟩ := hrel
    have hs := hst.out
    by_cases hj : j < lims.length + 8
    · obtain ⟨x, hx⟩ : ∃ x, (lent lims 8)[j]? = some x := ⟨_, List.getElem?_eq_getElem (by rw [HLL.out]; exact hj)⟩
      have hxl : (List.replicate j mk99 ++ (lent lims 8).drop j)[j]? = some x := by
        rw [List.getElem?_append_right (by simp)]; simp [hx]
      obtain ⟨g', cap', hv, -, hcell, hfz⟩ := row_at hs.row (fun _ => rfl) hxl (by decide)
      simp at hv
      obtain ⟨rfl, rfl⟩ := hv
      have d0 := hcell 0 (by decide)
      have d1 := hcell 1 (by decide)
      have d2 := hcell 2 (by decide)
      simp [limC] at d0 d1 d2
      have f0 := hfz (j * 3)
      have f1 := hfz (j * 3 + 1)
      have f2 := hfz (j * 3 + 2)
      have lg : g < wr.heap.size := by simpa using World.block_lt_of_cell? _ _ d0
      have nx : ∀ (wz : World), Keep wr wz → ∃ k' : Nat, k' < gk ∧ ∃ j' : Nat, k' + j' = lims.length + 8 ∧ I ((j : Int) + 1) = I j' ∧ Hid (WholeSt w (((wz.setCell ⟨g, j * 3, none⟩ (I (-99))).setCell ⟨g, j * 3 + 1, none⟩ (I (-99))).setCell ⟨g, j * 3 + 2, none⟩ (I (-99))) g (lims.length + 8) cap (lent lims 8) j') :=
        fun wz kz => ⟨gk - 1, by omega, j + 1, by omega, by simp, (hs.keep kz).set hx⟩
      have NX := hide nx
      by_cases hjl : j < lims.length
      · obtain ⟨l, hl'⟩ : ∃ l, lims[j]? = some l := ⟨_, List.getElem?_eq_getElem hjl⟩
        have hxe : x = l := by
          have := hx; rw [lent, List.getElem?_append_left hjl, hl'] at this; injection this with this; exact this.symm
        subst hxe
        have hsee := (H.out).2.2.2.1.frm' hs.frm (fun hne g' o e => (H.out).2.2.2.2.1 hne g' o e)
        rcases hsee with e | ⟨g2, o, hao, hg2, hcells⟩
        · rw [e] at hjl; simp at hjl
        obtain ⟨e0, e1, e2⟩ := hcells j x hl'
        subst hao
        clear nx hcell hfz hst hs hq hcells hx hxl hl'
        go_wp2_with fail
        go_quiet (fail)
        go_wp2_with fail
        refine (over_any _).mono ?_
        rintro e w2 ⟨rfl, k2⟩
        have kk : Keep wr w2 := (((Frm.refl _ _).alloc _).drewN _).trans k2
        have m0 : w2.cell? ⟨g, j * 3, none⟩ = some (I x.ch) := kk.cell d0 (fun e => e)
        have m1 : w2.cell? ⟨g, j * 3 + 1, none⟩ = some (I x.win) := kk.cell d1 (fun e => e)
        have m2 : w2.cell? ⟨g, j * 3 + 2, none⟩ = some (I x.cap) := kk.cell d2 (fun e => e)
        have n0 : w2.frozen? ⟨g, j * 3, none⟩ = false := kk.frozen lg f0 (fun e => e)
        have n1 : w2.frozen? ⟨g, j * 3 + 1, none⟩ = false := kk.frozen lg f1 (fun e => e)
        have n2 : w2.frozen? ⟨g, j * 3 + 2, none⟩ = false := kk.frozen lg f2 (fun e => e)
        have KK := hide kk
        clear kk k2 d0 d1 d2 f0 f1 f2
        go_wp2_with fail
        obtain ⟨k', z1, z2⟩ := NX.out w2 KK.out
        go_roundg k'
        case measure => exact z1
        case rel => obtain ⟨j', q1, q2, q3⟩ := z2; exact ⟨j', q1, rfl, q2, q3⟩
      · have hxe : x = mk77 := by
          have := hx; rw [lent, List.getElem?_append_right (by omega)] at this
          rw [List.getElem?_replicate] at this
          split at this
          · injection this with this; exact this.symm
          · cases this
        subst hxe
        clear nx hcell hfz hst hs hq hx hxl
        change wr.cell? ⟨g, j * 3, none⟩ = some (I 0) at d0
        change wr.cell? ⟨g, j * 3 + 1, none⟩ = some (I 0) at d1
        change wr.cell? ⟨g, j * 3 + 2, none⟩ = some (I (-77)) at d2
        go_wp2_with fail
        go_quiet (fail)
        go_wp2_with fail
        refine (over_any _).mono ?_
        rintro e w2 ⟨rfl, k2⟩
        have kk : Keep wr w2 := (((Frm.refl _ _).alloc _).drewN _).trans k2
        have m0 : w2.cell? ⟨g, j * 3, none⟩ = some (I 0) := kk.cell d0 (fun e => e)
        have m1 : w2.cell? ⟨g, j * 3 + 1, none⟩ = some (I 0) := kk.cell d1 (fun e => e)
        have m2 : w2.cell? ⟨g, j * 3 + 2, none⟩ = some (I (-77)) := kk.cell d2 (fun e => e)
        have n0 : w2.frozen? ⟨g, j * 3, none⟩ = false := kk.frozen lg f0 (fun e => e)
        have n1 : w2.frozen? ⟨g, j * 3 + 1, none⟩ = false := kk.frozen lg f1 (fun e => e)
        have n2 : w2.frozen? ⟨g, j * 3 + 2, none⟩ = false := kk.frozen lg f2 (fun e => e)
        have KK := hide kk
        clear kk k2 d0 d1 d2 f0 f1 f2
        go_wp2_with fail
        obtain ⟨k', z1, z2⟩ := NX.out w2 KK.out
        go_roundg k'
        case measure => exact z1
        case rel => obtain ⟨j', q1, q2, q3⟩ := z2; exact ⟨j', q1, rfl, q2, q3⟩
    · have hje : j = lims.length + 8 := by omega
      have hr3 : wr.ownsRow 0 60 3 (.slice (some ⟨g, 0, none⟩) (lims.length + 8) cap) (lims.length + 8) ((List.replicate (lims.length + 8) mk99).flatMap limC) := by
        have := hs.row
        rw [hje, List.drop_eq_nil_of_le (by rw [HLL.out]; omega)] at this
        simpa using this
      have f3 := hs.frm
      have hL3 : Lists wr wb vp vd vl vm ds ms ls := (H.out).1.frm f3 (fun x hx e => (H.out).2.2.1 (by have e' : x = g := e; rw [← e']; exact hx))
      obtain ⟨al, cl, hvl⟩ := row_slice hL3.lent
      have y2 : wr.cell? ⟨wb, 2, none⟩ = some vl := by rw [hL3.head.cell]; rfl
      have g2 := hL3.head.frozen 2
      rw [hvl] at y2
      have lw := hL3.head.lt
      have hoff : Off wb vp vd vl vm (.slice (some ⟨g, 0, none⟩) (lims.length + 8) cap) := by
        have hx : ∀ x, (Value.slice (some ⟨g, 0, none⟩) (lims.length + 8) cap).ownBlock = some x → ¬ LF wb vp vd vl vm ds ls x := fun x hx hLF => by
          simp [Value.ownBlock] at hx; subst hx; exact (H.out).2.2.1 hLF
        exact ⟨fun e => hx wb e (Or.inl rfl), fun x h1 h2 => hx x h1 (Or.inr (Or.inl h2)), fun x h1 h2 => hx x h1 (Or.inr (Or.inr (Or.inl h2))), fun x h1 h2 => hx x h1 (Or.inr (Or.inr (Or.inr (Or.inl h2)))), fun x h1 h2 => hx x h1 (Or.inr (Or.inr (Or.inr (Or.inr (Or.inl h2)))))⟩
      have FIN := hide (And.intro hL3 (And.intro f3 (And.intro hr3 hoff)))
      have HVL := hide hvl
      clear hr3 f3 hL3 hoff hs hst hq hje hvl
      go_wp2_with (at_builtin; refine wpList_append_row _ rfl (.tmp 42) (.tmp 44) 54 rfl 28 iS (.slice none 0 0) 1 24 Tryz.underlying54 hiS hzS0 hzS1 hzS2 rfl (by decide) (.slice al ls.length cl) ls.length ls rfl (by rw [← HVL.out]; exact row_frm (FIN.out).1.lent (show Keep _ _ from (Frm.refl _ _).alloc _) (fun _ _ e => e)) ⟨wr.heap.size, 0, none⟩ 1 1 [.slice (some ⟨g, 0, none⟩) (lims.length + 8) cap] rfl rfl (cell_news _ [.slice (some ⟨g, 0, none⟩) (lims.length + 8) cap] _ _ (by simp)) (by intro u hu; simp at hu; subst hu; rfl) (by unfold maxLen; omega) (by omega) ?_; intro v4 w4 hr4 hg4 hn4; rw [← HVL.out] at hg4 hn4; obtain ⟨a4, p4, hv4⟩ := row_slice hr4; subst hv4; have bb4 := ((show Keep _ _ from (Frm.refl _ _).alloc _).blk (FIN.out).1.head).frm (grown_frm hg4) (H.out).2.1.bl; have c42 : w4.cell? ⟨wb, 2, none⟩ = some (.slice al ls.length cl) := (by { rw [bb4.cell, ← HVL.out]; rfl }); have f42 := bb4.frozen 2; have FOUR := hide (And.intro hr4 (And.intro hg4 hn4)); clear hr4 hg4 hn4 bb4)
      go_ret
      exact ⟨rfl, whole_fin (by omega) (H.out).2.2.2.2.2.1 (FIN.out).1 (H.out).2.1 (FIN.out).2.1 (FIN.out).2.2.1 (FIN.out).2.2.2 (show Keep _ _ from (Frm.refl _ _).alloc _) (FOUR.out).2.1 (FOUR.out).1 (FOUR.out).2.2⟩

end Go.Proofs.YtpilmkipbbengaaGreatDoor

/- What both pumps are to the law: one machine (RSt), two ways to hold it in memory. -/
namespace Go.Proofs.YtpilmkipbbengaaGreatDoor
open Go.RowKit

/-- the document's pump in memory -/
def ra : Rep := fun w F b R => ∃ vl vd vc vo, RefAt w b R vl vd vc vo ∧ F = RefF b vl vd vc vo

theorem ra_keep {w w' : World} {F : Nat → Prop} {b : Nat} {R : RSt} (h : ra w F b R) (k : Keep w w') : Moved ra w F b R w' := by
  obtain ⟨vl, vd, vc, vo, h, rfl⟩ := h
  exact ⟨k.mono (fun _ _ e => e.elim), _, ⟨vl, vd, vc, vo, h.keep k, rfl⟩, fun x hx => Or.inl hx⟩

theorem ref_pumpy : Pumpy 70 81 74 77 79 ra where
  frm := by
    rintro S w w' F b R ⟨vl, vd, vc, vo, h, rfl⟩ f hs
    exact ⟨vl, vd, vc, vo, h.frm f hs, rfl⟩
  lt := by
    rintro w F b R ⟨vl, vd, vc, vo, h, rfl⟩
    exact h.lt
  new := by
    intro c a lims cap lock w hs hn _
    refine (rNew_any c a lims cap lock w hs hn).mono ?_
    rintro e w' ⟨k, h | ⟨hf, b, vl, vc, rfl, hr, hx⟩⟩
    · exact ⟨k, Or.inl h⟩
    · exact ⟨k, Or.inr ⟨hf, b, _, rfl, ⟨vl, _, vc, _, hr, rfl⟩, hx⟩⟩
  basal := by
    rintro k rate ticks w F b R ⟨vl, vd, vc, vo, h, rfl⟩ ok _
    cases hb : basalBad R k rate ticks with
    | true =>
      refine (rBasal_no b R vl vd vc vo k rate ticks w h hb).mono ?_
      rintro e w' ⟨rfl, rfl⟩
      refine ⟨by simp [basalErr, hb], ?_⟩
      simp only [basalR, hb, if_true]
      exact ra_keep ⟨vl, vd, vc, vo, h, rfl⟩ (Frm.refl _ _)
    | false =>
      refine (rBasal_yes b R vl vd vc vo k rate ticks w h ok hb).mono ?_
      rintro e w' ⟨rfl, hr, hf⟩
      refine ⟨by simp [basalErr, hb], hf, _, ⟨vl, vd, vc, vo, ?_, rfl⟩, fun x hx => Or.inl hx⟩
      simpa [basalR, hb] using hr
  run := by
    rintro t w F b R ⟨vl, vd, vc, vo, h, rfl⟩ ok full
    by_cases h1 : t < 1 ∨ 100 < t
    · refine (rrun_arg b t w h1).mono ?_
      rintro e w' ⟨rfl, rfl⟩
      have e1 : runErr R t = 1 := by rw [runErr, if_pos h1]
      refine ⟨.slice none 0 0, by rw [e1], by simp [runDs, e1]; exact World.ownsRow_nil .., Frm.refl _ _, _, ⟨vl, vd, vc, vo, by simpa [runR, e1] using h, rfl⟩, fun x hx => Or.inl hx, fun x hx => by simp [Value.ownBlock] at hx⟩
    · by_cases h2 : 400 < R.now + t
      · refine (rrun_many b R vl vd vc vo t w h ok.now0 ok.now1 (by omega) (by omega) h2).mono ?_
        rintro e w' ⟨rfl, rfl⟩
        have e1 : runErr R t = 2 := by rw [runErr, if_neg h1, if_pos h2]
        refine ⟨.slice none 0 0, by rw [e1], by simp [runDs, e1]; exact World.ownsRow_nil .., Frm.refl _ _, _, ⟨vl, vd, vc, vo, by simpa [runR, e1] using h, rfl⟩, fun x hx => Or.inl hx, fun x hx => by simp [Value.ownBlock] at hx⟩
      · have e1 : runErr R t = 0 := by rw [runErr, if_neg h1, if_neg h2]
        obtain ⟨n, rfl⟩ := Int.eq_ofNat_of_zero_le (show 0 ≤ t by omega)
        have h0 := h.lt
        refine (rrun_any b R vl vd vc vo n w h ok full (by omega) (by omega) (by omega)).mono ?_
        rintro e w' ⟨vd', vout, rfl, hs⟩
        refine ⟨vout, by rw [e1], ?_, hs.frm, RefF b vl vd' vc vo, ⟨vl, vd', vc, vo, ?_, rfl⟩, ?_, ?_⟩
        · simp only [runDs, e1, if_true, Int.toNat_natCast]
          have := hs.out
          simpa using this
        · simpa [runR, e1] using hs.lie
        · rintro x (e | e | e | e | e)
          · exact Or.inl (Or.inl e)
          · exact Or.inl (Or.inr (Or.inl e))
          · rcases hs.nd with e' | ⟨g, e', hg⟩
            · exact Or.inl (Or.inr (Or.inr (Or.inl (by rw [← e', e]))))
            · rw [e'] at e; injection e with e; exact Or.inr (by omega)
          · exact Or.inl (Or.inr (Or.inr (Or.inr (Or.inl e))))
          · exact Or.inl (Or.inr (Or.inr (Or.inr (Or.inr e))))
        · intro x hx
          have hn := hs.no x hx
          refine ⟨hn, ?_⟩
          rintro (e | e | e | e | e)
          · have := h0 x (Or.inl e); omega
          · have := h0 x (Or.inr (Or.inl e)); omega
          · exact hs.sep x hx e
          · have := h0 x (Or.inr (Or.inr (Or.inr (Or.inl e)))); omega
          · have := h0 x (Or.inr (Or.inr (Or.inr (Or.inr e)))); omega
  room := by
    rintro k w F b R hra ok _
    obtain ⟨vl, vd, vc, vo, h, hF⟩ := id hra
    cases hk : isCh R k with
    | true =>
      refine (rRoom_yes b R vl vd vc vo k w h ok hk).mono ?_
      rintro e w' ⟨rfl, kk⟩
      exact ⟨by simp [roomV, hk], ra_keep hra kk⟩
    | false =>
      refine (rRoom_no b R vl vd vc vo k w h hk).mono ?_
      rintro e w' ⟨rfl, rfl⟩
      exact ⟨by simp [roomV, hk], ra_keep hra (Frm.refl _ _)⟩
  wait := by
    rintro k a w F b R hra ok _
    obtain ⟨vl, vd, vc, vo, h, hF⟩ := id hra
    by_cases hb : isCh R k = false ∨ a < 0 ∨ 1000 < a
    · refine (rWait_no b R vl vd vc vo k a w h hb).mono ?_
      rintro e w' ⟨rfl, rfl⟩
      exact ⟨Or.inl ⟨hb, rfl⟩, ra_keep hra (Frm.refl _ _)⟩
    · have hk : isCh R k = true := by
        cases hh : isCh R k with
        | true => rfl
        | false => exact absurd (Or.inl hh) hb
      have a0 : 0 ≤ a := by omega
      have a1 : a ≤ 1000 := by omega
      refine (rWait_yes b R vl vd vc vo k a w h ok hk a0 a1).mono ?_
      rintro e w' ⟨r, rfl, hr, kk⟩
      exact ⟨Or.inr ⟨hk, a0, a1, r, rfl, hr⟩, ra_keep hra kk⟩

end Go.Proofs.YtpilmkipbbengaaGreatDoor
