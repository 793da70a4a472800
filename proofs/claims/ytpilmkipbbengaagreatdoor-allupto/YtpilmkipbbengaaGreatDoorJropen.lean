/- dripref: Open. -/
import Derived.Test.YtpilmkipbbengaaGreatDoorJdM
import Derived.Test.YtpilmkipbbengaaGreatDoorJfM
import Derived.Deep.RegionHeld3
import Derived.Test.YtpilmkipbbengaaGreatDoorJref
import Derived.Test.YtpilmkipbbengaaGreatDoorLwM
namespace Go.Proofs.YtpilmkipbbengaaGreatDoor
open Go.RowKit

/-- a dose more -/
theorem RefAt.dosed {w W w5 : World} {b : Nat} {R : RSt} {vl vd vc vo v5 : Value} {d : Ds} (h : RefAt w b R vl vd vc vo) (kW : Keep w W) (hown : w5.ownsRow 0 100 3 v5 (R.doses.length + 1) (R.doses.flatMap dsC ++ [I d.tick, I d.ch, I d.amt])) (hg : W.grownBy w5 vd.ownBlock)
    (hnew : v5.ownBlock = vd.ownBlock ∨ (v5.ownBlock = some W.heap.size ∧ W.grownBy w5 none)) :
    RefAt (w5.setCell ⟨b, 4, none⟩ v5) b { R with doses := R.doses ++ [d] } vl v5 vc vo ∧ Frm (RefF b vl vd vc vo) w (w5.setCell ⟨b, 4, none⟩ v5) ∧ ∀ x, RefF b vl v5 vc vo x → RefF b vl vd vc vo x ∨ w.heap.size ≤ x := by
  have hlt := h.lt
  have hs := h.sep
  have f3 := grown_frm hg
  have hsz := kW.size
  have hnw : ∀ x, v5.ownBlock = some x → vd.ownBlock = some x ∨ w.heap.size ≤ x := by
    intro x hx
    rcases hnew with e | ⟨e, -⟩
    · exact Or.inl (by rw [← e]; exact hx)
    · rw [e] at hx; injection hx with hx; exact Or.inr (by omega)
  have f4 : Frm (fun x => x = b) w5 (w5.setCell ⟨b, 4, none⟩ v5) := (Frm.refl (fun x => x = b) w5).setCell (p := ⟨b, 4, none⟩) rfl v5
  have hbl := h.head.lt
  have keep3 : ∀ (v : Value) (T : TypeId) (s n : Nat) (xs : List Value), w.ownsRow 0 T s v n xs → Dis v vd → v.ownBlock ≠ some b → (w5.setCell ⟨b, 4, none⟩ v5).ownsRow 0 T s v n xs := by
    intro v T s n xs hr hd hnb
    exact row_frm (row_frm (row_frm hr kW fun _ _ e => e) f3 fun x hx e => hd x hx e) f4 fun x hx e => hnb (by rw [← e]; exact hx)
  refine ⟨⟨?_, keep3 vl _ _ _ _ h.lims hs.ld hs.bl, ?_, keep3 vc _ _ _ _ h.chs hs.dc.symm hs.bc, keep3 vo _ _ _ _ h.os hs.od.symm hs.bo, ?_⟩, ?_, ?_⟩
  · have h5 : Blk w5 b #[I R.chs.length, vl, I R.lock, I R.now, vd, vc, vo] 98 := (kW.blk h.head).frm f3 hs.bd
    have := h5.set 4 v5
    simpa using this
  · have e1 : (R.doses ++ [d]).flatMap dsC = R.doses.flatMap dsC ++ [I d.tick, I d.ch, I d.amt] := by simp [dsC]
    show (w5.setCell ⟨b, 4, none⟩ v5).ownsRow 0 100 3 v5 (R.doses ++ [d]).length ((R.doses ++ [d]).flatMap dsC)
    rw [e1, List.length_append]
    refine row_frm hown f4 fun x hx e => ?_
    rcases hnw x hx with q | q
    · exact hs.bd (by rw [← e]; exact q)
    · omega
  · have hb' : v5.ownBlock ≠ some b := by
      intro e
      rcases hnw b e with q | q
      · exact hs.bd q
      · omega
    have dd : ∀ (v : Value), (∀ x, v.ownBlock = some x → x < w.heap.size) → Dis v vd → Dis v v5 := by
      intro v hv hd x hx e
      rcases hnw x e with q | q
      · exact hd x hx q
      · have := hv x hx; omega
    refine ⟨hs.bl, hb', hs.bc, hs.bo, dd vl (fun x hx => hlt x (Or.inr (Or.inl hx))) hs.ld, hs.lc, hs.lo, (dd vc (fun x hx => hlt x (Or.inr (Or.inr (Or.inr (Or.inl hx))))) hs.dc.symm).symm, (dd vo (fun x hx => hlt x (Or.inr (Or.inr (Or.inr (Or.inr hx))))) hs.od.symm).symm, hs.co⟩
  · refine ((kW.mono (T := RefF b vl vd vc vo) fun _ _ e => e.elim).trans2 f3 fun x _ e => Or.inr (Or.inr (Or.inl e))).trans2 f4 fun x _ e => Or.inl e
  · rintro x (e | e | e | e | e)
    · exact Or.inl (Or.inl e)
    · exact Or.inl (Or.inr (Or.inl e))
    · rcases hnw x e with q | q
      · exact Or.inl (Or.inr (Or.inr (Or.inl q)))
      · exact Or.inr q
    · exact Or.inl (Or.inr (Or.inr (Or.inr (Or.inl e))))
    · exact Or.inl (Or.inr (Or.inr (Or.inr (Or.inr e))))

theorem RefAt.setNow {w : World} {b : Nat} {R : RSt} {vl vd vc vo : Value} (h : RefAt w b R vl vd vc vo) (n : Int) : RefAt (w.setCell ⟨b, 3, none⟩ (I n)) b { R with now := n } vl vd vc vo := by
  have hs := h.sep
  have f4 : Frm (fun x => x = b) w (w.setCell ⟨b, 3, none⟩ (I n)) := (Frm.refl (fun x => x = b) w).setCell (p := ⟨b, 3, none⟩) rfl (I n)
  have k : ∀ (v : Value) (T : TypeId) (s n' : Nat) (xs : List Value), w.ownsRow 0 T s v n' xs → v.ownBlock ≠ some b → (w.setCell ⟨b, 3, none⟩ (I n)).ownsRow 0 T s v n' xs := fun v T s n' xs hr hnb => row_frm hr f4 fun x hx e => hnb (by rw [← e]; exact hx)
  refine ⟨?_, k _ _ _ _ _ h.lims hs.bl, k _ _ _ _ _ h.doses hs.bd, k _ _ _ _ _ h.chs hs.bc, k _ _ _ _ _ h.os hs.bo, hs⟩
  have := h.head.set 3 (I n)
  simpa using this

/-- on the way through Open -/
structure ROp (w wr : World) (b : Nat) (R : RSt) (vl vd vc vo : Value) : Prop where
  lie : RefAt wr b R vl vd vc vo
  keep : Keep w wr
  new : ∀ x, RefF b vl vd vc vo x → w.heap.size ≤ x

theorem ROp.on {w wr W : World} {b : Nat} {R : RSt} {vl vd vc vo : Value} (h : ROp w wr b R vl vd vc vo) (k : Keep wr W) : ROp w W b R vl vd vc vo := ⟨h.lie.keep k, h.keep.trans k, h.new⟩

theorem ROp.dosed {w wr W w5 : World} {b : Nat} {R : RSt} {vl vd vc vo v5 : Value} {d : Ds} (h : ROp w wr b R vl vd vc vo) (kW : Keep wr W) (hown : w5.ownsRow 0 100 3 v5 (R.doses.length + 1) (R.doses.flatMap dsC ++ [I d.tick, I d.ch, I d.amt])) (hg : W.grownBy w5 vd.ownBlock)
    (hnew : v5.ownBlock = vd.ownBlock ∨ (v5.ownBlock = some W.heap.size ∧ W.grownBy w5 none)) : ROp w (w5.setCell ⟨b, 4, none⟩ v5) b { R with doses := R.doses ++ [d] } vl v5 vc vo := by
  obtain ⟨q1, q2, q3⟩ := h.lie.dosed kW hown hg hnew
  have sz := h.keep.size
  refine ⟨q1, h.keep.trans2 q2 fun x hx e => absurd (h.new x e) (by omega), fun x hx => ?_⟩
  rcases q3 x hx with e | e
  · exact h.new x e
  · omega

theorem ROp.setNow {w wr : World} {b : Nat} {R : RSt} {vl vd vc vo : Value} (h : ROp w wr b R vl vd vc vo) (n : Int) : ROp w (wr.setCell ⟨b, 3, none⟩ (I n)) b { R with now := n } vl vd vc vo :=
  ⟨h.lie.setNow n, h.keep.setNew (p := ⟨b, 3, none⟩) (h.new b (Or.inl rfl)) _, h.new⟩

theorem ROp.setRest {w wr : World} {b : Nat} {R : RSt} {vl vd vc vo : Value} (h : ROp w wr b R vl vd vc vo) {g cap k : Nat} (hv : vc = .slice (some ⟨g, 0, none⟩) R.chs.length cap) {c : RCh} (hc : R.chs[k]? = some c) : ROp w (wr.setCell ⟨g, k * 4 + 2, none⟩ (.bool true)) b { R with chs := R.chs.set k (restC c) } vl vd vc vo :=
  ⟨h.lie.setCh hv hc (by decide) rfl, h.keep.setNew (p := ⟨g, k * 4 + 2, none⟩) (h.new g (Or.inr (Or.inr (Or.inr (Or.inl (by rw [hv]; rfl)))))) _, h.new⟩

/-- what dripref's read does -/
def RReadSpec : Prop := ∀ (s : List UInt8) (c : Int) (a0 : Option Addr) (n0 cap0 : Nat) (lock : Int) (w : World), s.length ≤ 1000000000 → 1 ≤ c → c ≤ 4 →
  Calls Tryz.prog 107 #[.agg #[I c, .slice a0 n0 cap0, I lock], .string ⟨s.toArray⟩] w fun e w' => ReadOut w c s e w'

theorem ra_new {w w' : World} {F : Nat → Prop} {b : Nat} {R : RSt} (h : ra w' F b R) (hn : ∀ x, F x → w.heap.size ≤ x) (k : Keep w w') : ∃ vl vd vc vo, ROp w w' b R vl vd vc vo := by
  obtain ⟨vl, vd, vc, vo, h1, rfl⟩ := h
  exact ⟨vl, vd, vc, vo, h1, k, hn⟩

theorem rOpen_out {w wr : World} {b : Nat} {c : Int} {lims : List Lim} {lock : Int} {s : List UInt8} {ds : List Ds} {now : Int} {vl vd vc vo : Value} (hf : fineB c lims lock = true) (hj : jread c ds0 s = .ok (ds, now)) (hb : jbrk lims [] ds = 0) (h : ROp w wr b (ropen c.toNat lims lock ds now) vl vd vc vo) :
    OpenOut ra w c lims lock s (.returned (.tuple #[.pointer (some ⟨b, 0, none⟩), I 0, I 0])) wr := by
  refine ⟨h.keep, ?_⟩
  have e : opened c lims lock s = .ok (ropen c.toNat lims lock ds now) := by
    unfold opened
    rw [if_neg (by rw [hf]; simp), hj]
    simp only
    rw [if_pos hb]
  rw [e]
  exact ⟨b, _, rfl, ⟨vl, vd, vc, vo, h.lie, rfl⟩, h.new⟩

set_option maxRecDepth 100000 in
set_option maxHeartbeats 6400000 in
theorem rOpen_any (RS : RReadSpec) (c : Int) (a : Option Addr) (lims : List Lim) (cap : Nat) (lock : Int) (s : List UInt8) (w : World) (hs : SeeL w a lims) (hn : a = none → lims.length = 0 ∧ cap = 0) (hl : lims.length ≤ 5864062014634) (hsl : s.length ≤ 100000000) :
    Calls Tryz.prog 73 #[cfgV c a lims.length cap lock, .string ⟨s.toArray⟩] w fun e w' => OpenOut ra w c lims lock s e w' := by
  obtain ⟨i, hi, hz0, hz1, hz2⟩ := info_parts infoD
  cases hf : fineB c lims lock with
  | false =>
    have NW : Hid (∀ W, Keep w W → Calls Tryz.prog 70 #[cfgV c a lims.length cap lock] W fun e w' => e = .returned (.tuple #[.pointer none, I 1]) ∧ Hid (Keep w w')) := by
      intro W kW
      refine (ref_pumpy.new c a lims cap lock W (hs.frm kW (fun _ _ _ e => e)) hn hl).mono ?_
      rintro e w' ⟨k, ⟨-, rfl⟩ | ⟨h, -⟩⟩
      · exact ⟨rfl, kW.trans k⟩
      · rw [hf] at h; cases h
    have FIN : Hid (∀ W, Hid (Keep w W) → OpenOut ra w c lims lock s (.returned (.tuple #[.pointer none, I 0, I 1])) W) := by
      intro W kW
      refine ⟨kW.out, ?_⟩
      have e : opened c lims lock s = .error (0, 1) := by unfold opened; rw [if_pos hf]
      rw [e]
    clear hs hf
    unfold cfgV at *
    go_enter Tryz.func73, Tryz.ntmps73
    go_wp2_with fail
    refine (NW.out _ (by exact (Frm.refl _ _).alloc _)).mono ?_
    rintro e w2 ⟨rfl, K2⟩
    go_wp2_with fail
    go_ret3
    exact FIN.out _ K2
  | true =>
    obtain ⟨okn, c0, c1, l0, l1⟩ := fine_parts hf
    have NW : Hid (∀ W, Hid (Keep w W ∧ Blk W w.heap.size #[I c, .slice a lims.length cap, I lock] 30) → Calls Tryz.prog 70 #[cfgV c a lims.length cap lock] W fun e w' => ∃ b vl vd vc vo, e = .returned (.tuple #[.pointer (some ⟨b, 0, none⟩), I 0]) ∧ w'.cell? ⟨w.heap.size, 0, none⟩ = some (I c) ∧ w'.cell? ⟨w.heap.size, 1, none⟩ = some (.slice a lims.length cap) ∧ w'.cell? ⟨w.heap.size, 2, none⟩ = some (I lock) ∧ Hid (ROp w w' b (rnew c.toNat lims lock) vl vd vc vo)) := by
      intro W hW
      obtain ⟨kW, hB⟩ := hW.out
      have sz := kW.size
      refine (ref_pumpy.new c a lims cap lock W (hs.frm kW (fun _ _ _ e => e)) hn hl).mono ?_
      rintro e w' ⟨k, ⟨h, -⟩ | ⟨-, b, F, rfl, h1, h2⟩⟩
      · rw [hf] at h; cases h
      · obtain ⟨vl, vd, vc, vo, q⟩ := ra_new h1 (fun x hx => (by have := h2 x hx; omega : w.heap.size ≤ x)) (kW.trans k)
        have bx := k.blk hB
        exact ⟨b, vl, vd, vc, vo, rfl, by rw [bx.cell]; rfl, by rw [bx.cell]; rfl, by rw [bx.cell]; rfl, q⟩
    have START : Hid (Keep w (w.alloc (.cells #[I c, .slice a lims.length cap, I lock] 30)) ∧ Blk (w.alloc (.cells #[I c, .slice a lims.length cap, I lock] 30)) w.heap.size #[I c, .slice a lims.length cap, I lock] 30) := ⟨(Frm.refl _ _).alloc _, Blk.new _ _ _⟩
    have hcc : ((c.toNat : Nat) : Int) = c := by omega
    cases hj : jread c ds0 s with
    | error n =>
      have h1 := jread_bad1 hj
      have RD2 : Hid (∀ W, Keep w W → Calls Tryz.prog 107 #[.agg #[I c, .slice a lims.length cap, I lock], .string ⟨s.toArray⟩] W fun e w' => e = .returned (.tuple #[.slice none 0 0, I 0, I n]) ∧ Hid (OpenOut ra w c lims lock s (.returned (.tuple #[.pointer none, I n, I 5])) w')) := by
        intro W kW
        refine (RS s c a lims.length cap lock W (by omega) c0 c1).mono ?_
        rintro e w' ⟨k', he⟩
        rw [hj] at he
        refine ⟨he, kW.trans k', ?_⟩
        have e : opened c lims lock s = .error (n, 5) := by unfold opened; rw [if_neg (by rw [hf]; simp), hj]
        rw [e]
      have hpos : (0 : Int) < n := by omega
      clear hs hf hj okn
      unfold cfgV at *
      go_enter Tryz.func73, Tryz.ntmps73
      go_wp2_with fail
      refine (NW.out _ START).mono ?_
      rintro e w2 ⟨b, vl, vd, vc, vo, rfl, y0, y1, y2, K2⟩
      go_wp2_with fail
      refine (RD2.out w2 (K2.out).keep).mono ?_
      rintro e w3 ⟨rfl, K3⟩
      go_wp2_with fail
      go_ret3
      exact K3.out
    | ok p =>
      obtain ⟨ds, now⟩ := p
      obtain ⟨-, jok⟩ := jread_ok s.length s (Nat.le_refl _) hj
      have hdl : (ds.length : Int) ≤ 4 * now := jok.len c1
      have now1 := jok.n2
      have RD2 : Hid (∀ W, Keep w W → Calls Tryz.prog 107 #[.agg #[I c, .slice a lims.length cap, I lock], .string ⟨s.toArray⟩] W fun e w' => ∃ av cv, e = .returned (.tuple #[.slice av ds.length cv, I now, I 0]) ∧ Hid (Keep W w' ∧ w'.ownsRow 0 100 3 (.slice av ds.length cv) ds.length (ds.flatMap dsC) ∧ ∀ x, (Value.slice av ds.length cv).ownBlock = some x → W.heap.size < x)) := by
        intro W kW
        refine (RS s c a lims.length cap lock W (by omega) c0 c1).mono ?_
        rintro e w' ⟨k', he⟩
        rw [hj] at he
        obtain ⟨v, he, h1, h2⟩ := he
        obtain ⟨av, cv, rfl⟩ := row_slice h1
        exact ⟨av, cv, he, k', h1, h2⟩
      have H := hide (And.intro hf (And.intro hj (And.intro okn jok)))
      clear hs hf hj okn jok
      unfold cfgV at *
      go_enter Tryz.func73, Tryz.ntmps73
      go_wp2_with fail
      refine (NW.out _ START).mono ?_
      rintro e w2 ⟨b, vl, vd, vc, vo, rfl, y0, y1, y2, K2⟩
      go_wp2_with fail
      refine (RD2.out w2 (K2.out).keep).mono ?_
      rintro e w3 ⟨av, cv, rfl, K3⟩
      have vlt : Hid (∀ x, (Value.slice av ds.length cv).ownBlock = some x → ¬ RefF b vl vd vc vo x) := fun x hx e => by
        have := (K2.out).lie.lt x e
        have := (K3.out).2.2 x hx
        omega
      have ROW := hide (K3.out).2.1
      have OP := hide ((K2.out).on (K3.out).1)
      clear K2 K3 y0 y1 y2 NW START RD2
      have hnl := (H.out).2.2.1.nl
      have hnc : c.toNat ≤ 4 := by omega
      go_wp2_with fail
      go_loopg [12, 13] ds.length (fun q i _ wr => ∃ j : Nat, q + j = ds.length ∧ i = I j ∧ Hid (∃ vd', ROp w wr b { rnew c.toNat lims lock with doses := ds.take j } vl vd' vc vo ∧ wr.ownsRow 0 100 3 (.slice av ds.length cv) ds.length (ds.flatMap dsC) ∧ (∀ x, (Value.slice av ds.length cv).ownBlock = some x → ¬ RefF b vl vd' vc vo x) ∧ jbrk lims [] ds = jbrk lims (ds.take j) (ds.drop j)))
      case atStart => exact ⟨0, by omega, rfl, vd, OP.out, ROW.out, vlt.out, rfl⟩
      case round =>
        obtain ⟨j, hq, rfl, hst⟩ := hrel
        obtain ⟨vd', op, hrow, hdis, hbr⟩ := hst.out
        obtain ⟨ad, cpd, hvd⟩ := row_slice op.lie.doses
        subst hvd
        by_cases hjl : j < ds.length
        · obtain ⟨d, hd⟩ : ∃ d, ds[j]? = some d := ⟨_, List.getElem?_eq_getElem hjl⟩
          obtain ⟨g, cap', hv, -, hcell, -⟩ := row_at hrow (fun _ => rfl) hd (by decide)
          injection hv with hv1 hv2 hv3
          subst hv1
          have d0 := hcell 0 (by decide)
          have d1 := hcell 1 (by decide)
          have d2 := hcell 2 (by decide)
          simp only [Nat.add_zero, dsC, List.getElem?_cons_zero, List.getElem?_cons_succ] at d0 d1 d2
          have hdd := (H.out).2.2.2.each d (List.mem_of_getElem? hd)
          have okj : ({ rnew c.toNat lims lock with doses := ds.take j } : RSt).Ok := by
            have o := (H.out).2.2.1
            exact ⟨o.lims, o.nl, fun x hx => (H.out).2.2.2.ds c1 x (List.mem_of_mem_take hx), by show (ds.take j).length ≤ 2000; simp; omega, o.now0, o.now1, o.nc0, o.nc1, o.chs, o.no, o.os⟩
          have hts : ds.take (j + 1) = ds.take j ++ [d] := by rw [List.take_add_one, hd]; rfl
          have hstep := jbrk_step (lims := lims) hd
          have htl : (ds.take j).length = j := by simp; omega
          have RM : Hid (∀ W, Hid (Keep wr W) → Calls Tryz.prog 108 #[.pointer (some ⟨b, 0, none⟩), I d.ch, I d.tick] W fun e w' => e = .returned (I (rroom (ds.take j) lims d.ch.toNat d.tick)) ∧ w'.cell? ⟨g, j * 3, none⟩ = some (I d.tick) ∧ w'.cell? ⟨g, j * 3 + 1, none⟩ = some (I d.ch) ∧ w'.cell? ⟨g, j * 3 + 2, none⟩ = some (I d.amt) ∧ w'.cell? ⟨b, 4, none⟩ = some (.slice ad j cpd) ∧ w'.frozen? ⟨b, 4, none⟩ = false ∧ b < w'.heap.size ∧ g < w'.heap.size ∧ Hid (Keep wr w')) := by
            intro W kW
            have opW := op.on kW.out
            refine (rroom_any b _ vl _ vc vo d.ch d.tick W opW.lie okj (by omega) (by omega) (by omega) (by omega)).mono ?_
            rintro e w' ⟨rfl, k'⟩
            have k2 := (kW.out).trans k'
            have op2 := op.on k2
            have c4 : w'.cell? ⟨b, 4, none⟩ = some (.slice ad (ds.take j).length cpd) := by rw [op2.lie.head.cell]; rfl
            rw [htl] at c4
            exact ⟨rfl, k2.cell d0 (fun e => e), k2.cell d1 (fun e => e), k2.cell d2 (fun e => e), c4, op2.lie.head.frozen 4, op2.lie.head.lt, Nat.lt_of_lt_of_le (hrow.lt g rfl).2 k2.size, k2⟩
          have START : Hid (Keep wr wr.drew) := (Frm.refl _ _).drew
          have BADO : Hid (rroom (ds.take j) lims d.ch.toNat d.tick < d.amt → ∀ W, Keep wr W → OpenOut ra w c lims lock s (.returned (.tuple #[.pointer none, I ((j : Int) + 1), I 6])) W) := by
            intro hlt W kW
            refine ⟨op.keep.trans kW, ?_⟩
            have eb : jbrk lims [] ds = j + 1 := by rw [hbr, hstep, if_pos hlt]
            have e : opened c lims lock s = .error (jbrk lims [] ds, 6) := by
              unfold opened
              rw [if_neg (by rw [(H.out).1]; simp), (H.out).2.1]
              simp only
              rw [if_neg (by omega)]
            rw [e, eb]
            simp
          have NXO : Hid (¬ rroom (ds.take j) lims d.ch.toNat d.tick < d.amt → ∀ (W w5 : World) (v5 : Value), Keep wr W → w5.ownsRow 0 100 3 v5 (j + 1) ((ds.take j).flatMap dsC ++ [I d.tick, I d.ch, I d.amt]) → W.grownBy w5 (Value.slice ad j cpd).ownBlock → (v5.ownBlock = (Value.slice ad j cpd).ownBlock ∨ (v5.ownBlock = some W.heap.size ∧ W.grownBy w5 none)) →
              Hid (∃ vd', ROp w (w5.setCell ⟨b, 4, none⟩ v5) b { rnew c.toNat lims lock with doses := ds.take (j + 1) } vl vd' vc vo ∧ (w5.setCell ⟨b, 4, none⟩ v5).ownsRow 0 100 3 (.slice (some ⟨g, 0, none⟩) ds.length cv) ds.length (ds.flatMap dsC) ∧ (∀ x, (Value.slice (some ⟨g, 0, none⟩) ds.length cv).ownBlock = some x → ¬ RefF b vl vd' vc vo x) ∧ jbrk lims [] ds = jbrk lims (ds.take (j + 1)) (ds.drop (j + 1)))) := by
            intro hlt W w5 v5 kW h4 h5 h6
            have h4' : w5.ownsRow 0 100 3 v5 ((ds.take j).length + 1) ((ds.take j).flatMap dsC ++ [I d.tick, I d.ch, I d.amt]) := by rw [htl]; exact h4
            have hvj : (Value.slice ad (ds.take j).length cpd).ownBlock = (Value.slice ad j cpd).ownBlock := by rw [htl]
            have q := op.dosed (d := d) kW h4' (by rw [hvj]; exact h5) (by rw [hvj]; exact h6)
            obtain ⟨-, q2, q3⟩ := op.lie.dosed (d := d) kW h4' (by rw [hvj]; exact h5) (by rw [hvj]; exact h6)
            refine ⟨v5, by rw [hts]; exact q, row_frm hrow q2 fun x hx e => hdis x hx e, fun x hx e => ?_, by rw [hbr, hstep, if_neg hlt]⟩
            rcases q3 x e with r | r
            · exact hdis x hx r
            · have := (hrow.lt x hx).2; omega
          have BF : Hid (∀ W w5, Keep wr W → W.grownBy w5 (Value.slice ad j cpd).ownBlock → w5.cell? ⟨b, 4, none⟩ = some (.slice ad j cpd) ∧ w5.frozen? ⟨b, 4, none⟩ = false ∧ b < w5.heap.size) := by
            intro W w5 kW hg
            have hbd := op.lie.sep.bd
            have e : (Value.slice ad ({ rnew c.toNat lims lock with doses := ds.take j } : RSt).doses.length cpd) = .slice ad j cpd := by
              show Value.slice ad (ds.take j).length cpd = _
              rw [htl]
            rw [e] at hbd
            have bl := (kW.blk op.lie.head).frm (grown_frm hg) hbd
            refine ⟨?_, bl.frozen 4, bl.lt⟩
            rw [bl.cell, ← e]; rfl
          have DROW : Hid (∀ W, Keep wr W → W.ownsRow 0 100 3 (.slice ad j cpd) j ((ds.take j).flatMap dsC)) := fun W kW => by
            have := (op.on kW).lie.doses
            have e : ({ rnew c.toNat lims lock with doses := ds.take j } : RSt).doses.length = j := htl
            rw [e] at this
            exact this
          clear hst op hrow hdis hbr hcell hd hstep hts okj htl hv2 hv3 hdd
          generalize rroom (ds.take j) lims d.ch.toNat d.tick = rm at *
          go_wp2_with fail
          go_cut [13] from 33 to 72 (fun r13 wx => r13 = I rm ∧ wx.cell? ⟨g, j * 3, none⟩ = some (I d.tick) ∧ wx.cell? ⟨g, j * 3 + 1, none⟩ = some (I d.ch) ∧ wx.cell? ⟨g, j * 3 + 2, none⟩ = some (I d.amt) ∧ wx.cell? ⟨b, 4, none⟩ = some (.slice ad j cpd) ∧ wx.frozen? ⟨b, 4, none⟩ = false ∧ b < wx.heap.size ∧ g < wx.heap.size ∧ Hid (Keep wr wx))
          case first =>
            go_region_held3 (fun w' => w'.cell? ⟨g, j * 3, none⟩ = some (I d.tick) ∧ w'.cell? ⟨g, j * 3 + 1, none⟩ = some (I d.ch)) (((try dsimp only); (repeat' apply And.intro) <;> (go_keep; done))) (first | (go_at_call 108; refine (RM.out _ START).mono ?_; rintro e w4 ⟨rfl, x0, x1, x2, x3, x4, x5, x6, K4⟩))
            go_wp2_with fail
            go_meet
            exact ⟨rfl, x0, x1, x2, x3, x4, x5, x6, K4⟩
          case rest =>
            obtain ⟨rfl, x0, x1, x2, x3, x4, x5, x6, K4⟩ := hcut
            clear RM d0 d1 d2 START
            by_cases hlt : rm < d.amt
            · have FIN := hide (BADO.out hlt)
              clear BADO NXO DROW
              go_wp2_with fail
              go_ret3
              exact FIN.out _ K4.out
            · have hlt' : decide (rm < d.amt) = false := decide_eq_false hlt
              have NXT := hide (NXO.out (by omega))
              clear BADO NXO hlt
              go_wp2_with fail
              go_region_law (refine step_append_row rfl (.tmp 64) (.tmp 69) 35 rfl 100 i (.agg #[I 0, I 0, I 0]) 3 24 Tryz.underlying35 hi hz0 hz1 hz2 rfl (by decide) (.slice ad j cpd) j ((ds.take j).flatMap dsC) (by simp [Act.eval]) (by exact DROW.out _ ((K4.out).trans ((Frm.refl _ _).alloc _).drew)) ⟨wc.heap.size, 0, none⟩ 1 1 [I d.tick, I d.ch, I d.amt] (by simp [Act.eval]) rfl (by exact cell_news _ [I d.tick, I d.ch, I d.amt] _ _ rfl) (by intro u hu; simp at hu; rcases hu with rfl | rfl | rfl <;> rfl) (by unfold maxLen; omega) (by omega) ?_; intro v5 w5 hown5 hgr5 hnew5; obtain ⟨a5, cp5, hv5⟩ := row_slice hown5; subst hv5; obtain ⟨c54, f54, l54⟩ := BF.out _ w5 ((K4.out).trans ((Frm.refl _ _).alloc _).drew) hgr5; have G := NXT.out _ w5 _ ((K4.out).trans ((Frm.refl _ _).alloc _).drew) hown5 hgr5 hnew5; clear hown5 hgr5 hnew5)
              all_goals
                go_wp2_with fail
                go_roundg (gk - 1)
                case measure => omega
                case rel => exact ⟨j + 1, by omega, by simp, G⟩
        · have hje : j = ds.length := by omega
          subst hje
          have hb0 : jbrk lims [] ds = 0 := by rw [hbr, List.drop_length]; simp [jbrk]
          rw [List.take_length] at op
          have opn := op.setNow now
          have c3 := op.lie.head
          have f3 := c3.frozen 3
          have l3 := c3.lt
          have y3 : wr.cell? ⟨b, 3, none⟩ = some (I 0) := by rw [c3.cell]; rfl
          have FINO : Hid (∀ W, ROp w W b (ropen c.toNat lims lock ds now) vl (.slice ad ds.length cpd) vc vo → OpenOut ra w c lims lock s (.returned (.tuple #[.pointer (some ⟨b, 0, none⟩), I 0, I 0])) W) := fun W hW => rOpen_out (H.out).1 (H.out).2.1 hb0 hW
          have OP2 : Hid (ROp w (wr.setCell ⟨b, 3, none⟩ (I now)) b ⟨lims, lock, now, ds, restJ (List.replicate c.toNat ch0) 0, []⟩ vl (.slice ad ds.length cpd) vc vo) := by
            have e : restJ (List.replicate c.toNat ch0) 0 = List.replicate c.toNat ch0 := by simp [restJ]
            rw [e]
            exact opn
          clear hst op opn hrow hdis hbr c3 hb0
          go_wp2_with fail
          go_loopg [14] c.toNat (fun q i wr2 => ∃ j : Nat, q + j = c.toNat ∧ i = I j ∧ Hid (ROp w wr2 b ⟨lims, lock, now, ds, restJ (List.replicate c.toNat ch0) j, []⟩ vl (.slice ad ds.length cpd) vc vo))
          case atStart => exact ⟨0, by omega, rfl, OP2⟩
          case round =>
            obtain ⟨k, hqk, rfl, hsk⟩ := hrel
            have opk := hsk.out
            have hrl : (restJ (List.replicate c.toNat ch0) k).length = c.toNat := by rw [restJ_len _ _ (by simp; omega)]; simp
            obtain ⟨ac, cpc, hvc⟩ := row_slice opk.lie.chs
            have hvc : vc = .slice ac (restJ (List.replicate c.toNat ch0) k).length cpc := hvc
            have lb5 := opk.lie.head.lt
            by_cases hk : k < c.toNat
            · have hget : (List.replicate c.toNat ch0)[k]? = some ch0 := by simp [hk]
              have hgj := restJ_get hget
              obtain ⟨g, cap', hv, -, hcell, hfz⟩ := row_at opk.lie.chs (fun _ => rfl) hgj (by decide)
              have hv : vc = .slice (some ⟨g, 0, none⟩) (restJ (List.replicate c.toNat ch0) k).length cap' := hv
              have d2 := hcell 2 (by decide)
              have f2 := hfz (k * 4 + 2)
              simp only [chC, List.getElem?_cons_zero, List.getElem?_cons_succ] at d2
              have n1 := opk.setRest hv hgj
              have N : Hid (ROp w (wr.setCell ⟨g, k * 4 + 2, none⟩ (.bool true)) b ⟨lims, lock, now, ds, restJ (List.replicate c.toNat ch0) (k + 1), []⟩ vl (.slice ad ds.length cpd) vc vo) := by
                rw [restJ_succ hget]
                exact n1
              rw [hrl] at hv
              have y5 : wr.cell? ⟨b, 5, none⟩ = some (.slice (some ⟨g, 0, none⟩) c.toNat cap') := by
                rw [opk.lie.head.cell, ← hv]; rfl
              clear hsk opk hvc hcell hfz n1 hgj hget hrl hv FINO OP2
              go_wp2_with fail
              go_roundg (gk - 1)
              case measure => omega
              case rel => exact ⟨k + 1, by omega, by simp, N⟩
            · have hke : k = c.toNat := by omega
              subst hke
              rw [hrl] at hvc
              have y5 : wr.cell? ⟨b, 5, none⟩ = some (.slice ac c.toNat cpc) := by
                rw [opk.lie.head.cell, ← hvc]; rfl
              have FIN : Hid (OpenOut ra w c lims lock s (.returned (.tuple #[.pointer (some ⟨b, 0, none⟩), I 0, I 0])) wr) := by
                refine FINO.out wr ?_
                have e : restJ (List.replicate c.toNat ch0) c.toNat = List.replicate c.toNat chR := by
                  unfold restJ
                  rw [List.take_of_length_le (by simp), List.drop_eq_nil_of_le (by simp), List.append_nil]
                  simp [restC, ch0, chR]
                rw [e] at opk
                exact opk
              clear hsk opk hvc hrl FINO OP2
              go_wp2_with fail
              go_ret3
              exact FIN.out

end Go.Proofs.YtpilmkipbbengaaGreatDoor
