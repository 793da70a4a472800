/- dripref: read. -/
import Derived.Test.YtpilmkipbbengaaGreatDoorJrr
import Derived.Deep.CutRange
namespace Go.Proofs.YtpilmkipbbengaaGreatDoor
open Go.RowKit Go.Lib

/-- the dose that was read last -/
def lastOf (done : List Ds) : Ds := done.getLast?.getD ds0

theorem lastOf_snoc (done : List Ds) (d : Ds) : lastOf (done ++ [d]) = d := by simp [lastOf]

structure RRAt (w wr : World) (cv : Array Value) (v : Value) (done : List Ds) : Prop where
  keep : Keep w wr
  cfg : Blk wr w.heap.size cv 30
  row : wr.ownsRow 0 100 3 v done.length (done.flatMap dsC)
  new : ∀ x, v.ownBlock = some x → w.heap.size < x

theorem RRAt.on {w wr W : World} {cv : Array Value} {v : Value} {done : List Ds} (h : RRAt w wr cv v done) (k : Keep wr W) : RRAt w W cv v done :=
  ⟨h.keep.trans k, k.blk h.cfg, row_frm h.row k (fun _ _ e => e), h.new⟩

theorem RRAt.more {w W w5 : World} {cv : Array Value} {v v' : Value} {done : List Ds} {d : Ds} (h : RRAt w W cv v done) (hown : w5.ownsRow 0 100 3 v' (done.length + 1) (done.flatMap dsC ++ [I d.tick, I d.ch, I d.amt])) (hg : W.grownBy w5 v.ownBlock)
    (hnew : v'.ownBlock = v.ownBlock ∨ (v'.ownBlock = some W.heap.size ∧ W.grownBy w5 none)) : RRAt w w5 cv v' (done ++ [d]) := by
  have f5 := grown_frm hg
  have hlt := h.cfg.lt
  have vn : ∀ x, v'.ownBlock = some x → w.heap.size < x := by
    intro x hx
    rcases hnew with e | ⟨e, -⟩
    · exact h.new x (by rw [← e]; exact hx)
    · rw [e] at hx; injection hx with hx; omega
  refine ⟨h.keep.trans2 f5 fun x hx e => absurd (h.new x e) (by omega), h.cfg.frm f5 (fun e => Nat.lt_irrefl _ (h.new _ e)), ?_, vn⟩
  have e1 : (done ++ [d]).length = done.length + 1 := by simp
  have e2 : (done ++ [d]).flatMap dsC = done.flatMap dsC ++ [I d.tick, I d.ch, I d.amt] := by simp [dsC]
  rw [e1, e2]
  exact hown

/-- no line ends from a to e -/
structure JGap (s : List UInt8) (a e : Nat) : Prop where
  lo : a ≤ e
  hi : e ≤ s.length
  no : (10 : UInt8) ∉ (s.drop a).take (e - a)

theorem JGap.next {s : List UInt8} {a e : Nat} {c : UInt8} (h : JGap s a e) (hc : s[e]? = some c) (hn : c ≠ 10) : JGap s a (e + 1) := by
  have hi := (List.getElem?_eq_some_iff.1 hc).1
  have hl := h.lo
  refine ⟨by omega, by omega, ?_⟩
  have e0 : e + 1 - a = (e - a) + 1 := by omega
  rw [e0, List.take_add_one, List.getElem?_drop, show a + (e - a) = e by omega, hc]
  simp only [Option.toList, List.mem_append, List.mem_singleton, not_or]
  exact ⟨h.no, fun q => hn q.symm⟩

theorem JGap.over {s : List UInt8} {a : Nat} (h : JGap s a s.length) : jcut 10 (s.drop a) = none := by
  have hn := h.no
  rw [List.take_of_length_le (by simp)] at hn
  cases hj : jcut 10 (s.drop a) with
  | none => rfl
  | some p =>
    obtain ⟨e, -⟩ := jcut_eq (a := p.1) (r := p.2) hj
    exfalso
    apply hn
    rw [e]
    simp

theorem JGap.cut {s : List UInt8} {a e : Nat} (h : JGap s a e) (hc : s[e]? = some 10) : jcut 10 (s.drop a) = some ((s.drop a).take (e - a), s.drop (e + 1)) := by
  have hl := h.lo
  obtain ⟨he, q⟩ := List.getElem?_eq_some_iff.1 hc
  have e1 : s.drop a = (s.drop a).take (e - a) ++ 10 :: s.drop (e + 1) := by
    have e2 : (s.drop a).drop (e - a) = 10 :: s.drop (e + 1) := by
      rw [List.drop_drop, show a + (e - a) = e by omega, List.drop_eq_getElem_cons he, q]
    conv => lhs; rw [← List.take_append_drop (e - a) (s.drop a), e2]
  conv => lhs; rw [e1]
  exact jcut_mk _ h.no

set_option maxRecDepth 100000 in
set_option maxHeartbeats 40000000 in
theorem rread_any (s : List UInt8) (c : Int) (a0 : Option Addr) (n0 cap0 : Nat) (lock : Int) (w : World) (hs : s.length ≤ 1000000000) (_c0 : 1 ≤ c) (c1 : c ≤ 4) :
    Calls Tryz.prog 107 #[.agg #[I c, .slice a0 n0 cap0, I lock], .string ⟨s.toArray⟩] w fun e w' => ReadOut w c s e w' := by
  obtain ⟨i, hi, hz0, hz1, hz2⟩ := info_parts infoD
  go_enter Tryz.func107, Tryz.ntmps107
  go_wp2_with fail
  go_loopg [7, 8, 9] s.length (fun q v a n wr => ∃ (p : Nat) (done : List Ds) (ad : Option Addr) (cp : Nat), q + p = s.length ∧ a = I p ∧ v = .slice ad done.length cp ∧ n = I ((done.length : Int) + 1) ∧ Hid (RRAt w wr #[I c, .slice a0 n0 cap0, I lock] (.slice ad done.length cp) done ∧ JMid c done (lastOf done) ∧ jread c ds0 s = JR.pushL done (jread c (lastOf done) (s.drop p))))
  case atStart =>
    refine ⟨0, [], none, 0, by omega, rfl, rfl, rfl, ⟨(Frm.refl _ _).alloc _, Blk.new _ _ _, World.ownsRow_nil .., fun x hx => by simp [Value.ownBlock] at hx⟩, ⟨by simp, by simp, by simp, by simp [lastOf, ds0], by simp [lastOf, ds0]⟩, ?_⟩
    simp only [List.drop_zero]
    show _ = JR.pushL [] (jread c ds0 s)
    cases jread c ds0 s <;> simp [JR.pushL]
  case round =>
    obtain ⟨p, done, ad, cp, hq, rfl, rfl, rfl, hst⟩ := hrel
    obtain ⟨hrd, hmid, hjr⟩ := hst.out
    have hdl := hmid.len c1
    have l0 := hmid.l0
    have l1 := hmid.l1
    have hpl : p ≤ s.length := by omega
    have HG : Hid (JGap s p p) := ⟨Nat.le_refl _, hpl, by simp⟩
    have BAD : Hid (∀ (W : World) (n : Nat) (z : Int), jread c ds0 s = .error n → z = n → Keep w W → ReadOut w c s (.returned (.tuple #[.slice none 0 0, I 0, I z])) W) := by
      intro W n z hn hz hW
      refine ⟨hW, ?_⟩
      rw [hn, hz]
    have HH := hide (And.intro hrd (And.intro hmid hjr))
    have kwr := hide hrd.keep
    clear hst hrd hmid hjr
    go_wp2_with fail
    go_loopg [10] (s.length - p) (fun q2 e wr2 => ∃ j : Nat, q2 + j = s.length ∧ e = I j ∧ wr2 = wr ∧ Hid (JGap s p j))
    case atStart => exact ⟨p, by omega, rfl, rfl, HG⟩
    case round =>
      obtain ⟨e, hqe, rfl, hw, hge⟩ := hrel
      have hw := hw.symm
      subst hw
      by_cases hel : e < s.length
      · obtain ⟨x, hx⟩ : ∃ x, s[e]? = some x := ⟨_, List.getElem?_eq_getElem hel⟩
        have hby : (⟨s.toArray⟩ : ByteArray)[e]'hel = x := (List.getElem?_eq_some_iff.1 hx).2
        have hl1 : (e : Int) < s.length := by omega
        by_cases h10 : x = 10
        · subst h10
          have hcut10 := (hge.out).cut hx
          have JJ : Hid (jread c ds0 s = JR.pushL done (match jnow (lastOf done).tick ((s.drop p).take (e - p)) with
              | some m => if s.drop (e + 1) = [] then .ok ([], m) else .error 2
              | none => match jdose c ((s.drop p).take (e - p)) with
                | none => .error 1
                | some d => if jfol (lastOf done) d = true then (jread c d (s.drop (e + 1))).push d else .error 1)) := by
            show jread c ds0 s = _
            rw [(HH.out).2.2, jread_eq, hcut10]
            all_goals first | rfl | (simp only; done) | (simp only; rfl)
          have e1 := extr_mid s p e
          have hll : ((s.drop p).take (e - p)).length ≤ s.length := by simp; omega
          have hlo := (hge.out).lo
          have hb1 : (0 : Int) ≤ (p : Int) := by omega
          have hb2 : (p : Int) ≤ (e : Int) := by omega
          have hb3 : (e : Int) ≤ (s.length : Int) := by omega
          have hdrop : s.drop (e + 1) = [] ↔ s.length = e + 1 := by
            rw [List.drop_eq_nil_iff]; omega
          have HD := hide hdrop
          generalize (s.drop p).take (e - p) = l at *
          clear hcut10 hx hge HG hdrop
          go_upto_if 48 with fail
          go_cut [] from 19 to 171 (fun wx => Hid (RRAt w wx #[I c, .slice a0 n0 cap0, I lock] (.slice ad done.length cp) done ∧ Blk wx wr.heap.size #[I (lastOf done).tick, I (lastOf done).ch, I (lastOf done).amt] 100))
          case first =>
            have hrd := (HH.out).1
            by_cases hd0 : done = []
            · subst hd0
              have FIN : Hid (RRAt w (wr.alloc (.cells #[I (-1), I 0, I 0] 100)) #[I c, .slice a0 n0 cap0, I lock] (.slice ad ([] : List Ds).length cp) [] ∧ Blk (wr.alloc (.cells #[I (-1), I 0, I 0] 100)) wr.heap.size #[I (lastOf []).tick, I (lastOf []).ch, I (lastOf []).amt] 100) :=
                ⟨hrd.on ((Frm.refl _ _).alloc _), Blk.new _ _ _⟩
              clear hrd HH JJ BAD HD kwr
              go_wp2_with fail
              go_meet
              exact FIN
            · obtain ⟨init, d, hid⟩ : ∃ init d, done = init ++ [d] := ⟨done.dropLast, done.getLast hd0, (List.dropLast_concat_getLast hd0).symm⟩
              have hget : done[done.length - 1]? = some d := by rw [hid]; simp
              obtain ⟨g, cap, hv, -, hcell, -⟩ := row_at hrd.row (fun _ => rfl) hget (by decide)
              injection hv with hv1 hv2 hv3
              subst hv1
              have d0 := hcell 0 (by decide)
              have d1 := hcell 1 (by decide)
              have d2 := hcell 2 (by decide)
              simp only [Nat.add_zero, dsC, List.getElem?_cons_zero, List.getElem?_cons_succ] at d0 d1 d2
              have glt : g < wr.heap.size := (hrd.row.lt g rfl).2
              have hpos : (0 : Int) < done.length := by rw [hid]; simp
              have hi0 : (0 : Int) ≤ (done.length : Int) - 1 := by omega
              have hi1 : (done.length : Int) - 1 < (done.length : Int) := by omega
              have hi2 : ((done.length : Int) - 1).toNat = done.length - 1 := by omega
              have hi3 : IntKind.i64.wrap ((done.length : Int) - 1) = (done.length : Int) - 1 := wrap_id _ (by omega) (by omega)
              have FIN : Hid (RRAt w (wr.alloc (.cells #[I d.tick, I d.ch, I d.amt] 100)) #[I c, .slice a0 n0 cap0, I lock] (.slice (some ⟨g, 0, none⟩) done.length cp) done ∧ Blk (wr.alloc (.cells #[I d.tick, I d.ch, I d.amt] 100)) wr.heap.size #[I (lastOf done).tick, I (lastOf done).ch, I (lastOf done).amt] 100) := by
                refine ⟨hrd.on ((Frm.refl _ _).alloc _), ?_⟩
                rw [hid, lastOf_snoc]
                exact Blk.new _ _ _
              clear hrd HH JJ BAD HD kwr hcell hget hd0 hv2 hv3 hid
              go_wp2_with fail
              go_meet
              exact FIN
          case rest =>
            have hmid := (HH.out).2.1
            have JB : Hid (jnow (lastOf done).tick l = none → (jdose c l = none ∨ ∃ d, jdose c l = some d ∧ jfol (lastOf done) d = false) → ∀ W, Keep w W → ReadOut w c s (.returned (.tuple #[.slice none 0 0, I 0, I ((done.length : Int) + 1)])) W) := by
              intro h1 h2 W kW
              refine BAD.out W (done.length + 1) _ ?_ (by omega) kW
              rw [JJ.out, h1]
              rcases h2 with h2 | ⟨d, h2, h3⟩
              · rw [h2]; rfl
              · rw [h2]; simp [h3, JR.pushL]
            have JX : Hid (∀ d, jnow (lastOf done).tick l = none → jdose c l = some d → jfol (lastOf done) d = true → JMid c (done ++ [d]) (lastOf (done ++ [d])) ∧ jread c ds0 s = JR.pushL (done ++ [d]) (jread c (lastOf (done ++ [d])) (s.drop (e + 1)))) := by
              intro d h1 h2 h3
              rw [lastOf_snoc]
              refine ⟨hmid.next h2 h3, ?_⟩
              rw [JJ.out, h1, h2]
              simp only
              rw [if_pos h3, JR.pushL_snoc]
            have JM : Hid (∀ m : Int, jnow (lastOf done).tick l = some m → (s.length = e + 1 → jread c ds0 s = .ok (done, m)) ∧ (s.length ≠ e + 1 → jread c ds0 s = .error (done.length + 2))) := by
              intro m h1
              refine ⟨fun h2 => ?_, fun h2 => ?_⟩
              · rw [JJ.out, h1]
                simp [(HD.out).2 h2, JR.pushL]
              · rw [JJ.out, h1]
                simp only
                rw [if_neg (fun q => h2 ((HD.out).1 q))]
                rfl
            have hcd := hcut.out
            have t0 : wc.cell? ⟨wr.heap.size, 0, none⟩ = some (I (lastOf done).tick) := by rw [hcd.2.cell]; rfl
            have t1 : wc.cell? ⟨wr.heap.size, 1, none⟩ = some (I (lastOf done).ch) := by rw [hcd.2.cell]; rfl
            have C := hide hcd
            clear hcut hcd HH JJ HD hmid kwr e1
            generalize lastOf done = last at *
            generalize wr.heap.size = lb at *
            by_cases hA : 2 < l.length ∧ l.take 2 = [61, 32]
            · obtain ⟨hA1, hA2⟩ := hA
              have hl2 : (2 : Int) < l.length := by omega
              have hl3 : (2 : Int) ≤ l.length := by omega
              have eA : ({ data := l.toArray } : ByteArray).extract 0 2 = ⟨#[61, 32]⟩ := by rw [extr_mid, List.drop_zero, Nat.sub_zero, hA2]
              have eD : ({ data := l.toArray } : ByteArray).extract 2 l.length = ⟨(l.drop 2).toArray⟩ := by
                rw [extr_mid, List.take_of_length_le (by simp)]
              have hjd : jdose c l = none := jdose_mark hA2
              have JN : Hid (jnow last.tick l = none → ∀ W, Keep w W → ReadOut w c s (.returned (.tuple #[.slice none 0 0, I 0, I ((done.length : Int) + 1)])) W) := fun h1 W kW => JB.out h1 (Or.inl hjd) W kW
              have NU : Hid (Calls Tryz.prog 127 #[.string ⟨(l.drop 2).toArray⟩] wc fun e w' => (e = .returned (.tuple #[.slice none 0 0, .bool false]) ∧ Hid (Keep wc w' ∧ jnm (l.drop 2) 0 0 [] = none)) ∨ ∃ ns : List Nat, ∃ av cv, e = .returned (.tuple #[.slice av ns.length cv, .bool true]) ∧ Hid (Keep wc w' ∧ jnm (l.drop 2) 0 0 [] = some ns ∧ w'.ownsRow 0 3 1 (.slice av ns.length cv) ns.length (ns.map fun x => I ((x : Nat) : Int)))) := by
                refine (rnumbers_any (l.drop 2) wc (by simp; omega)).mono ?_
                rintro e w' ⟨k', ⟨h1, rfl⟩ | ⟨ns, v, h1, rfl, h2⟩⟩
                · exact Or.inl ⟨rfl, k', h1⟩
                · have h3 : w'.ownsRow 0 3 1 v ns.length (ns.map fun x => I ((x : Nat) : Int)) := h2
                  obtain ⟨av, cv, rfl⟩ := row_slice h3
                  exact Or.inr ⟨ns, av, cv, rfl, k', h1, h3⟩
              have NOW := hide (fun m hm => jnow_of (t := last.tick) hA2 m hm)
              have NONO := hide (fun h => jnow_no (t := last.tick) (l := l) h)
              clear hA1 hA2 hjd JX JB
              generalize l.drop 2 = u at *
              go_wp2_with fail
              refine (NU.out).mono ?_
              rintro e w2 (⟨rfl, K2⟩ | ⟨ns, av, cv, rfl, K2⟩)
              · have FIN : Hid (∀ x, ReadOut w c s (.returned (.tuple #[.slice none 0 0, I 0, I ((done.length : Int) + 1)])) (w2.drewN x)) := fun x => JN.out (NONO.out fun m hm => by rw [(K2.out).2] at hm; cases hm) _ (((C.out).1.keep.trans (K2.out).1).drewN x)
                clear NONO NOW JM JN NU
                go_wp2_with fail
                go_quiet (fail)
                go_wp2_with fail
                go_ret3
                exact FIN.out _
              · have t0 := (K2.out).1.cell t0 (fun e => e)
                have kw2 := (C.out).1.keep.trans (K2.out).1
                by_cases hn1 : ns.length = 1
                · obtain ⟨m, rfl⟩ : ∃ m, ns = [m] := by
                    match ns, hn1 with
                    | [m], _ => exact ⟨m, rfl⟩
                  have hrow := (K2.out).2.2
                  obtain ⟨g, hg, hc0⟩ : ∃ g, av = some ⟨g, 0, none⟩ ∧ w2.cell? ⟨g, 0, none⟩ = some (I ((m : Nat) : Int)) := by
                    rcases hrow.2 with ⟨q1, q2⟩ | ⟨g, cp', cur, q1, -⟩
                    · simp at q2
                    · injection q1 with q1 q3 q4
                      subst q1
                      have := hrow.cells (g := g) rfl 0 _ rfl
                      exact ⟨g, rfl, this⟩
                  subst hg
                  by_cases hm1 : (m : Int) ≤ last.tick
                  · have FIN : Hid (∀ x, ReadOut w c s (.returned (.tuple #[.slice none 0 0, I 0, I ((done.length : Int) + 1)])) (w2.drewN x)) := fun x => JN.out (NONO.out fun m' hm => by
                      rw [(K2.out).2.1] at hm
                      injection hm with hm
                      injection hm with hm
                      omega) _ (kw2.drewN x)
                    clear NONO NOW JM JN NU hrow
                    go_wp2_with fail
                    go_quiet (fail)
                    go_wp2_with fail
                    go_ret3
                    exact FIN.out _
                  · have hm1' : decide ((m : Int) ≤ last.tick) = false := decide_eq_false hm1
                    by_cases hm2 : (400 : Int) < m
                    · have FIN : Hid (∀ x, ReadOut w c s (.returned (.tuple #[.slice none 0 0, I 0, I ((done.length : Int) + 1)])) (w2.drewN x)) := fun x => JN.out (NONO.out fun m' hm => by
                        rw [(K2.out).2.1] at hm
                        injection hm with hm
                        injection hm with hm
                        omega) _ (kw2.drewN x)
                      clear NONO NOW JM JN NU hrow hm1
                      go_wp2_with fail
                      go_quiet (fail)
                      go_wp2_with fail
                      go_ret3
                      exact FIN.out _
                    · have hm2' : decide ((400 : Int) < m) = false := decide_eq_false hm2
                      have hjn : jnow last.tick l = some (m : Int) := (NOW.out m (by omega)).2 ⟨(K2.out).2.1, by omega⟩
                      obtain ⟨jm1, jm2⟩ := JM.out m hjn
                      by_cases hend : s.length = e + 1
                      · have FIN : Hid (∀ x, ReadOut w c s (.returned (.tuple #[.slice ad done.length cp, I m, I 0])) (w2.drewN x)) := by
                          intro x
                          refine ⟨kw2.drewN x, ?_⟩
                          rw [jm1 hend]
                          exact ⟨_, rfl, row_frm (C.out).1.row ((K2.out).1.drewN x) (fun _ _ e => e), (C.out).1.new⟩
                        have hge2 : decide (((e : Int) + 1) < (s.length : Int)) = false := decide_eq_false (by omega)
                        clear NONO NOW JM JN NU hrow hm1 hm2 jm1 jm2 hend hjn
                        go_wp2_with fail
                        go_quiet (fail)
                        go_wp2_with fail
                        go_region
                        all_goals go_wp2_with fail
                        all_goals go_ret3
                        all_goals exact FIN.out _
                      · have FIN : Hid (∀ x, ReadOut w c s (.returned (.tuple #[.slice none 0 0, I 0, I ((done.length : Int) + 1 + 1)])) (w2.drewN x)) := fun x => BAD.out _ (done.length + 2) _ (jm2 hend) (by omega) (kw2.drewN x)
                        have hge2 : ((e : Int) + 1) < (s.length : Int) := by omega
                        clear NONO NOW JM JN NU hrow hm1 hm2 jm1 jm2 hend hjn
                        go_wp2_with fail
                        go_quiet (fail)
                        go_wp2_with fail
                        go_ret3
                        exact FIN.out _
                · have FIN : Hid (∀ x, ReadOut w c s (.returned (.tuple #[.slice none 0 0, I 0, I ((done.length : Int) + 1)])) (w2.drewN x)) := fun x => JN.out (NONO.out fun m hm => by
                    rw [(K2.out).2.1] at hm
                    injection hm with hm
                    subst hm
                    simp at hn1) _ (kw2.drewN x)
                  have hne : ((ns.length : Int) == 1) = false := by
                    simp only [beq_eq_false_iff_ne]
                    omega
                  have hne2 : (ns.length == 1) = false := by simpa using hn1
                  have hne3 : decide ((ns.length : Int) = 1) = false := decide_eq_false (by omega)
                  have hne4 : ((ns.length : Int) != 1) = true := by simp [bne, hne]
                  have hne5 : (ns.length != 1) = true := by simp [bne, hne2]
                  clear NONO NOW JM JN NU
                  go_wp2_with fail
                  go_quiet (fail)
                  go_wp2_with fail
                  go_ret3
                  exact FIN.out _
            · have hnow : jnow last.tick l = none := jnow_nomark hA
              have NU : Hid (Calls Tryz.prog 127 #[.string ⟨l.toArray⟩] wc fun e w' => (e = .returned (.tuple #[.slice none 0 0, .bool false]) ∧ Hid (Keep wc w' ∧ jnm l 0 0 [] = none)) ∨ ∃ ns : List Nat, ∃ av cv, e = .returned (.tuple #[.slice av ns.length cv, .bool true]) ∧ Hid (Keep wc w' ∧ jnm l 0 0 [] = some ns ∧ w'.ownsRow 0 3 1 (.slice av ns.length cv) ns.length (ns.map fun x => I ((x : Nat) : Int)))) := by
                refine (rnumbers_any l wc (by omega)).mono ?_
                rintro e w' ⟨k', ⟨h1, rfl⟩ | ⟨ns, v, h1, rfl, h2⟩⟩
                · exact Or.inl ⟨rfl, k', h1⟩
                · have h3 : w'.ownsRow 0 3 1 v ns.length (ns.map fun x => I ((x : Nat) : Int)) := h2
                  obtain ⟨av, cv, rfl⟩ := row_slice h3
                  exact Or.inr ⟨ns, av, cv, rfl, k', h1, h3⟩
              have JN : Hid ((jdose c l = none ∨ ∃ d, jdose c l = some d ∧ jfol last d = false) → ∀ W, Keep w W → ReadOut w c s (.returned (.tuple #[.slice none 0 0, I 0, I ((done.length : Int) + 1)])) W) := fun h2 W kW => JB.out hnow h2 W kW
              have JY := hide (fun d h2 h3 => JX.out d hnow h2 h3)
              have DNO := hide (fun h => jdose_no (l := l) c1 h)
              have DOK : Hid (∀ x y z : Nat, jnm l 0 0 [] = some [x, y, z] → ((x : Int) ≤ 399 ∧ (y : Int) < c ∧ 1 ≤ z ∧ z ≤ 1000) → jdose c l = some ⟨x, y, z⟩) := fun x y z hj h => jdose_of hj h c1
              have hcase : decide ((2 : Int) < (l.length : Int)) = false ∨ ((2 : Int) < l.length ∧ (2 : Int) ≤ l.length ∧ ((({ data := l.toArray } : ByteArray).extract 0 2).toList == [61, 32]) = false) := by
                by_cases q : 2 < l.length
                · refine Or.inr ⟨by omega, by omega, ?_⟩
                  rw [extr_mid, List.drop_zero, Nat.sub_zero, ByteArray.toList_eq]
                  simp only [beq_eq_false_iff_ne]
                  intro h
                  exact hA ⟨q, h⟩
                · exact Or.inl (decide_eq_false (by omega))
              clear hA hnow JB JX JM BAD
              obtain ⟨wz, rfl⟩ : ∃ x, x = wc := ⟨wc, rfl⟩
              go_upto_region 15 with fail
              go_cut [62] from 19 to 171 (fun s62 wx => s62 = .bool false ∧ wx = wz)
              case first =>
                rcases hcase with h2 | ⟨h2, h2b, h2c⟩
                all_goals go_wp2_with fail
                all_goals go_meet
                all_goals exact ⟨rfl, rfl⟩
              case rest =>
                obtain ⟨rfl, hwx⟩ := hcut
                have hwx := hwx.symm
                subst hwx
                clear hcase
                go_wp2_with fail
                refine (NU.out).mono ?_
                rintro e w2 (⟨rfl, K2⟩ | ⟨ns, av, cv, rfl, K2⟩)
                · have FIN := hide (JN.out (Or.inl (DNO.out fun x y z hm => by rw [(K2.out).2] at hm; cases hm)) w2 ((C.out).1.keep.trans (K2.out).1))
                  clear JN JY DNO DOK NU
                  go_wp2_with fail
                  go_ret3
                  exact FIN.out
                · have kw2 := (C.out).1.keep.trans (K2.out).1
                  have t0 := (K2.out).1.cell t0 (fun e => e)
                  have t1 := (K2.out).1.cell t1 (fun e => e)
                  have hcb : w2.cell? ⟨w.heap.size, 0, none⟩ = some (I c) := by rw [(Keep.blk (K2.out).1 (C.out).1.cfg).cell]; rfl
                  have lbl : lb < w2.heap.size := (Keep.blk (K2.out).1 (C.out).2).lt
                  have cbl : w.heap.size < w2.heap.size := (Keep.blk (K2.out).1 (C.out).1.cfg).lt
                  by_cases hn3 : ns.length = 3
                  · obtain ⟨x, y, z, rfl⟩ : ∃ x y z, ns = [x, y, z] := by
                      match ns, hn3 with
                      | [x, y, z], _ => exact ⟨x, y, z, rfl⟩
                    have hrow := (K2.out).2.2
                    obtain ⟨g, hg, hc0, hc1, hc2, hgl⟩ : ∃ g, av = some ⟨g, 0, none⟩ ∧ w2.cell? ⟨g, 0, none⟩ = some (I ((x : Nat) : Int)) ∧ w2.cell? ⟨g, 1, none⟩ = some (I ((y : Nat) : Int)) ∧ w2.cell? ⟨g, 2, none⟩ = some (I ((z : Nat) : Int)) ∧ g < w2.heap.size := by
                      rcases hrow.2 with ⟨q1, q2⟩ | ⟨g, cp', cur, q1, -⟩
                      · simp at q2
                      · injection q1 with q1 q3 q4
                        subst q1
                        exact ⟨g, rfl, hrow.cells (g := g) rfl 0 _ rfl, hrow.cells (g := g) rfl 1 _ rfl, hrow.cells (g := g) rfl 2 _ rfl, (hrow.lt g rfl).2⟩
                    subst hg
                    have BADX : Hid (¬ (((x : Int) ≤ 399 ∧ (y : Int) < c ∧ 1 ≤ z ∧ z ≤ 1000) ∧ jfol last ⟨x, y, z⟩ = true) → ReadOut w c s (.returned (.tuple #[.slice none 0 0, I 0, I ((done.length : Int) + 1)])) (w2.alloc (.cells #[I x, I y, I z] 100)).drew) := by
                      intro hno
                      refine JN.out ?_ _ ((kw2.alloc _).drew)
                      by_cases hq : (x : Int) ≤ 399 ∧ (y : Int) < c ∧ 1 ≤ z ∧ z ≤ 1000
                      · refine Or.inr ⟨_, DOK.out x y z (K2.out).2.1 hq, ?_⟩
                        cases hf : jfol last ⟨x, y, z⟩ with
                        | false => rfl
                        | true => exact absurd ⟨hq, hf⟩ hno
                      · refine Or.inl (DNO.out fun x' y' z' hm => ?_)
                        rw [(K2.out).2.1] at hm
                        injection hm with hm
                        injection hm with m1 hm
                        injection hm with m2 hm
                        injection hm with m3 hm
                        subst m1; subst m2; subst m3
                        exact hq
                    have NX : Hid (∀ (W w5 : World) (v' : Value), ((x : Int) ≤ 399 ∧ (y : Int) < c ∧ 1 ≤ z ∧ z ≤ 1000) → jfol last ⟨x, y, z⟩ = true → Keep w2 W → w5.ownsRow 0 100 3 v' (done.length + 1) (done.flatMap dsC ++ [I x, I y, I z]) → W.grownBy w5 (Value.slice ad done.length cp).ownBlock → (v'.ownBlock = (Value.slice ad done.length cp).ownBlock ∨ (v'.ownBlock = some W.heap.size ∧ W.grownBy w5 none)) →
                        Hid (RRAt w w5 #[I c, .slice a0 n0 cap0, I lock] v' (done ++ [⟨x, y, z⟩]) ∧ JMid c (done ++ [⟨x, y, z⟩]) (lastOf (done ++ [⟨x, y, z⟩])) ∧ jread c ds0 s = JR.pushL (done ++ [⟨x, y, z⟩]) (jread c (lastOf (done ++ [⟨x, y, z⟩])) (s.drop (e + 1))))) := by
                      intro W w5 v' hq hf kW h4 h5 h6
                      exact ⟨((C.out).1.on ((K2.out).1.trans kW)).more h4 h5 h6, JY.out _ (DOK.out x y z (K2.out).2.1 hq) hf⟩
                    have ROW := hide (((C.out).1.on (K2.out).1).row)
                    clear hrow JN JY DNO DOK NU hn3
                    have hr : ((last.tick < (x : Int)) ∧ jfol last ⟨x, y, z⟩ = true) ∨ (decide (last.tick < (x : Int)) = false ∧ ((x : Int) == last.tick) = true ∧ last.ch < (y : Int) ∧ jfol last ⟨x, y, z⟩ = true) ∨ (decide (last.tick < (x : Int)) = false ∧ ((x : Int) == last.tick) = true ∧ decide (last.ch < (y : Int)) = false ∧ jfol last ⟨x, y, z⟩ = false) ∨ (decide (last.tick < (x : Int)) = false ∧ ((x : Int) == last.tick) = false ∧ jfol last ⟨x, y, z⟩ = false) := by
                      by_cases q1 : last.tick < (x : Int)
                      · exact Or.inl ⟨q1, by simp [jfol, q1]⟩
                      · have q1' : decide (last.tick < (x : Int)) = false := decide_eq_false q1
                        by_cases q2 : (x : Int) = last.tick
                        · by_cases q3 : last.ch < (y : Int)
                          · exact Or.inr (Or.inl ⟨q1', by simpa using q2, q3, by simp [jfol, q2, q3]⟩)
                          · exact Or.inr (Or.inr (Or.inl ⟨q1', by simpa using q2, decide_eq_false q3, by simp [jfol, q2, q3]⟩))
                        · exact Or.inr (Or.inr (Or.inr ⟨q1', by simpa using q2, by simp [jfol, q1']; intro e; exact absurd e.symm q2⟩))
                    have hcn : ((x : Int) ≤ 399 ∧ (y : Int) < c ∧ 1 ≤ z ∧ z ≤ 1000) ∨ ((400 : Int) ≤ x) ∨ (decide ((400 : Int) ≤ x) = false ∧ c ≤ (y : Int)) ∨ (decide ((400 : Int) ≤ x) = false ∧ decide (c ≤ (y : Int)) = false ∧ (z : Int) < 1) ∨ (decide ((400 : Int) ≤ x) = false ∧ decide (c ≤ (y : Int)) = false ∧ decide ((z : Int) < 1) = false ∧ (1000 : Int) < z) := by
                      by_cases q1 : (400 : Int) ≤ x
                      · exact Or.inr (Or.inl q1)
                      · by_cases q2 : c ≤ (y : Int)
                        · exact Or.inr (Or.inr (Or.inl ⟨decide_eq_false q1, q2⟩))
                        · by_cases q3 : (z : Int) < 1
                          · exact Or.inr (Or.inr (Or.inr (Or.inl ⟨decide_eq_false q1, decide_eq_false q2, q3⟩)))
                          · by_cases q4 : (1000 : Int) < z
                            · exact Or.inr (Or.inr (Or.inr (Or.inr ⟨decide_eq_false q1, decide_eq_false q2, decide_eq_false q3, q4⟩)))
                            · exact Or.inl ⟨by omega, by omega, by omega, by omega⟩
                    have hgood : Hid (((x : Int) ≤ 399 ∧ (y : Int) < c ∧ 1 ≤ z ∧ z ≤ 1000) → decide ((400 : Int) ≤ x) = false ∧ decide (c ≤ (y : Int)) = false ∧ decide ((z : Int) < 1) = false ∧ decide ((1000 : Int) < z) = false) := fun h => ⟨decide_eq_false (by omega), decide_eq_false (by omega), decide_eq_false (by omega), decide_eq_false (by omega)⟩
                    have FJ : Hid (jfol last ⟨x, y, z⟩ = false → ReadOut w c s (.returned (.tuple #[.slice none 0 0, I 0, I ((done.length : Int) + 1)])) (w2.alloc (.cells #[I x, I y, I z] 100)).drew) := fun h => BADX.out fun q => by rw [h] at q; cases q.2
                    have FC : Hid (¬ ((x : Int) ≤ 399 ∧ (y : Int) < c ∧ 1 ≤ z ∧ z ≤ 1000) → ReadOut w c s (.returned (.tuple #[.slice none 0 0, I 0, I ((done.length : Int) + 1)])) (w2.alloc (.cells #[I x, I y, I z] 100)).drew) := fun h => BADX.out fun q => h q.1
                    clear BADX
                    rcases hr with ⟨r1, hf⟩ | ⟨r1, r2, r3, hf⟩ | ⟨r1, r2, r3, hf⟩ | ⟨r1, r2, hf⟩
                    case inr.inr.inl | inr.inr.inr =>
                      have FB := hide (FJ.out hf)
                      clear FJ FC NX hcn hf
                      go_wp2_with fail
                      go_region
                      all_goals go_wp2_with fail
                      all_goals go_ret3
                      all_goals exact FB.out
                    all_goals
                      rcases hcn with hcd | hcd | ⟨q1, hcd⟩ | ⟨q1, q2, hcd⟩ | ⟨q1, q2, q3, hcd⟩
                      case inr.inl | inr.inr.inl | inr.inr.inr.inl | inr.inr.inr.inr =>
                        have FB := hide (FC.out (by omega))
                        clear FJ FC NX hf hgood
                        go_wp2_with fail
                        go_region
                        all_goals go_wp2_with fail
                        all_goals go_ret3
                        all_goals exact FB.out
                      obtain ⟨q1, q2, q3, q4⟩ := hgood.out hcd
                      have NY := hide (fun W w5 v' => NX.out W w5 v' hcd hf)
                      clear FJ FC NX hf hgood hcd
                      go_wp2_with fail
                      go_region
                      all_goals
                        go_wp2_with (at_builtin; refine wpList_append_row _ rfl (.tmp 168) (.tmp 170) 35 rfl 100 i (.agg #[I 0, I 0, I 0]) 3 24 Tryz.underlying35 hi hz0 hz1 hz2 rfl (by decide) (.slice ad done.length cp) done.length (done.flatMap dsC) rfl (by exact row_frm ROW.out (show Keep w2 _ from (((Frm.refl _ _).alloc _).alloc _).drew) (fun _ _ e => e)) _ 1 1 [I x, I y, I z] rfl rfl (by exact cell_news _ [I x, I y, I z] _ _ (by simp)) (by intro u hu; simp at hu; rcases hu with rfl | rfl | rfl <;> rfl) (by unfold maxLen; omega) (by omega) ?_; intro v5 w5 hown5 hgr5 hnew5; have G := NY.out _ w5 v5 ((((Frm.refl _ _).alloc _).alloc _).drew) hown5 hgr5 hnew5; obtain ⟨a5, cp5, hv5⟩ := row_slice hown5; subst hv5; clear hown5 hgr5 hnew5)
                        go_roundg (s.length - (e + 1))
                        case measure => omega
                        case rel => exact ⟨e + 1, done ++ [⟨x, y, z⟩], a5, cp5, by omega, by simp, by simp, by simp, by rw [show (done ++ [(⟨x, y, z⟩ : Ds)]).length = done.length + 1 from by simp]; exact G⟩
                  · have FIN := hide (JN.out (Or.inl (DNO.out fun x y z hm => by
                      rw [(K2.out).2.1] at hm
                      injection hm with hm
                      subst hm
                      simp at hn3)) w2 kw2)
                    have hne : ((ns.length : Int) == 3) = false := by
                      simp only [beq_eq_false_iff_ne]
                      omega
                    have hne2 : (ns.length == 3) = false := by simpa using hn3
                    have hne3 : decide ((ns.length : Int) = 3) = false := decide_eq_false (by omega)
                    have hne4 : ((ns.length : Int) != 3) = true := by simp [bne, hne]
                    have hne5 : (ns.length != 3) = true := by simp [bne, hne2]
                    clear JN JY DNO DOK NU
                    go_wp2_with fail
                    go_ret3
                    exact FIN.out
        · have N : Hid (JGap s p (e + 1)) := (hge.out).next hx h10
          have hz : ((x.toNat : Int) == 10) = false := by
            simp only [beq_eq_false_iff_ne]
            intro q
            exact h10 (UInt8.toNat_inj.1 (show x.toNat = 10 by omega))
          clear hx h10 hge HG
          go_wp2_with fail
          go_roundg (gk - 1)
          case measure => omega
          case rel => exact ⟨e + 1, by omega, by simp, rfl, N⟩
      · have hee : e = s.length := by have := (hge.out).hi; omega
        subst hee
        have FIN := hide (BAD.out wr (done.length + 1) ((done.length : Int) + 1) (by
          rw [(HH.out).2.2, jread_eq, (hge.out).over]
          rfl) (by omega) kwr.out)
        clear hge HG HH BAD kwr
        go_wp2_with fail
        go_ret3
        exact FIN.out

end Go.Proofs.YtpilmkipbbengaaGreatDoor
