/- Journal, Open: the program's. -/
import Derived.Test.YtpilmkipbbengaaGreatDoorJfM
import Derived.Test.YtpilmkipbbengaaGreatDoorJdM
import Derived.Test.YtpilmkipbbengaaGreatDoorJwr
namespace Go.Proofs.YtpilmkipbbengaaGreatDoor
open Go.RowKit

theorem rep_map (c : Nat) : (List.replicate c ch0).map restC = List.replicate c chR := by simp [restC, ch0, chR]

/-- what is known of a pump that New gave -/
structure NewPo (w w' : World) (b : Nat) (c : Int) (lims : List Lim) (lock : Int) (D : GSt) (vc vw : Value) : Prop where
  lie : QAt w' b D vc vw [] []
  rel : ORel D [] (rnew c.toNat lims lock)
  new : ∀ x, QF b D vc vw [] x → w.heap.size ≤ x

theorem po_new {w w' : World} {F : Nat → Prop} {b : Nat} {c : Nat} {lims : List Lim} {lock : Int} (h : po w' F b (rnew c lims lock)) (hn : ∀ x, F x → w.heap.size ≤ x) : ∃ D vc vw, QAt w' b D vc vw [] [] ∧ ORel D [] (rnew c lims lock) ∧ ∀ x, QF b D vc vw [] x → w.heap.size ≤ x := by
  obtain ⟨D, vc, vw, ods, h1, h2, rfl⟩ := h
  have e : ods = [] := by
    have := h2.os
    simp [rnew] at this
    exact this
  subst e
  exact ⟨D, vc, vw, h1, h2, hn⟩

theorem openOut_again {w W w' : World} {b : Nat} {c : Int} {lims : List Lim} {lock : Int} {D : GSt} {vc vw : Value} {s : List UInt8} {ds : List Ds} {now : Int} (hf : fineB c lims lock = true) (hj : jread c ds0 s = .ok (ds, now)) (hb : jbrk lims [] ds = 0) (kW : Keep w W) (new : ∀ x, QF b D vc vw [] x → w.heap.size ≤ x)
    (q : QAt W b D vc vw [] ds) (g : Goes W b D vc vw [] (ropen c.toNat lims lock ds now) w') : OpenOut po w c lims lock s (.returned (.tuple #[.pointer (some ⟨b, 0, none⟩), I 0, I 0])) w' := by
  have sz := kW.size
  have m := g.moved (R := ropen c.toNat lims lock ds now) q rfl
  obtain ⟨m1, F', m2, m3⟩ := m
  refine ⟨kW.trans2 m1 fun x hx e => absurd (new x e) (by omega), ?_⟩
  have e : opened c lims lock s = .ok (ropen c.toNat lims lock ds now) := by
    unfold opened
    rw [if_neg (by rw [hf]; simp), hj]
    simp only
    rw [if_pos hb]
  rw [e]
  refine ⟨b, F', rfl, m2, fun x hx => ?_⟩
  rcases m3 x hx with q | q
  · exact new x q
  · omega

set_option maxRecDepth 100000 in
set_option maxHeartbeats 1600000 in
theorem Open_any (c : Int) (a : Option Addr) (lims : List Lim) (cap : Nat) (lock : Int) (s : List UInt8) (w : World) (hs : SeeL w a lims) (hn : a = none → lims.length = 0 ∧ cap = 0) (hl : lims.length ≤ 5864062014634) (hsl : s.length ≤ 2000000000000000000) :
    Calls Tryz.prog 13 #[cfgV c a lims.length cap lock, .string ⟨s.toArray⟩] w fun e w' => OpenOut po w c lims lock s e w' := by
  cases hf : fineB c lims lock with
  | false =>
    have NW : Hid (∀ W, Keep w W → Calls Tryz.prog 25 #[cfgV c a lims.length cap lock] W fun e w' => e = .returned (.tuple #[.pointer none, I 1]) ∧ Hid (Keep w w')) := by
      intro W kW
      refine (whole_pumpy.new c a lims cap lock W (hs.frm kW (fun _ _ _ e => e)) hn hl).mono ?_
      rintro e w' ⟨k, ⟨-, rfl⟩ | ⟨h, -⟩⟩
      · exact ⟨rfl, kW.trans k⟩
      · rw [hf] at h; cases h
    have FIN : Hid (∀ W, Hid (Keep w W) → OpenOut po w c lims lock s (.returned (.tuple #[.pointer none, I 0, I 1])) W) := by
      intro W kW
      refine ⟨kW.out, ?_⟩
      have e : opened c lims lock s = .error (0, 1) := by unfold opened; rw [if_pos hf]
      rw [e]
    clear hs hf
    unfold cfgV at *
    go_enter Tryz.func13, Tryz.ntmps13
    go_wp2_with fail
    refine (NW.out _ (by exact (Frm.refl _ _).alloc _)).mono ?_
    rintro e w2 ⟨rfl, K2⟩
    go_wp2_with fail
    go_ret3
    exact FIN.out _ K2
  | true =>
    obtain ⟨okn, c0, c1, l0, l1⟩ := fine_parts hf
    have NW : Hid (∀ W, Hid (Keep w W ∧ W.cell? ⟨w.heap.size, 0, none⟩ = some (I c) ∧ w.heap.size < W.heap.size) → Calls Tryz.prog 25 #[cfgV c a lims.length cap lock] W fun e w' => ∃ b D vc vw, e = .returned (.tuple #[.pointer (some ⟨b, 0, none⟩), I 0]) ∧ w'.cell? ⟨w.heap.size, 0, none⟩ = some (I c) ∧ Hid (Keep w w' ∧ NewPo w w' b c lims lock D vc vw)) := by
      intro W hW
      obtain ⟨kW, hc, hlt⟩ := hW.out
      have sz := kW.size
      refine (whole_pumpy.new c a lims cap lock W (hs.frm kW (fun _ _ _ e => e)) hn hl).mono ?_
      rintro e w' ⟨k, ⟨h, -⟩ | ⟨-, b, F, rfl, h1, h2⟩⟩
      · rw [hf] at h; cases h
      · obtain ⟨D, vc, vw, q1, q2, q3⟩ := po_new h1 h2
        exact ⟨b, D, vc, vw, rfl, k.cell hc (fun e => e), kW.trans k, q1, q2, fun x hx => by have := q3 x hx; omega⟩
    have RD : Hid (∀ W, Hid (Keep w W) → Calls Tryz.prog 26 #[.string ⟨s.toArray⟩, I c] W fun e w' => ReadOut W c s e w') := fun W _ => read_any s c W (by omega) c0 c1
    have hcc : ((c.toNat : Nat) : Int) = c := by omega
    cases hj : jread c ds0 s with
    | error n =>
      have h1 := jread_bad1 hj
      have FIN : Hid (∀ W w', Hid (Keep w W) → Keep W w' → OpenOut po w c lims lock s (.returned (.tuple #[.pointer none, I n, I 5])) w') := by
        intro W w' kW k'
        refine ⟨kW.out.trans k', ?_⟩
        have e : opened c lims lock s = .error (n, 5) := by unfold opened; rw [if_neg (by rw [hf]; simp), hj]
        rw [e]
      have RD2 : Hid (∀ W, Hid (Keep w W) → Calls Tryz.prog 26 #[.string ⟨s.toArray⟩, I c] W fun e w' => e = .returned (.tuple #[.slice none 0 0, I 0, I n]) ∧ Hid (OpenOut po w c lims lock s (.returned (.tuple #[.pointer none, I n, I 5])) w')) := by
        intro W kW
        refine (RD.out W kW).mono ?_
        rintro e w' ⟨k', he⟩
        rw [hj] at he
        exact ⟨he, FIN.out W w' kW k'⟩
      have hpos : (0 : Int) < n := by omega
      clear hs hf RD FIN hj okn
      unfold cfgV at *
      go_enter Tryz.func13, Tryz.ntmps13
      go_wp2_with fail
      refine (NW.out _ ⟨(Frm.refl _ _).alloc _, by simp, by simp⟩).mono ?_
      rintro e w2 ⟨b, D, vc, vw, rfl, y0, K2⟩
      go_wp2_with fail
      refine (RD2.out w2 (K2.out).1).mono ?_
      rintro e w3 ⟨rfl, K3⟩
      go_wp2_with fail
      go_ret3
      exact K3.out
    | ok p =>
      obtain ⟨ds, now⟩ := p
      obtain ⟨-, jok⟩ := jread_ok s.length s (Nat.le_refl _) hj
      have RD2 : Hid (∀ W, Hid (Keep w W) → Calls Tryz.prog 26 #[.string ⟨s.toArray⟩, I c] W fun e w' => ∃ v, e = .returned (.tuple #[v, I now, I 0]) ∧ Hid (Keep W w' ∧ w'.ownsRow 0 100 3 v ds.length (ds.flatMap dsC) ∧ ∀ x, v.ownBlock = some x → W.heap.size < x)) := by
        intro W kW
        refine (RD.out W kW).mono ?_
        rintro e w' ⟨k', he⟩
        rw [hj] at he
        obtain ⟨v, he, h1, h2⟩ := he
        exact ⟨v, he, k', h1, h2⟩
      have GA : Hid (∀ (W W2 : World) (b : Nat) (D : GSt) (vc vw v : Value), Hid (Keep w W ∧ NewPo w W b c lims lock D vc vw) → Hid (Keep W W2 ∧ W2.ownsRow 0 100 3 v ds.length (ds.flatMap dsC) ∧ ∀ x, v.ownBlock = some x → W.heap.size < x) →
          Calls Tryz.prog 27 #[ptr b 0, v, I now] W2 fun e w' => e = .returned (I (jbrk lims [] ds : Nat)) ∧ Hid (AgainEnd W2 w' b D vc vw (rnew c.toNat lims lock) ds now)) := by
        intro W W2 b D vc vw v hW hW2
        obtain ⟨kW, np⟩ := hW.out
        obtain ⟨kW2, hrow, hnew⟩ := hW2.out
        have jok2 : JOk ((rnew c.toNat lims lock).chs.length : Int) ds0 ds now := by
          have e : ((rnew c.toNat lims lock).chs.length : Int) = c := by simp [rnew]; omega
          rw [e]; exact jok
        exact giveAgain_any b D vc vw (rnew c.toNat lims lock) ds v now W2 (np.lie.keep kW2) np.rel rfl rfl okn ds0 jok2 hrow (fun x hx e => by have := np.lie.lt x e; have := hnew x hx; omega)
      have RA : Hid (∀ (W W2 W3 : World) (b : Nat) (D : GSt) (vc vw v : Value), jbrk lims [] ds = 0 → Hid (Keep w W ∧ NewPo w W b c lims lock D vc vw) → Hid (Keep W W2 ∧ W2.ownsRow 0 100 3 v ds.length (ds.flatMap dsC) ∧ ∀ x, v.ownBlock = some x → W.heap.size < x) → Hid (AgainEnd W2 W3 b D vc vw (rnew c.toNat lims lock) ds now) →
          Calls Tryz.prog 28 #[ptr b 0] W3 fun e w' => e = .returned (.tuple #[]) ∧ Hid (OpenOut po w c lims lock s (.returned (.tuple #[.pointer (some ⟨b, 0, none⟩), I 0, I 0])) w')) := by
        intro W W2 W3 b D vc vw v hb hW hW2 hW3
        obtain ⟨kW, np⟩ := hW.out
        obtain ⟨kW2, hrow, hnew⟩ := hW2.out
        obtain ⟨hfr, hop⟩ := hW3.out
        obtain ⟨D', op⟩ := hop hb
        have s1 := kW.size
        have s2 := kW2.size
        have rel := op.rel.strict fun d hd => (jok.each d hd).2.1
        have nc : (rnew c.toNat lims lock).chs.length ≤ 4 := okn.nc1
        refine (restAll_any b D' vc vw [] { rnew c.toNat lims lock with now := now, doses := ds } W3 op.lie.p rel nc).mono ?_
        rintro e w' ⟨rfl, g⟩
        have e1 : ({ ({ rnew c.toNat lims lock with now := now, doses := ds } : RSt) with chs := (rnew c.toNat lims lock).chs.map restC } : RSt) = ropen c.toNat lims lock ds now := by
          simp only [rnew, rep_map]
          rfl
        have g' : Goes W3 b D' vc vw [] (ropen c.toNat lims lock ds now) w' := by rw [← e1]; exact g
        have new' : ∀ x, QF b D' vc vw [] x → w.heap.size ≤ x := fun x hx => by
          rcases op.foot x hx with q | q
          · exact np.new x q
          · omega
        exact ⟨rfl, openOut_again hf hj hb ((kW.trans kW2).trans2 hfr fun x hx e => absurd (np.new x e) (by omega)) new' op.lie g'⟩
      by_cases hb : jbrk lims [] ds = 0
      · rw [hb] at GA
        clear hs hf RD hj jok okn
        unfold cfgV at *
        go_enter Tryz.func13, Tryz.ntmps13
        go_wp2_with fail
        refine (NW.out _ ⟨(Frm.refl _ _).alloc _, by simp, by simp⟩).mono ?_
        rintro e w2 ⟨b, D, vc, vw, rfl, y0, K2⟩
        go_wp2_with fail
        refine (RD2.out w2 (K2.out).1).mono ?_
        rintro e w3 ⟨v, rfl, K3⟩
        go_wp2_with fail
        refine (GA.out w2 w3 b D vc vw v K2 K3).mono ?_
        rintro e w4 ⟨rfl, K4⟩
        have C4 := hide (RA.out w2 w3 w4 b D vc vw v hb K2 K3 K4)
        clear hb GA RA
        go_wp2_with fail
        refine (C4.out).mono ?_
        rintro e w5 ⟨rfl, K5⟩
        go_wp2_with fail
        go_ret3
        exact K5.out
      · have FIN : Hid (∀ (W W2 W3 : World) (b : Nat) (D : GSt) (vc vw v : Value), Hid (Keep w W ∧ NewPo w W b c lims lock D vc vw) → Hid (Keep W W2 ∧ W2.ownsRow 0 100 3 v ds.length (ds.flatMap dsC) ∧ ∀ x, v.ownBlock = some x → W.heap.size < x) → Hid (AgainEnd W2 W3 b D vc vw (rnew c.toNat lims lock) ds now) → OpenOut po w c lims lock s (.returned (.tuple #[.pointer none, I (jbrk lims [] ds : Nat), I 6])) W3) := by
          intro W W2 W3 b D vc vw v hW hW2 hW3
          obtain ⟨kW, np⟩ := hW.out
          obtain ⟨kW2, hrow, hnew⟩ := hW2.out
          obtain ⟨hfr, -⟩ := hW3.out
          have s1 := kW.size
          have s2 := kW2.size
          refine ⟨(kW.trans kW2).trans2 hfr fun x hx e => absurd (np.new x e) (by omega), ?_⟩
          have e : opened c lims lock s = .error (jbrk lims [] ds, 6) := by
            unfold opened
            rw [if_neg (by rw [hf]; simp), hj]
            simp only
            rw [if_neg hb]
          rw [e]
        have hpos : (0 : Int) < (jbrk lims [] ds : Nat) := by omega
        clear hs hf RD hj jok okn RA hb
        generalize jbrk lims [] ds = br at *
        unfold cfgV at *
        go_enter Tryz.func13, Tryz.ntmps13
        go_wp2_with fail
        refine (NW.out _ ⟨(Frm.refl _ _).alloc _, by simp, by simp⟩).mono ?_
        rintro e w2 ⟨b, D, vc, vw, rfl, y0, K2⟩
        go_wp2_with fail
        refine (RD2.out w2 (K2.out).1).mono ?_
        rintro e w3 ⟨v, rfl, K3⟩
        go_wp2_with fail
        refine (GA.out w2 w3 b D vc vw v K2 K3).mono ?_
        rintro e w4 ⟨rfl, K4⟩
        go_wp2_with fail
        go_ret3
        exact FIN.out w2 w3 w4 b D vc vw v K2 K3 K4

set_option maxRecDepth 100000 in
set_option maxHeartbeats 800000 in
theorem Journal_any (w : World) (F : Nat → Prop) (b : Nat) (R : RSt) (tb : Tab w) (h : po w F b R) (ok : R.Ok) : Calls Tryz.prog 12 #[.pointer (some ⟨b, 0, none⟩)] w fun e w' => e = .returned (.string ⟨(jtext R.doses R.now).toArray⟩) ∧ Keep w w' := by
  obtain ⟨D, vc, vw, ods, q, rel, rfl⟩ := h
  obtain ⟨sl, ag⟩ := q.p.g.ag
  have c0 : w.cell? ⟨b, 0, none⟩ = some (I R.now) := by rw [ag.head.cell, ← rel.now]; rfl
  have c8 : w.cell? ⟨b, 8, none⟩ = some D.lock.g := by rw [ag.head.cell]; rfl
  have nd := ok.nd
  have WR : Hid (∀ W, Hid (Keep w W) → Calls Tryz.prog 24 #[D.lock.g, I R.now] W fun e w' => e = .returned (.string ⟨(jtext R.doses R.now).toArray⟩) ∧ w'.cell? ⟨b, 0, none⟩ = some (I R.now) ∧ w'.cell? ⟨b, 8, none⟩ = some D.lock.g ∧ Hid (Keep w w')) := by
    intro W kW
    refine (write_any D.lock.g R.doses R.now W (tb.keep kW.out) (row_frm q.row kW.out (fun _ _ e => e)) ok.doses (by omega) ok.now0 ok.now1).mono ?_
    rintro e w' ⟨rfl, k'⟩
    have k2 := (kW.out).trans k'
    exact ⟨rfl, k2.cell c0 (fun e => e), k2.cell c8 (fun e => e), k2⟩
  have START : Hid (Keep w w.drew) := (Frm.refl _ _).drew
  clear q rel ag nd ok tb
  go_enter Tryz.func12, Tryz.ntmps12
  go_wp2_with fail
  go_region_held3 (fun w' => w'.cell? ⟨b, 0, none⟩ = some (I R.now) ∧ w'.cell? ⟨b, 8, none⟩ = some D.lock.g) (((try dsimp only); (repeat' apply And.intro) <;> (go_keep; done))) (first | (go_at_call 24; refine (WR.out _ START).mono ?_; rintro e w2 ⟨rfl, y0, y1, K2⟩))
  go_wp2_with fail
  go_ret
  exact ⟨rfl, K2.out⟩

theorem whole_telly : Telly 12 13 po Tab where
  tell := fun w F b R tb h ok _ => Journal_any w F b R tb h ok
  opens := fun c a lims cap lock s w _ hs hn hl hsl => Open_any c a lims cap lock s w hs hn hl hsl

end Go.Proofs.YtpilmkipbbengaaGreatDoor
