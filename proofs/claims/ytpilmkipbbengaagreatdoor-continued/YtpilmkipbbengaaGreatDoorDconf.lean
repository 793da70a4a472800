/- The config, and New. -/
import Derived.Test.YtpilmkipbbengaaGreatDoorDM
import Derived.Test.YtpilmkipbbengaaGreatDoorMach2
namespace Go.Proofs.YtpilmkipbbengaaGreatDoor
open Go.RowKit

def wi (n a b : Int) : Bool := decide (a ≤ n) && decide (n ≤ b)

set_option maxRecDepth 100000 in
set_option maxHeartbeats 800000 in
theorem limHolds1 (ch win cap : Int) (w : World) :
    Calls Tryz.prog 92 #[.agg #[I ch, I win, I cap], I 1] w fun e w' => e = .returned (.bool (wi ch 1 1 && wi win 1 100 && wi cap 0 100000)) ∧ Keep w w' := by
  have W1 : ∀ W, Calls Tryz.prog 60 #[I ch, I 1, I 1] W fun e w' => e = .returned (.bool (wi ch 1 1)) ∧ w' = W := fun W => within_any ch 1 1 W
  have W2 : ∀ W, Calls Tryz.prog 60 #[I win, I 1, I 100] W fun e w' => e = .returned (.bool (wi win 1 100)) ∧ w' = W := fun W => within_any win 1 100 W
  have W3 : ∀ W, Calls Tryz.prog 60 #[I cap, I 0, I 100000] W fun e w' => e = .returned (.bool (wi cap 0 100000)) ∧ w' = W := fun W => within_any cap 0 100000 W
  generalize wi ch 1 1 = b1 at *
  generalize wi win 1 100 = b2 at *
  generalize wi cap 0 100000 = b3 at *
  have V1 := hide W1
  have V2 := hide W2
  have V3 := hide W3
  clear W1 W2 W3
  cases b1 with
  | false =>
    go_enter Tryz.func92, Tryz.ntmps92
    go_wp2_with fail
    refine (V1.out _).mono ?_
    rintro e w1 ⟨rfl, hw⟩
    subst hw
    go_wp2_with fail
    go_ret
    exact ⟨rfl, (Frm.refl _ _).alloc _⟩
  | true =>
    cases b2 with
    | false =>
      go_enter Tryz.func92, Tryz.ntmps92
      go_wp2_with fail
      refine (V1.out _).mono ?_
      rintro e w1 ⟨rfl, hw⟩
      subst hw
      go_wp2_with fail
      refine (V2.out _).mono ?_
      rintro e w1 ⟨rfl, hw⟩
      subst hw
      go_wp2_with fail
      go_ret
      exact ⟨rfl, (Frm.refl _ _).alloc _⟩
    | true =>
      go_enter Tryz.func92, Tryz.ntmps92
      go_wp2_with fail
      refine (V1.out _).mono ?_
      rintro e w1 ⟨rfl, hw⟩
      subst hw
      go_wp2_with fail
      refine (V2.out _).mono ?_
      rintro e w1 ⟨rfl, hw⟩
      subst hw
      go_wp2_with fail
      refine (V3.out _).mono ?_
      rintro e w1 ⟨rfl, hw⟩
      subst hw
      go_wp2_with fail
      go_ret
      exact ⟨rfl, (Frm.refl _ _).alloc _⟩

set_option maxRecDepth 100000 in
set_option maxHeartbeats 800000 in
theorem limHolds2 (ch win cap : Int) (w : World) :
    Calls Tryz.prog 92 #[.agg #[I ch, I win, I cap], I 2] w fun e w' => e = .returned (.bool (wi ch 1 3 && wi win 1 100 && wi cap 0 100000)) ∧ Keep w w' := by
  have W1 : ∀ W, Calls Tryz.prog 60 #[I ch, I 1, I 3] W fun e w' => e = .returned (.bool (wi ch 1 3)) ∧ w' = W := fun W => within_any ch 1 3 W
  have W2 : ∀ W, Calls Tryz.prog 60 #[I win, I 1, I 100] W fun e w' => e = .returned (.bool (wi win 1 100)) ∧ w' = W := fun W => within_any win 1 100 W
  have W3 : ∀ W, Calls Tryz.prog 60 #[I cap, I 0, I 100000] W fun e w' => e = .returned (.bool (wi cap 0 100000)) ∧ w' = W := fun W => within_any cap 0 100000 W
  generalize wi ch 1 3 = b1 at *
  generalize wi win 1 100 = b2 at *
  generalize wi cap 0 100000 = b3 at *
  have V1 := hide W1
  have V2 := hide W2
  have V3 := hide W3
  clear W1 W2 W3
  cases b1 with
  | false =>
    go_enter Tryz.func92, Tryz.ntmps92
    go_wp2_with fail
    refine (V1.out _).mono ?_
    rintro e w1 ⟨rfl, hw⟩
    subst hw
    go_wp2_with fail
    go_ret
    exact ⟨rfl, (Frm.refl _ _).alloc _⟩
  | true =>
    cases b2 with
    | false =>
      go_enter Tryz.func92, Tryz.ntmps92
      go_wp2_with fail
      refine (V1.out _).mono ?_
      rintro e w1 ⟨rfl, hw⟩
      subst hw
      go_wp2_with fail
      refine (V2.out _).mono ?_
      rintro e w1 ⟨rfl, hw⟩
      subst hw
      go_wp2_with fail
      go_ret
      exact ⟨rfl, (Frm.refl _ _).alloc _⟩
    | true =>
      go_enter Tryz.func92, Tryz.ntmps92
      go_wp2_with fail
      refine (V1.out _).mono ?_
      rintro e w1 ⟨rfl, hw⟩
      subst hw
      go_wp2_with fail
      refine (V2.out _).mono ?_
      rintro e w1 ⟨rfl, hw⟩
      subst hw
      go_wp2_with fail
      refine (V3.out _).mono ?_
      rintro e w1 ⟨rfl, hw⟩
      subst hw
      go_wp2_with fail
      go_ret
      exact ⟨rfl, (Frm.refl _ _).alloc _⟩

set_option maxRecDepth 100000 in
set_option maxHeartbeats 800000 in
theorem limHolds3 (ch win cap : Int) (w : World) :
    Calls Tryz.prog 92 #[.agg #[I ch, I win, I cap], I 3] w fun e w' => e = .returned (.bool (wi ch 1 7 && wi win 1 100 && wi cap 0 100000)) ∧ Keep w w' := by
  have W1 : ∀ W, Calls Tryz.prog 60 #[I ch, I 1, I 7] W fun e w' => e = .returned (.bool (wi ch 1 7)) ∧ w' = W := fun W => within_any ch 1 7 W
  have W2 : ∀ W, Calls Tryz.prog 60 #[I win, I 1, I 100] W fun e w' => e = .returned (.bool (wi win 1 100)) ∧ w' = W := fun W => within_any win 1 100 W
  have W3 : ∀ W, Calls Tryz.prog 60 #[I cap, I 0, I 100000] W fun e w' => e = .returned (.bool (wi cap 0 100000)) ∧ w' = W := fun W => within_any cap 0 100000 W
  generalize wi ch 1 7 = b1 at *
  generalize wi win 1 100 = b2 at *
  generalize wi cap 0 100000 = b3 at *
  have V1 := hide W1
  have V2 := hide W2
  have V3 := hide W3
  clear W1 W2 W3
  cases b1 with
  | false =>
    go_enter Tryz.func92, Tryz.ntmps92
    go_wp2_with fail
    refine (V1.out _).mono ?_
    rintro e w1 ⟨rfl, hw⟩
    subst hw
    go_wp2_with fail
    go_ret
    exact ⟨rfl, (Frm.refl _ _).alloc _⟩
  | true =>
    cases b2 with
    | false =>
      go_enter Tryz.func92, Tryz.ntmps92
      go_wp2_with fail
      refine (V1.out _).mono ?_
      rintro e w1 ⟨rfl, hw⟩
      subst hw
      go_wp2_with fail
      refine (V2.out _).mono ?_
      rintro e w1 ⟨rfl, hw⟩
      subst hw
      go_wp2_with fail
      go_ret
      exact ⟨rfl, (Frm.refl _ _).alloc _⟩
    | true =>
      go_enter Tryz.func92, Tryz.ntmps92
      go_wp2_with fail
      refine (V1.out _).mono ?_
      rintro e w1 ⟨rfl, hw⟩
      subst hw
      go_wp2_with fail
      refine (V2.out _).mono ?_
      rintro e w1 ⟨rfl, hw⟩
      subst hw
      go_wp2_with fail
      refine (V3.out _).mono ?_
      rintro e w1 ⟨rfl, hw⟩
      subst hw
      go_wp2_with fail
      go_ret
      exact ⟨rfl, (Frm.refl _ _).alloc _⟩

set_option maxRecDepth 100000 in
set_option maxHeartbeats 800000 in
theorem limHolds4 (ch win cap : Int) (w : World) :
    Calls Tryz.prog 92 #[.agg #[I ch, I win, I cap], I 4] w fun e w' => e = .returned (.bool (wi ch 1 15 && wi win 1 100 && wi cap 0 100000)) ∧ Keep w w' := by
  have W1 : ∀ W, Calls Tryz.prog 60 #[I ch, I 1, I 15] W fun e w' => e = .returned (.bool (wi ch 1 15)) ∧ w' = W := fun W => within_any ch 1 15 W
  have W2 : ∀ W, Calls Tryz.prog 60 #[I win, I 1, I 100] W fun e w' => e = .returned (.bool (wi win 1 100)) ∧ w' = W := fun W => within_any win 1 100 W
  have W3 : ∀ W, Calls Tryz.prog 60 #[I cap, I 0, I 100000] W fun e w' => e = .returned (.bool (wi cap 0 100000)) ∧ w' = W := fun W => within_any cap 0 100000 W
  generalize wi ch 1 15 = b1 at *
  generalize wi win 1 100 = b2 at *
  generalize wi cap 0 100000 = b3 at *
  have V1 := hide W1
  have V2 := hide W2
  have V3 := hide W3
  clear W1 W2 W3
  cases b1 with
  | false =>
    go_enter Tryz.func92, Tryz.ntmps92
    go_wp2_with fail
    refine (V1.out _).mono ?_
    rintro e w1 ⟨rfl, hw⟩
    subst hw
    go_wp2_with fail
    go_ret
    exact ⟨rfl, (Frm.refl _ _).alloc _⟩
  | true =>
    cases b2 with
    | false =>
      go_enter Tryz.func92, Tryz.ntmps92
      go_wp2_with fail
      refine (V1.out _).mono ?_
      rintro e w1 ⟨rfl, hw⟩
      subst hw
      go_wp2_with fail
      refine (V2.out _).mono ?_
      rintro e w1 ⟨rfl, hw⟩
      subst hw
      go_wp2_with fail
      go_ret
      exact ⟨rfl, (Frm.refl _ _).alloc _⟩
    | true =>
      go_enter Tryz.func92, Tryz.ntmps92
      go_wp2_with fail
      refine (V1.out _).mono ?_
      rintro e w1 ⟨rfl, hw⟩
      subst hw
      go_wp2_with fail
      refine (V2.out _).mono ?_
      rintro e w1 ⟨rfl, hw⟩
      subst hw
      go_wp2_with fail
      refine (V3.out _).mono ?_
      rintro e w1 ⟨rfl, hw⟩
      subst hw
      go_wp2_with fail
      go_ret
      exact ⟨rfl, (Frm.refl _ _).alloc _⟩

theorem wi_lim {c : Int} {l : Lim} {p : Int} (hp : (2 : Int) ^ c.toNat = p + 1) : (wi l.ch 1 p && wi l.win 1 100 && wi l.cap 0 100000) = !badLim c l := by
  have e1 : wi l.ch 1 p = (!decide (l.ch < 1) && !decide (p + 1 ≤ l.ch)) := by
    unfold wi
    rw [← decide_not, ← decide_not]
    congr 1 <;> apply decide_eq_decide.2 <;> omega
  have e2 : wi l.win 1 100 = (!decide (l.win < 1) && !decide (100 < l.win)) := by
    unfold wi
    rw [← decide_not, ← decide_not]
    congr 1 <;> apply decide_eq_decide.2 <;> omega
  have e3 : wi l.cap 0 100000 = (!decide (l.cap < 0) && !decide (100000 < l.cap)) := by
    unfold wi
    rw [← decide_not, ← decide_not]
    congr 1 <;> apply decide_eq_decide.2 <;> omega
  rw [e1, e2, e3, badLim, hp]
  simp only [Bool.not_or, Bool.and_assoc]

theorem limHolds_any (c : Int) (l : Lim) (w : World) (c0 : 1 ≤ c) (c1 : c ≤ 4) :
    Calls Tryz.prog 92 #[.agg #[I l.ch, I l.win, I l.cap], I c] w fun e w' => e = .returned (.bool (!badLim c l)) ∧ Keep w w' := by
  have : c = 1 ∨ c = 2 ∨ c = 3 ∨ c = 4 := by omega
  rcases this with rfl | rfl | rfl | rfl
  · rw [← wi_lim (p := 1) rfl]; exact limHolds1 l.ch l.win l.cap w
  · rw [← wi_lim (p := 3) rfl]; exact limHolds2 l.ch l.win l.cap w
  · rw [← wi_lim (p := 7) rfl]; exact limHolds3 l.ch l.win l.cap w
  · rw [← wi_lim (p := 15) rfl]; exact limHolds4 l.ch l.win l.cap w

set_option maxRecDepth 100000 in
set_option maxHeartbeats 1600000 in
theorem config_head (c : Int) (a : Option Addr) (n cap : Nat) (lock : Int) (w : World) (h : badHead c n lock = true) (hn : n ≤ 5864062014634) :
    Calls Tryz.prog 52 #[cfgV c a n cap lock] w fun e w' => e = .returned (.bool false) ∧ Keep w w' := by
  have W1 : ∀ W, Calls Tryz.prog 60 #[I c, I 1, I 4] W fun e w' => e = .returned (.bool (wi c 1 4)) ∧ w' = W := fun W => within_any c 1 4 W
  have W2 : ∀ W, Calls Tryz.prog 60 #[I lock, I 0, I 400] W fun e w' => e = .returned (.bool (wi lock 0 400)) ∧ w' = W := fun W => within_any lock 0 400 W
  by_cases h1 : c < 1 ∨ 4 < c
  · have e : wi c 1 4 = false := within_no h1
    rw [e] at W1
    have V1 := hide W1
    clear W1 W2 h h1 e
    go_enter Tryz.func52, Tryz.ntmps52
    go_wp2_with fail
    refine (V1.out _).mono ?_
    rintro e w1 ⟨rfl, hw⟩
    subst hw
    go_wp2_with fail
    go_ret
    exact ⟨rfl, (Frm.refl _ _).alloc _⟩
  · have e : wi c 1 4 = true := within_yes (by omega) (by omega)
    rw [e] at W1
    by_cases h2 : lock < 0 ∨ 400 < lock
    · have e2 : wi lock 0 400 = false := within_no h2
      rw [e2] at W2
      have V1 := hide W1
      have V2 := hide W2
      clear W1 W2 h h1 e h2 e2
      go_enter Tryz.func52, Tryz.ntmps52
      go_wp2_with fail
      refine (V1.out _).mono ?_
      rintro e w1 ⟨rfl, hw⟩
      subst hw
      go_wp2_with fail
      refine (V2.out _).mono ?_
      rintro e w1 ⟨rfl, hw⟩
      subst hw
      go_wp2_with fail
      go_ret
      exact ⟨rfl, (Frm.refl _ _).alloc _⟩
    · have e2 : wi lock 0 400 = true := within_yes (by omega) (by omega)
      rw [e2] at W2
      have h3 : 6 < (n : Int) := by
        simp [badHead] at h
        omega
      have V1 := hide W1
      have V2 := hide W2
      clear W1 W2 h h1 e h2 e2
      go_enter Tryz.func52, Tryz.ntmps52
      go_wp2_with fail
      refine (V1.out _).mono ?_
      rintro e w1 ⟨rfl, hw⟩
      subst hw
      go_wp2_with fail
      refine (V2.out _).mono ?_
      rintro e w1 ⟨rfl, hw⟩
      subst hw
      go_wp2_with fail
      go_ret
      exact ⟨rfl, (Frm.refl _ _).alloc _⟩

set_option maxRecDepth 100000 in
set_option maxHeartbeats 1600000 in
theorem config_lims (c : Int) (a : Option Addr) (lims : List Lim) (cap : Nat) (lock : Int) (w : World) (hs : SeeL w a lims) (h : badHead c lims.length lock = false) :
    Calls Tryz.prog 52 #[cfgV c a lims.length cap lock] w fun e w' => e = .returned (.bool (lims.all fun l => !badLim c l)) ∧ Keep w w' := by
  have W1 : ∀ W, Calls Tryz.prog 60 #[I c, I 1, I 4] W fun e w' => e = .returned (.bool (wi c 1 4)) ∧ w' = W := fun W => within_any c 1 4 W
  have W2 : ∀ W, Calls Tryz.prog 60 #[I lock, I 0, I 400] W fun e w' => e = .returned (.bool (wi lock 0 400)) ∧ w' = W := fun W => within_any lock 0 400 W
  have hh : (1 ≤ c ∧ c ≤ 4) ∧ lims.length ≤ 6 ∧ 0 ≤ lock ∧ lock ≤ 400 := by
    simp [badHead] at h
    omega
  obtain ⟨⟨c0, c1⟩, hn, l0, l1⟩ := hh
  have e1 : wi c 1 4 = true := within_yes c0 c1
  have e2 : wi lock 0 400 = true := within_yes l0 l1
  rw [e1] at W1
  rw [e2] at W2
  have V1 := hide W1
  have V2 := hide W2
  have H := hide hs
  clear W1 W2 h e1 e2 hs
  go_enter Tryz.func52, Tryz.ntmps52
  go_wp2_with fail
  refine (V1.out _).mono ?_
  rintro e w1 ⟨rfl, hw⟩
  subst hw
  go_wp2_with fail
  refine (V2.out _).mono ?_
  rintro e w1 ⟨rfl, hw⟩
  subst hw
  go_wp2_with fail
  go_loopg [4, 24] lims.length (fun q _ i wr => ∃ j : Nat, q + j = lims.length ∧ i = I j ∧ Hid (Keep w wr ∧ Blk wr w.heap.size #[I c, .slice a lims.length cap, I lock] 30 ∧ ((lims.take j).all fun l => !badLim c l) = true))
  case atStart => exact ⟨0, by omega, rfl, (Frm.refl _ _).alloc _, Blk.new _ _ _, by simp⟩
  case round =>
    obtain ⟨j, hq, rfl, hk⟩ := hrel
    obtain ⟨kw, bx, hall⟩ := hk.out
    have b0 : wr.cell? ⟨w.heap.size, 0, none⟩ = some (I c) := by rw [bx.cell]; rfl
    have b1 : wr.cell? ⟨w.heap.size, 1, none⟩ = some (.slice a lims.length cap) := by rw [bx.cell]; rfl
    have lbx := bx.lt
    by_cases hj : j < lims.length
    · obtain ⟨l, hl⟩ : ∃ l, lims[j]? = some l := ⟨_, List.getElem?_eq_getElem hj⟩
      have hsee := (H.out).frm kw (fun _ _ _ e => e)
      rcases hsee with e | ⟨g, o, rfl, hg, hcells⟩
      · rw [e] at hj; simp at hj
      obtain ⟨d0, d1, d2⟩ := hcells j l hl
      have HH := hide (And.intro hq (And.intro kw (And.intro bx (And.intro hall hl))))
      have LH := hide (fun W => limHolds_any c l W c0 c1)
      clear hcells hk kw bx hall hq hl
      go_wp2_with fail
      refine (LH.out _).mono ?_
      rintro e w2 ⟨rfl, k2⟩
      have K2 := hide k2
      clear k2
      cases hb : badLim c l with
      | true =>
        go_wp2_with fail
        go_ret
        obtain ⟨hq, kw, bx, hall, hl⟩ := HH.out
        exact ⟨ret_bool (by rw [Eq.comm, Bool.eq_false_iff]; intro e; rw [List.all_eq_true] at e; have := e l (List.mem_of_getElem? hl); rw [hb] at this; simp at this), (kw.alloc _).trans K2.out⟩
      | false =>
        go_wp2_with fail
        obtain ⟨hq, kw, bx, hall, hl⟩ := HH.out
        go_roundg (gk - 1)
        case measure => omega
        case rel => exact ⟨j + 1, by omega, by simp, (kw.alloc _).trans K2.out, (K2.out).blk (bx.alloc _), by rw [take_snoc' hl, List.all_append, hall]; simp [hb]⟩
    · have HH := hide (And.intro hq (And.intro kw hall))
      clear hk kw bx hall hq
      go_wp2_with fail
      go_ret
      obtain ⟨hq, kw, hall⟩ := HH.out
      exact ⟨ret_bool (by rw [← hall, List.take_of_length_le (by omega)]), kw⟩

theorem config_any (c : Int) (a : Option Addr) (lims : List Lim) (cap : Nat) (lock : Int) (w : World) (hs : SeeL w a lims) (hn : lims.length ≤ 5864062014634) :
    Calls Tryz.prog 52 #[cfgV c a lims.length cap lock] w fun e w' => e = .returned (.bool (fineB c lims lock)) ∧ Keep w w' := by
  unfold fineB
  cases h : badHead c lims.length lock with
  | true => simpa using config_head c a lims.length cap lock w h hn
  | false => simpa using config_lims c a lims cap lock w hs h

end Go.Proofs.YtpilmkipbbengaaGreatDoor
