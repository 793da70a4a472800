/- The document's pump: fine. -/
import Derived.Test.YtpilmkipbbengaaGreatDoorRef7
namespace Go.Proofs.YtpilmkipbbengaaGreatDoor
open Go.RowKit

set_option maxRecDepth 100000 in
set_option maxHeartbeats 1600000 in
theorem fine_head (c : Int) (a : Option Addr) (n cap : Nat) (lock : Int) (w : World) (h : badHead c n lock = true) :
    Calls Tryz.prog 106 #[cfgV c a n cap lock] w fun e w' => e = .returned (.bool false) ∧ Keep w w' := by
  have hcase : c < 1 ∨ (decide (c < 1) = false ∧ 4 < c) ∨ (decide (c < 1) = false ∧ decide (4 < c) = false ∧ 6 < (n : Int)) ∨ (decide (c < 1) = false ∧ decide (4 < c) = false ∧ decide (6 < (n : Int)) = false ∧ lock < 0) ∨ (decide (c < 1) = false ∧ decide (4 < c) = false ∧ decide (6 < (n : Int)) = false ∧ decide (lock < 0) = false ∧ 400 < lock) := by
    simp [badHead] at h
    simp
    omega
  clear h
  rcases hcase with h1 | ⟨h1, h2⟩ | ⟨h1, h2, h3⟩ | ⟨h1, h2, h3, h4⟩ | ⟨h1, h2, h3, h4, h5⟩
  all_goals go_enter Tryz.func106, Tryz.ntmps106
  all_goals go_wp2_with fail
  all_goals go_ret
  all_goals exact ⟨rfl, (Frm.refl _ _).alloc _⟩

set_option maxRecDepth 100000 in
set_option maxHeartbeats 3200000 in
theorem fine_lims1 (a : Option Addr) (lims : List Lim) (cap : Nat) (lock : Int) (w : World) (hs : SeeL w a lims) (h : badHead 1 lims.length lock = false) :
    Calls Tryz.prog 106 #[cfgV 1 a lims.length cap lock] w fun e w' => e = .returned (.bool (lims.all fun l => !badLim 1 l)) ∧ Keep w w' := by
  have hp : (2 : Int) ^ (1 : Int).toNat = 2 := rfl
  simp only [badHead, Bool.or_eq_false_iff] at h
  obtain ⟨⟨⟨⟨h1, h2⟩, h3⟩, h4⟩, h5⟩ := h
  have hn : lims.length ≤ 6 := by simp at h3; omega
  have H := hide (And.intro hs hp)
  clear hs hp
  go_enter Tryz.func106, Tryz.ntmps106
  go_wp2_with fail
  go_loopg [3, 4] lims.length (fun q i _ wr => ∃ j : Nat, q + j = lims.length ∧ i = I j ∧ Hid (Keep w wr ∧ Blk wr w.heap.size #[I 1, .slice a lims.length cap, I lock] 30 ∧ ((lims.take j).all fun l => !badLim 1 l) = true))
  case atStart => exact ⟨0, by omega, rfl, (Frm.refl _ _).alloc _, Blk.new _ _ _, by simp⟩
  case round =>
    obtain ⟨j, hq, rfl, hk⟩ := hrel
    obtain ⟨kw, bx, hall⟩ := hk.out
    have b0 : wr.cell? ⟨w.heap.size, 0, none⟩ = some (I 1) := by rw [bx.cell]; rfl
    have b1 : wr.cell? ⟨w.heap.size, 1, none⟩ = some (.slice a lims.length cap) := by rw [bx.cell]; rfl
    have lbx := bx.lt
    by_cases hj : j < lims.length
    · obtain ⟨l, hl⟩ : ∃ l, lims[j]? = some l := ⟨_, List.getElem?_eq_getElem hj⟩
      have hsee := (H.out).1.frm kw (fun _ _ _ e => e)
      rcases hsee with e | ⟨g, o, rfl, hg, hcells⟩
      · rw [e] at hj; simp at hj
      obtain ⟨d0, d1, d2⟩ := hcells j l hl
      have HH := hide (And.intro hq (And.intro kw (And.intro bx (And.intro hall hl))))
      clear hcells hk kw bx hall hq hl
      cases hb : badLim 1 l with
      | true =>
        rcases badLim_cases (H.out).2 hb with g1 | ⟨g1, g2⟩ | ⟨g1, g2, g3⟩ | ⟨g1, g2, g3, g4⟩ | ⟨g1, g2, g3, g4, g5⟩ | ⟨g1, g2, g3, g4, g5, g6⟩
        all_goals go_wp2_with fail
        all_goals go_quiet (fail)
        all_goals go_wp2_with fail
        all_goals go_ret
        all_goals (obtain ⟨hq, kw, bx, hall, hl⟩ := HH.out)
        all_goals exact ⟨ret_bool (by rw [Eq.comm, Bool.eq_false_iff]; intro e; rw [List.all_eq_true] at e; have := e l (List.mem_of_getElem? hl); rw [hb] at this; simp at this), (kw.alloc _).drewN _⟩
      | false =>
        obtain ⟨g1, g2, g3, g4, g5, g6⟩ := goodLim_cases (H.out).2 hb
        go_wp2_with fail
        go_quiet (fail)
        go_wp2_with fail
        obtain ⟨hq, kw, bx, hall, hl⟩ := HH.out
        go_roundg (gk - 1)
        case measure => omega
        case rel => exact ⟨j + 1, by omega, by simp, (kw.alloc _).drewN _, (bx.alloc _).drewN _, by rw [take_snoc' hl, List.all_append, hall]; simp [hb]⟩
    · have HH := hide (And.intro hq (And.intro kw hall))
      clear hk kw bx hall hq
      go_wp2_with fail
      go_ret
      obtain ⟨hq, kw, hall⟩ := HH.out
      exact ⟨ret_bool (by rw [← hall, List.take_of_length_le (by omega)]), kw⟩

set_option maxRecDepth 100000 in
set_option maxHeartbeats 3200000 in
theorem fine_lims2 (a : Option Addr) (lims : List Lim) (cap : Nat) (lock : Int) (w : World) (hs : SeeL w a lims) (h : badHead 2 lims.length lock = false) :
    Calls Tryz.prog 106 #[cfgV 2 a lims.length cap lock] w fun e w' => e = .returned (.bool (lims.all fun l => !badLim 2 l)) ∧ Keep w w' := by
  have hp : (2 : Int) ^ (2 : Int).toNat = 4 := rfl
  simp only [badHead, Bool.or_eq_false_iff] at h
  obtain ⟨⟨⟨⟨h1, h2⟩, h3⟩, h4⟩, h5⟩ := h
  have hn : lims.length ≤ 6 := by simp at h3; omega
  have H := hide (And.intro hs hp)
  clear hs hp
  go_enter Tryz.func106, Tryz.ntmps106
  go_wp2_with fail
  go_loopg [3, 4] lims.length (fun q i _ wr => ∃ j : Nat, q + j = lims.length ∧ i = I j ∧ Hid (Keep w wr ∧ Blk wr w.heap.size #[I 2, .slice a lims.length cap, I lock] 30 ∧ ((lims.take j).all fun l => !badLim 2 l) = true))
  case atStart => exact ⟨0, by omega, rfl, (Frm.refl _ _).alloc _, Blk.new _ _ _, by simp⟩
  case round =>
    obtain ⟨j, hq, rfl, hk⟩ := hrel
    obtain ⟨kw, bx, hall⟩ := hk.out
    have b0 : wr.cell? ⟨w.heap.size, 0, none⟩ = some (I 2) := by rw [bx.cell]; rfl
    have b1 : wr.cell? ⟨w.heap.size, 1, none⟩ = some (.slice a lims.length cap) := by rw [bx.cell]; rfl
    have lbx := bx.lt
    by_cases hj : j < lims.length
    · obtain ⟨l, hl⟩ : ∃ l, lims[j]? = some l := ⟨_, List.getElem?_eq_getElem hj⟩
      have hsee := (H.out).1.frm kw (fun _ _ _ e => e)
      rcases hsee with e | ⟨g, o, rfl, hg, hcells⟩
      · rw [e] at hj; simp at hj
      obtain ⟨d0, d1, d2⟩ := hcells j l hl
      have HH := hide (And.intro hq (And.intro kw (And.intro bx (And.intro hall hl))))
      clear hcells hk kw bx hall hq hl
      cases hb : badLim 2 l with
      | true =>
        rcases badLim_cases (H.out).2 hb with g1 | ⟨g1, g2⟩ | ⟨g1, g2, g3⟩ | ⟨g1, g2, g3, g4⟩ | ⟨g1, g2, g3, g4, g5⟩ | ⟨g1, g2, g3, g4, g5, g6⟩
        all_goals go_wp2_with fail
        all_goals go_quiet (fail)
        all_goals go_wp2_with fail
        all_goals go_ret
        all_goals (obtain ⟨hq, kw, bx, hall, hl⟩ := HH.out)
        all_goals exact ⟨ret_bool (by rw [Eq.comm, Bool.eq_false_iff]; intro e; rw [List.all_eq_true] at e; have := e l (List.mem_of_getElem? hl); rw [hb] at this; simp at this), (kw.alloc _).drewN _⟩
      | false =>
        obtain ⟨g1, g2, g3, g4, g5, g6⟩ := goodLim_cases (H.out).2 hb
        go_wp2_with fail
        go_quiet (fail)
        go_wp2_with fail
        obtain ⟨hq, kw, bx, hall, hl⟩ := HH.out
        go_roundg (gk - 1)
        case measure => omega
        case rel => exact ⟨j + 1, by omega, by simp, (kw.alloc _).drewN _, (bx.alloc _).drewN _, by rw [take_snoc' hl, List.all_append, hall]; simp [hb]⟩
    · have HH := hide (And.intro hq (And.intro kw hall))
      clear hk kw bx hall hq
      go_wp2_with fail
      go_ret
      obtain ⟨hq, kw, hall⟩ := HH.out
      exact ⟨ret_bool (by rw [← hall, List.take_of_length_le (by omega)]), kw⟩

set_option maxRecDepth 100000 in
set_option maxHeartbeats 3200000 in
theorem fine_lims3 (a : Option Addr) (lims : List Lim) (cap : Nat) (lock : Int) (w : World) (hs : SeeL w a lims) (h : badHead 3 lims.length lock = false) :
    Calls Tryz.prog 106 #[cfgV 3 a lims.length cap lock] w fun e w' => e = .returned (.bool (lims.all fun l => !badLim 3 l)) ∧ Keep w w' := by
  have hp : (2 : Int) ^ (3 : Int).toNat = 8 := rfl
  simp only [badHead, Bool.or_eq_false_iff] at h
  obtain ⟨⟨⟨⟨h1, h2⟩, h3⟩, h4⟩, h5⟩ := h
  have hn : lims.length ≤ 6 := by simp at h3; omega
  have H := hide (And.intro hs hp)
  clear hs hp
  go_enter Tryz.func106, Tryz.ntmps106
  go_wp2_with fail
  go_loopg [3, 4] lims.length (fun q i _ wr => ∃ j : Nat, q + j = lims.length ∧ i = I j ∧ Hid (Keep w wr ∧ Blk wr w.heap.size #[I 3, .slice a lims.length cap, I lock] 30 ∧ ((lims.take j).all fun l => !badLim 3 l) = true))
  case atStart => exact ⟨0, by omega, rfl, (Frm.refl _ _).alloc _, Blk.new _ _ _, by simp⟩
  case round =>
    obtain ⟨j, hq, rfl, hk⟩ := hrel
    obtain ⟨kw, bx, hall⟩ := hk.out
    have b0 : wr.cell? ⟨w.heap.size, 0, none⟩ = some (I 3) := by rw [bx.cell]; rfl
    have b1 : wr.cell? ⟨w.heap.size, 1, none⟩ = some (.slice a lims.length cap) := by rw [bx.cell]; rfl
    have lbx := bx.lt
    by_cases hj : j < lims.length
    · obtain ⟨l, hl⟩ : ∃ l, lims[j]? = some l := ⟨_, List.getElem?_eq_getElem hj⟩
      have hsee := (H.out).1.frm kw (fun _ _ _ e => e)
      rcases hsee with e | ⟨g, o, rfl, hg, hcells⟩
      · rw [e] at hj; simp at hj
      obtain ⟨d0, d1, d2⟩ := hcells j l hl
      have HH := hide (And.intro hq (And.intro kw (And.intro bx (And.intro hall hl))))
      clear hcells hk kw bx hall hq hl
      cases hb : badLim 3 l with
      | true =>
        rcases badLim_cases (H.out).2 hb with g1 | ⟨g1, g2⟩ | ⟨g1, g2, g3⟩ | ⟨g1, g2, g3, g4⟩ | ⟨g1, g2, g3, g4, g5⟩ | ⟨g1, g2, g3, g4, g5, g6⟩
        all_goals go_wp2_with fail
        all_goals go_quiet (fail)
        all_goals go_wp2_with fail
        all_goals go_ret
        all_goals (obtain ⟨hq, kw, bx, hall, hl⟩ := HH.out)
        all_goals exact ⟨ret_bool (by rw [Eq.comm, Bool.eq_false_iff]; intro e; rw [List.all_eq_true] at e; have := e l (List.mem_of_getElem? hl); rw [hb] at this; simp at this), (kw.alloc _).drewN _⟩
      | false =>
        obtain ⟨g1, g2, g3, g4, g5, g6⟩ := goodLim_cases (H.out).2 hb
        go_wp2_with fail
        go_quiet (fail)
        go_wp2_with fail
        obtain ⟨hq, kw, bx, hall, hl⟩ := HH.out
        go_roundg (gk - 1)
        case measure => omega
        case rel => exact ⟨j + 1, by omega, by simp, (kw.alloc _).drewN _, (bx.alloc _).drewN _, by rw [take_snoc' hl, List.all_append, hall]; simp [hb]⟩
    · have HH := hide (And.intro hq (And.intro kw hall))
      clear hk kw bx hall hq
      go_wp2_with fail
      go_ret
      obtain ⟨hq, kw, hall⟩ := HH.out
      exact ⟨ret_bool (by rw [← hall, List.take_of_length_le (by omega)]), kw⟩

set_option maxRecDepth 100000 in
set_option maxHeartbeats 3200000 in
theorem fine_lims4 (a : Option Addr) (lims : List Lim) (cap : Nat) (lock : Int) (w : World) (hs : SeeL w a lims) (h : badHead 4 lims.length lock = false) :
    Calls Tryz.prog 106 #[cfgV 4 a lims.length cap lock] w fun e w' => e = .returned (.bool (lims.all fun l => !badLim 4 l)) ∧ Keep w w' := by
  have hp : (2 : Int) ^ (4 : Int).toNat = 16 := rfl
  simp only [badHead, Bool.or_eq_false_iff] at h
  obtain ⟨⟨⟨⟨h1, h2⟩, h3⟩, h4⟩, h5⟩ := h
  have hn : lims.length ≤ 6 := by simp at h3; omega
  have H := hide (And.intro hs hp)
  clear hs hp
  go_enter Tryz.func106, Tryz.ntmps106
  go_wp2_with fail
  go_loopg [3, 4] lims.length (fun q i _ wr => ∃ j : Nat, q + j = lims.length ∧ i = I j ∧ Hid (Keep w wr ∧ Blk wr w.heap.size #[I 4, .slice a lims.length cap, I lock] 30 ∧ ((lims.take j).all fun l => !badLim 4 l) = true))
  case atStart => exact ⟨0, by omega, rfl, (Frm.refl _ _).alloc _, Blk.new _ _ _, by simp⟩
  case round =>
    obtain ⟨j, hq, rfl, hk⟩ := hrel
    obtain ⟨kw, bx, hall⟩ := hk.out
    have b0 : wr.cell? ⟨w.heap.size, 0, none⟩ = some (I 4) := by rw [bx.cell]; rfl
    have b1 : wr.cell? ⟨w.heap.size, 1, none⟩ = some (.slice a lims.length cap) := by rw [bx.cell]; rfl
    have lbx := bx.lt
    by_cases hj : j < lims.length
    · obtain ⟨l, hl⟩ : ∃ l, lims[j]? = some l := ⟨_, List.getElem?_eq_getElem hj⟩
      have hsee := (H.out).1.frm kw (fun _ _ _ e => e)
      rcases hsee with e | ⟨g, o, rfl, hg, hcells⟩
      · rw [e] at hj; simp at hj
      obtain ⟨d0, d1, d2⟩ := hcells j l hl
      have HH := hide (And.intro hq (And.intro kw (And.intro bx (And.intro hall hl))))
      clear hcells hk kw bx hall hq hl
      cases hb : badLim 4 l with
      | true =>
        rcases badLim_cases (H.out).2 hb with g1 | ⟨g1, g2⟩ | ⟨g1, g2, g3⟩ | ⟨g1, g2, g3, g4⟩ | ⟨g1, g2, g3, g4, g5⟩ | ⟨g1, g2, g3, g4, g5, g6⟩
        all_goals go_wp2_with fail
        all_goals go_quiet (fail)
        all_goals go_wp2_with fail
        all_goals go_ret
        all_goals (obtain ⟨hq, kw, bx, hall, hl⟩ := HH.out)
        all_goals exact ⟨ret_bool (by rw [Eq.comm, Bool.eq_false_iff]; intro e; rw [List.all_eq_true] at e; have := e l (List.mem_of_getElem? hl); rw [hb] at this; simp at this), (kw.alloc _).drewN _⟩
      | false =>
        obtain ⟨g1, g2, g3, g4, g5, g6⟩ := goodLim_cases (H.out).2 hb
        go_wp2_with fail
        go_quiet (fail)
        go_wp2_with fail
        obtain ⟨hq, kw, bx, hall, hl⟩ := HH.out
        go_roundg (gk - 1)
        case measure => omega
        case rel => exact ⟨j + 1, by omega, by simp, (kw.alloc _).drewN _, (bx.alloc _).drewN _, by rw [take_snoc' hl, List.all_append, hall]; simp [hb]⟩
    · have HH := hide (And.intro hq (And.intro kw hall))
      clear hk kw bx hall hq
      go_wp2_with fail
      go_ret
      obtain ⟨hq, kw, hall⟩ := HH.out
      exact ⟨ret_bool (by rw [← hall, List.take_of_length_le (by omega)]), kw⟩

theorem fine_any (c : Int) (a : Option Addr) (lims : List Lim) (cap : Nat) (lock : Int) (w : World) (hs : SeeL w a lims) :
    Calls Tryz.prog 106 #[cfgV c a lims.length cap lock] w fun e w' => e = .returned (.bool (fineB c lims lock)) ∧ Keep w w' := by
  cases h : badHead c lims.length lock with
  | true =>
    have e : fineB c lims lock = false := by simp [fineB, h]
    rw [e]; exact fine_head c a lims.length cap lock w h
  | false =>
    have e : fineB c lims lock = lims.all fun l => !badLim c l := by simp [fineB, h]
    rw [e]
    have h' := h
    simp only [badHead, Bool.or_eq_false_iff] at h
    obtain ⟨⟨⟨⟨h1, h2⟩, h3⟩, h4⟩, h5⟩ := h
    have hc : c = 1 ∨ c = 2 ∨ c = 3 ∨ c = 4 := by simp at h1 h2; omega
    rcases hc with rfl | rfl | rfl | rfl
    · exact fine_lims1 a lims cap lock w hs h'
    · exact fine_lims2 a lims cap lock w hs h'
    · exact fine_lims3 a lims cap lock w hs h'
    · exact fine_lims4 a lims cap lock w hs h'

end Go.Proofs.YtpilmkipbbengaaGreatDoor
