/- The document's pump: Run, Room, Wait, Basal. -/
import Derived.Test.YtpilmkipbbengaaGreatDoorRef4
namespace Go.Proofs.YtpilmkipbbengaaGreatDoor
open Go.RowKit

theorem TickSt.mid {w wr w1 : World} {b : Nat} {R R' R'' : RSt} {vl vd vd' vd2 vc vo vout vt : Value} (h0 : ∀ x, RefF b vl vd vc vo x → x < w.heap.size) (h : TickSt w wr b R R' vl vd vd' vc vo vout) (ht : TickSt wr w1 b R' R'' vl vd' vd2 vc vo vt) :
    w1.ownsRow 0 100 3 vout (R'.doses.length - R.doses.length) ((R'.doses.drop R.doses.length).flatMap dsC) ∧ Dis vout vd2 ∧ (∀ x, RefF b vl vd2 vc vo x → vout.ownBlock ≠ some x) := by
  have hd2 : Dis vout vd2 := by
    intro x hx e
    rcases ht.nd with e' | ⟨g, e', hg⟩
    · rw [e'] at e; exact h.sep x hx e
    · rw [e'] at e; injection e with e; have := (h.out.lt x hx).2; omega
  have old : ∀ x, (x = b ∨ vl.ownBlock = some x ∨ vc.ownBlock = some x ∨ vo.ownBlock = some x) → vout.ownBlock ≠ some x := by
    intro x hx e
    have h1 := h.no x e
    have h2 : x < w.heap.size := by
      rcases hx with e | e | e | e
      · exact h0 x (Or.inl e)
      · exact h0 x (Or.inr (Or.inl e))
      · exact h0 x (Or.inr (Or.inr (Or.inr (Or.inl e))))
      · exact h0 x (Or.inr (Or.inr (Or.inr (Or.inr e))))
    omega
  refine ⟨row_frm h.out ht.frm ?_, hd2, ?_⟩
  · rintro g hg (e | e | e | e | e)
    · exact old g (Or.inl e) hg
    · exact old g (Or.inr (Or.inl e)) hg
    · exact h.sep g hg e
    · exact old g (Or.inr (Or.inr (Or.inl e))) hg
    · exact old g (Or.inr (Or.inr (Or.inr e))) hg
  · rintro g (e | e | e | e | e) hg
    · exact old g (Or.inl e) hg
    · exact old g (Or.inr (Or.inl e)) hg
    · exact hd2 g hg e
    · exact old g (Or.inr (Or.inr (Or.inl e))) hg
    · exact old g (Or.inr (Or.inr (Or.inr e))) hg

theorem TickSt.join {w wr w1 w2 : World} {b : Nat} {R R' R'' : RSt} {vl vd vd' vd2 vc vo vout vt v' : Value} (h0 : ∀ x, RefF b vl vd vc vo x → x < w.heap.size) (h : TickSt w wr b R R' vl vd vd' vc vo vout) (ht : TickSt wr w1 b R' R'' vl vd' vd2 vc vo vt)
    (hp1 : R.doses <+: R'.doses) (hp2 : R'.doses <+: R''.doses) (hg : w1.grownBy w2 vout.ownBlock) (hnew : v'.ownBlock = vout.ownBlock ∨ (v'.ownBlock = some w1.heap.size ∧ w1.grownBy w2 none))
    (hrow : w2.ownsRow 0 100 3 v' (R'.doses.length - R.doses.length + (R''.doses.length - R'.doses.length)) ((R'.doses.drop R.doses.length).flatMap dsC ++ (R''.doses.drop R'.doses.length).flatMap dsC)) :
    TickSt w w2 b R R'' vl vd vd2 vc vo v' := by
  obtain ⟨m1, m2, m3⟩ := h.mid h0 ht
  have s1 := h.frm.size
  have s2 := ht.frm.size
  have l1 := hp1.length_le
  have l2 := hp2.length_le
  refine ⟨ht.lie.frm (grown_frm hg) (fun x hx e => m3 x hx e), ?_, ?_, ?_, ?_, ?_⟩
  · rw [drop_drop_pre hp1 hp2, List.flatMap_append, show R''.doses.length - R.doses.length = R'.doses.length - R.doses.length + (R''.doses.length - R'.doses.length) from by omega]
    exact hrow
  · refine (h.frm.trans2 ht.frm ?_).trans2 (grown_frm hg) ?_
    · rintro x hx (e | e | e | e | e)
      · exact Or.inl e
      · exact Or.inr (Or.inl e)
      · rcases h.nd with e' | ⟨g, e', hg'⟩
        · exact Or.inr (Or.inr (Or.inl (by rw [← e', e])))
        · rw [e'] at e; injection e with e; omega
      · exact Or.inr (Or.inr (Or.inr (Or.inl e)))
      · exact Or.inr (Or.inr (Or.inr (Or.inr e)))
    · intro x hx e
      have := h.no x e; omega
  · rcases ht.nd with e | ⟨g, e, hg'⟩
    · rw [e]; exact h.nd
    · exact Or.inr ⟨g, e, by omega⟩
  · intro g hg'
    rcases hnew with e | ⟨e, -⟩
    · rw [e] at hg'; exact h.no g hg'
    · rw [e] at hg'; injection hg' with hg'; omega
  · intro x hx e
    rcases hnew with e' | ⟨e', -⟩
    · rw [e'] at hx; exact m2 x hx e
    · rw [e'] at hx; injection hx with hx
      have := ht.lie.lt x (Or.inr (Or.inr (Or.inl e))); omega

def RunEnd (w : World) (b : Nat) (R R' : RSt) (vl vd vc vo : Value) (e : Ending) (w' : World) : Prop := ∃ vd' vout, e = .returned (.tuple #[vout, I 0]) ∧ TickSt w w' b R R' vl vd vd' vc vo vout

set_option maxRecDepth 100000 in
set_option maxHeartbeats 800000 in
theorem rrun_arg (b : Nat) (t : Int) (w : World) (h : t < 1 ∨ 100 < t) :
    Calls Tryz.prog 74 #[.pointer (some ⟨b, 0, none⟩), I t] w fun e w' => e = .returned (.tuple #[.slice none 0 0, I 1]) ∧ w' = w := by
  rcases h with h | h
  · go_enter Tryz.func74, Tryz.ntmps74
    go_wp2
    go_ret2
    exact ⟨rfl, rfl⟩
  · have h' : decide (t < 1) = false := by simp; omega
    go_enter Tryz.func74, Tryz.ntmps74
    go_wp2
    go_ret2
    exact ⟨rfl, rfl⟩

set_option maxRecDepth 100000 in
set_option maxHeartbeats 800000 in
theorem rrun_many (b : Nat) (R : RSt) (vl vd vc vo : Value) (t : Int) (w : World) (h : RefAt w b R vl vd vc vo) (n0 : 0 ≤ R.now) (n1 : R.now ≤ 400) (h1 : 1 ≤ t) (h2 : t ≤ 100) (h3 : 400 < R.now + t) :
    Calls Tryz.prog 74 #[.pointer (some ⟨b, 0, none⟩), I t] w fun e w' => e = .returned (.tuple #[.slice none 0 0, I 2]) ∧ w' = w := by
  have c3 : w.cell? ⟨b, 3, none⟩ = some (I R.now) := by rw [h.head.cell]; rfl
  clear h
  go_enter Tryz.func74, Tryz.ntmps74
  go_wp2
  go_ret2
  exact ⟨rfl, rfl⟩

set_option maxRecDepth 100000 in
set_option maxHeartbeats 1600000 in
theorem rrun_any (b : Nat) (R : RSt) (vl vd vc vo : Value) (t : Nat) (w : World) (h : RefAt w b R vl vd vc vo) (ok : R.Ok) (hf : R.Full) (h1 : 1 ≤ t) (h2 : t ≤ 100) (h3 : R.now + t ≤ 400) :
    Calls Tryz.prog 74 #[.pointer (some ⟨b, 0, none⟩), I t] w fun e w' => RunEnd w b R (rticks t R) vl vd vc vo e w' := by
  obtain ⟨i, hi, hz0, hz1, hz2⟩ := info_parts infoD
  have c3 : w.cell? ⟨b, 3, none⟩ = some (I R.now) := by rw [h.head.cell]; rfl
  have n0 := ok.now0
  have n1 := ok.now1
  have H := hide (And.intro h (And.intro ok hf))
  clear h ok hf
  go_enter Tryz.func74, Tryz.ntmps74
  go_wp2_with fail
  go_loopg [6, 7, 8] t (fun q vout k _ wr => ∃ (j : Nat) (vd' : Value), q + j = t ∧ k = I j ∧ Hid (TickSt w wr b R (rticks j R) vl vd vd' vc vo vout))
  case atStart => exact ⟨0, vd, by omega, rfl, ⟨(H.out).1, by simp [rticks]; exact World.ownsRow_nil .., Frm.refl _ _, Or.inl rfl, fun g hg => by simp [Value.ownBlock] at hg, fun x hx => by simp [Value.ownBlock] at hx⟩⟩
  case round =>
    obtain ⟨j, vd', hkj, rfl, hst⟩ := hrel
    by_cases hj : j < t
    · obtain ⟨hok, hff⟩ := rticks_ok (H.out).2.1 (H.out).2.2 j (by omega)
      have hnow := (rticks_same j R).2.2.1
      have hnd : (rticks j R).doses.length ≤ 1600 := by have := hff.1; omega
      have ct := rtick_any b (rticks j R) vl vd' vc vo wr hst.out.lie hok (by omega) (by omega)
      have HT := hide (And.intro hkj (And.intro hst.out hnd))
      have CT := hide ct
      clear ct hok hff hnow hst hkj hnd c3
      go_wp2_with fail
      refine (CT.out).mono ?_
      rintro e w1 ⟨vd2, vt, rfl, ht⟩
      have hmid := (HT.out).2.1.mid (H.out).1.lt ht
      have l1 : (rtick (rticks j R)).doses.length ≤ 1604 := by have := tks_nd (rticks j R).chs.length (rticks j R); have h5 := (HT.out).2.2; have h6 := (rticks_same j R).1; have h7 := (H.out).2.1.nc1; rw [← h6] at h7; show (tks (rticks j R).chs.length (rticks j R)).doses.length ≤ 1604; omega
      have l2 : (rticks j R).doses.length ≤ 1600 := (HT.out).2.2
      have hone := dsC_one ((rtick (rticks j R)).doses.drop (rticks j R).doses.length)
      have HM := hide (And.intro hmid.1 (And.intro ht hone))
      clear hmid ht hone
      go_wp2_with (at_builtin; refine wpList_append_rows _ rfl _ _ 35 rfl 100 i (.agg #[I 0, I 0, I 0]) 3 24 Tryz.underlying35 hi hz0 hz1 hz2 rfl (by decide) _ _ _ rfl (HM.out).1 _ _ _ rfl (HM.out).2.1.out (HM.out).2.2 (by unfold maxLen; omega) (by omega) ?_; intro v' w2 hown hgr hnew)
      go_roundg (gk - 1)
      case measure => have := (HT.out).1; omega
      case rel => exact ⟨j + 1, vd2, by have := (HT.out).1; omega, by simp, TickSt.join (H.out).1.lt (HT.out).2.1 (HM.out).2.1 (rticks_pre j R) (rtick_pre _) hgr hnew hown⟩
    · have hje : j = t := by omega
      have HK := hide (And.intro hst.out hje)
      clear hkj hst hje c3
      go_wp2_with fail
      go_ret2
      obtain ⟨hs, rfl⟩ := HK.out
      exact ⟨vd', u6, rfl, hs⟩

end Go.Proofs.YtpilmkipbbengaaGreatDoor
