/- share. -/
import Derived.Test.YtpilmkipbbengaaGreatDoorGM
namespace Go.Proofs.YtpilmkipbbengaaGreatDoor
open Go.RowKit

/-- what share leaves of the orders, and of the amount -/
def shareL (now : Int) (k : Nat) : List OrdD → Int → List OrdD × Int
  | [], n => ([], n)
  | o :: l, n => if o.on k = true then ({ o with rest := o.rest - min (pD now o) n } :: (shareL now k l (n - min (pD now o) n)).1, (shareL now k l (n - min (pD now o) n)).2) else (o :: (shareL now k l n).1, (shareL now k l n).2)

theorem shareL_append (now : Int) (k : Nat) : ∀ (A B : List OrdD) (n : Int), shareL now k (A ++ B) n = ((shareL now k A n).1 ++ (shareL now k B (shareL now k A n).2).1, (shareL now k B (shareL now k A n).2).2) := by
  intro A
  induction A with
  | nil => intro B n; simp [shareL]
  | cons o A ih =>
    intro B n
    simp only [List.cons_append, shareL]
    split
    · rw [ih]; simp
    · rw [ih]; simp

theorem shareL_skip (now : Int) (k : Nat) : ∀ (A : List OrdD) (n : Int), (∀ o ∈ A, o.on k = false) → shareL now k A n = (A, n) := by
  intro A
  induction A with
  | nil => intro n _; rfl
  | cons o A ih =>
    intro n h
    have h1 := h o (by simp)
    simp [shareL, h1, ih n fun x hx => h x (List.mem_cons_of_mem _ hx)]

theorem shareL_len (now : Int) (k : Nat) : ∀ (A : List OrdD) (n : Int), (shareL now k A n).1.length = A.length := by
  intro A
  induction A with
  | nil => intro n; rfl
  | cons o A ih =>
    intro n
    simp only [shareL]
    split
    · simp [ih]
    · simp [ih]

theorem shareL_get (now : Int) (k : Nat) : ∀ (A : List OrdD) (n : Int) (i : Nat) (p : OrdD), (shareL now k A n).1[i]? = some p → ∃ o, A[i]? = some o ∧ p.blk = o.blk ∧ p.start = o.start ∧ p.stop = o.stop ∧ p.ch = o.ch ∧ p.beg = o.beg ∧ p.fin = o.fin := by
  intro A
  induction A with
  | nil => intro n i p h; simp [shareL] at h
  | cons o A ih =>
    intro n i p h
    simp only [shareL] at h
    cases i with
    | zero =>
      split at h
      · simp at h; subst h; exact ⟨o, rfl, rfl, rfl, rfl, rfl, rfl, rfl⟩
      · simp at h; subst h; exact ⟨o, rfl, rfl, rfl, rfl, rfl, rfl, rfl⟩
    | succ i =>
      split at h
      · simp at h; exact ih _ i p h
      · simp at h; exact ih _ i p h

/-- the next order that goes -/
theorem next_going (k : Nat) : ∀ (post : List OrdD) (o : OrdD) (tl : List OrdD), going post k = o :: tl → ∃ skip rest, post = skip ++ o :: rest ∧ (∀ x ∈ skip, x.on k = false) ∧ o.on k = true ∧ going rest k = tl := by
  intro post
  induction post with
  | nil => intro o tl h; simp [going] at h
  | cons a l ih =>
    intro o tl h
    unfold going at h
    rw [List.filter_cons] at h
    split at h
    · rename_i ha
      injection h with h1 h2
      subst h1
      exact ⟨[], l, rfl, by simp, ha, h2⟩
    · rename_i ha
      obtain ⟨skip, rest, e1, e2, e3, e4⟩ := ih o tl h
      refine ⟨a :: skip, rest, by rw [e1]; rfl, ?_, e3, e4⟩
      intro x hx
      rcases List.mem_cons.1 hx with rfl | hx
      · simpa using ha
      · exact e2 x hx

theorem going_append (A B : List OrdD) (k : Nat) : going (A ++ B) k = going A k ++ going B k := List.filter_append ..

set_option maxRecDepth 100000 in
set_option maxHeartbeats 3200000 in
theorem share_any (b : Nat) (vc : Value) (sos : List Value) (vo : Value) (xt : List Ent) (nv : Int) (ods : List OrdD) (g k : Nat) (now n : Int) (s : Value) (w : World) (h : OAt w b vc sos vo xt nv ods) (f : OFine now ods) (hs : sos[k]? = some s)
    (c2 : w.cell? ⟨g, k * 5 + 2, none⟩ = some s) (n0 : 0 ≤ n) (n1 : n ≤ 1000) :
    Calls Tryz.prog 96 #[ptr g (k * 5), I now, I n] w fun e w' => e = .returned (.tuple #[]) ∧ OAt w' b vc sos vo xt nv (shareL now k ods n).1 ∧ Frm (fun x => ∃ o ∈ ods, x = o.blk) w w' := by
  have hso := h.so k s hs
  obtain ⟨sa, sc, rfl⟩ := row_slice hso
  have hgl : (going ods k).length ≤ 3300 := Nat.le_trans (going_le ods k) f.len
  have H := hide (And.intro h (And.intro f hs))
  clear h f hs hso
  go_enter Tryz.func96, Tryz.ntmps96
  go_wp2_with fail
  go_loopg [2, 7, 8, 14] (going ods k).length (fun q a _ _ i wr => ∃ (j : Nat) (m : Int), q + j = (going ods k).length ∧ i = I j ∧ a = I m ∧ 0 ≤ m ∧ m ≤ 1000 ∧ Hid (∃ pre post, ods = pre ++ post ∧ (going pre k).length = j ∧ (shareL now k pre n).2 = m ∧ OAt wr b vc sos vo xt nv ((shareL now k pre n).1 ++ post) ∧ Frm (fun x => ∃ o ∈ ods, x = o.blk) w wr))
  case atStart => exact ⟨0, n, by omega, rfl, rfl, n0, n1, [], ods, rfl, rfl, rfl, (H.out).1, Frm.refl _ _⟩
  case round =>
    obtain ⟨j, m, hq, rfl, rfl, m0, m1, hst⟩ := hrel
    obtain ⟨pre, post, e1, e2, e3, ho, fr⟩ := hst.out
    by_cases hj : j < (going ods k).length
    · have hgp : going ods k = going pre k ++ going post k := by rw [e1, going_append]
      obtain ⟨o, tl, hot⟩ : ∃ o tl, going post k = o :: tl := by
        cases hh : going post k with
        | nil => rw [hgp, hh] at hj; simp at hj; omega
        | cons o tl => exact ⟨o, tl, rfl⟩
      obtain ⟨skip, rest, p1, p2, p3, p4⟩ := next_going k post o tl hot
      have hcur : (shareL now k pre n).1 ++ post = ((shareL now k pre n).1 ++ skip) ++ o :: rest := by rw [p1]; simp
      have hpos : ((shareL now k pre n).1 ++ post)[pre.length + skip.length]? = some o := by
        rw [hcur, List.getElem?_append_right (by simp [shareL_len])]
        simp [shareL_len]
      have hsoW := ho.so k _ (H.out).2.2
      have hglen : (going ((shareL now k pre n).1 ++ post) k).length = (going ods k).length := by
        obtain ⟨x, y, hxy⟩ := row_slice hsoW
        injection hxy with q1 q2 q3
        omega
      have hgs : (going ((shareL now k pre n).1 ++ post) k)[j]? = some o := by
        have hl : (going (shareL now k pre n).1 k).length = j := by
          have t1 := congrArg List.length (going_append (shareL now k pre n).1 post k)
          have t2 := congrArg List.length hgp
          simp only [List.length_append] at t1 t2
          omega
        rw [going_append, List.getElem?_append_right (by omega), hl, hot]
        simp
      obtain ⟨g', cap', hv, -, hcell, -⟩ := row_at hsoW (fun _ => rfl) hgs (by decide)
      injection hv with hv1 hv2 hv3
      subst hv1
      have d0 := hcell 0 (by decide)
      simp at d0
      have fo := (H.out).2.1
      have hmo : o ∈ ods := by rw [e1, p1]; simp
      have hbl := ho.ords _ o hpos
      have PA := hide (opart_any o.blk _ o.rest o.stop now wr hbl (fo.rest0 o hmo) (fo.rest1 o hmo) (fo.on o hmo k p3) (fo.stop1 o hmo) fo.n0)
      have b1 : wr.cell? ⟨o.blk, 1, none⟩ = some (I o.rest) := by rw [hbl.cell]; rfl
      have f1 := hbl.frozen 1
      have hpd := fo.pd (k := k) (o := o) (List.mem_filter.2 ⟨hmo, p3⟩)
      have hr0 := fo.rest0 o hmo
      have hr1 := fo.rest1 o hmo
      have hpe : (o.rest + (o.stop - now) - 1) / (o.stop - now) = pD now o := rfl
      rw [hpe] at PA
      have FIN : Hid (∀ (c x : Int), c = min (pD now o) m → x = o.rest - c → ∃ k' : Nat, k' < gk ∧ ∃ (j' : Nat) (m' : Int), k' + j' = (going ods k).length ∧ I ((j : Int) + 1) = I j' ∧ I (m - c) = I m' ∧ 0 ≤ m' ∧ m' ≤ 1000 ∧ Hid (∃ pre post, ods = pre ++ post ∧ (going pre k).length = j' ∧ (shareL now k pre n).2 = m' ∧ OAt (wr.setCell ⟨o.blk, 1, none⟩ (I x)) b vc sos vo xt nv ((shareL now k pre n).1 ++ post) ∧ Frm (fun x => ∃ o ∈ ods, x = o.blk) w (wr.setCell ⟨o.blk, 1, none⟩ (I x)))) := by
        intro c x hc hx
        obtain ⟨q1, q2⟩ := ho.setRest hpos x
        have hsh : shareL now k (pre ++ skip ++ [o]) n = ((shareL now k pre n).1 ++ skip ++ [{ o with rest := x }], m - c) := by
          rw [List.append_assoc, shareL_append, shareL_append, shareL_skip now k skip _ p2]
          simp only [shareL, p3, if_true, e3]
          rw [← hc, ← hx]
          simp
        refine ⟨gk - 1, by omega, j + 1, m - c, by omega, by simp, rfl, by omega, by omega, pre ++ skip ++ [o], rest, by rw [e1, p1]; simp, ?_, by rw [hsh], ?_, ?_⟩
        · rw [going_append, going_append]
          have : going skip k = [] := List.filter_eq_nil_iff.2 fun x hx => by simp [p2 x hx]
          simp [going, p3, ← e2]
          exact p2
        · rw [hsh]
          have e5 : ((shareL now k pre n).1 ++ post).set (pre.length + skip.length) { o with rest := x } = (shareL now k pre n).1 ++ skip ++ [{ o with rest := x }] ++ rest := by
            rw [hcur, List.set_append_right _ _ (by simp [shareL_len])]
            simp [shareL_len]
          rw [← e5]; exact q1
        · exact fr.trans (q2.mono fun y _ hy => ⟨o, hmo, hy⟩)
      generalize pD now o = Q at *
      have HQ := hide hq
      clear hq hst ho fr e1 e2 e3 hgp hot p1 p2 p3 p4 hcur hpos hsoW hglen hgs hcell hv2 hv3 hmo hbl fo hpe
      go_wp2_with fail
      refine (PA.out).mono ?_
      rintro e w1 ⟨rfl, hw⟩
      have hw' := hw.symm
      subst hw'
      by_cases hmin : Q ≤ m
      · have hc : min Q m = Q := by omega
        obtain ⟨k', m1', m2'⟩ := FIN.out Q (o.rest - Q) hc.symm rfl
        have M1 := hide m1'
        have M2 := hide m2'
        clear m1' m2' FIN hc
        go_wp2_with fail
        go_roundg k'
        case measure => exact M1.out
        case rel => exact M2.out
      · have hc : min Q m = m := by omega
        obtain ⟨k', m1', m2'⟩ := FIN.out m (o.rest - m) hc.symm rfl
        have M1 := hide m1'
        have M2 := hide m2'
        clear m1' m2' FIN hc
        go_wp2_with fail
        go_roundg k'
        case measure => exact M1.out
        case rel =>
          obtain ⟨j', m', r1, r2, r3, r4⟩ := M2.out
          have e0 : m - m = 0 := by omega
          rw [e0] at r3
          exact ⟨j', m', r1, r2, r3, r4⟩
    · have hje : j = (going ods k).length := by omega
      have hall : going post k = [] := by
        have hgp : going ods k = going pre k ++ going post k := by rw [e1, going_append]
        have t2 := congrArg List.length hgp
        simp only [List.length_append] at t2
        exact List.eq_nil_of_length_eq_zero (by omega)
      have FI : Hid (OAt wr b vc sos vo xt nv (shareL now k ods n).1 ∧ Frm (fun x => ∃ o ∈ ods, x = o.blk) w wr) := by
        have hsk : ∀ x ∈ post, x.on k = false := fun x hx => by
          have := (List.filter_eq_nil_iff.1 hall) x hx
          simpa using this
        rw [e1, shareL_append, shareL_skip now k post _ hsk]
        exact ⟨ho, by rw [← e1]; exact fr⟩
      clear hq hst ho fr e1 e2 e3 hall hje
      go_wp2_with fail
      go_end0
      exact ⟨rfl, (FI.out).1, (FI.out).2⟩

end Go.Proofs.YtpilmkipbbengaaGreatDoor
