/- The document's pump: Run, Room, Wait, Basal. -/
import Derived.Test.YtahiolfelcmikaaGreatRef4
namespace Go.Proofs.YtahiolfelcmikaaGreat
open Go.RowKit

section
variable {P : Program} (w : World)
theorem run_append_none (t ty e : TypeId) (i : TypeInfo) (ht : P.underlying t = some (.slice e)) (hi : P.info? e = some i) (a : Option Addr) (n c : Nat) (hn : n ≤ c) (ha : a = none → n = 0) :
    (Builtin.append_ #[t, t] ty #[.slice a n c, .slice none 0 0]).run P w = .ok (.slice a n c) w := by
  cases a with
  | none => have := ha rfl; subst this; simp [Builtin.append_, run_underlying ht, sizeOf, typeInfo, hi, Builtin.lenOf, run_firstCells_none]
  | some b => simp [Builtin.append_, run_underlying ht, sizeOf, typeInfo, hi, Builtin.lenOf, run_firstCells_none, hn, storeCells]

/-- append(s, x...): both begin their own blocks, or are nil -/
theorem run_append_rows (t ty e : TypeId) (i : TypeInfo) (z : Value) (size bytes : Nat) (ht : P.underlying t = some (.slice e)) (hi : P.info? e = some i) (hz : i.zero = some z)
    (hsize : i.size = size) (hby : i.bytes = bytes) (hzs : z.cells.size = size) (hsz : 0 < size)
    (v : Value) (n : Nat) (xs : List Value) (hown : w.ownsRow 0 e size v n xs) (vx : Value) (m : Nat) (news : List Value) (hx : w.ownsRow 0 e size vx m news) (h1 : ∀ u ∈ news, u.oneCell' = true)
    (h63 : n + m ≤ maxLen) (hbytes : (n + m) * bytes ≤ 140737488355328) :
    ∃ v' w', (Builtin.append_ #[t, t] ty #[v, vx]).run P w = .ok v' w' ∧ w'.ownsRow 0 e size v' (n + m) (xs ++ news) ∧ w.grownBy w' v.ownBlock ∧
      (v'.ownBlock = v.ownBlock ∨ (v'.ownBlock = some w.heap.size ∧ w.grownBy w' none)) := by
  have hl := hx.1
  rcases hx.2 with ⟨rfl, rfl⟩ | ⟨g, cap, cur, rfl, _, r2, r3, r4, r5, r6⟩
  · have hnn : news = [] := List.eq_nil_of_length_eq_zero (by simpa using hl)
    subst hnn
    have hv : ∃ a c, v = .slice a n c ∧ n ≤ c ∧ (a = none → n = 0) := by
      rcases hown.2 with ⟨rfl, rfl⟩ | ⟨g, cap, cur, rfl, _, _, r3, _⟩
      · exact ⟨none, 0, rfl, Nat.le_refl _, fun _ => rfl⟩
      · exact ⟨_, cap, rfl, r3, fun e => by cases e⟩
    obtain ⟨a, c, rfl, hc, ha⟩ := hv
    exact ⟨_, w, run_append_none w t ty e i ht hi a n c hc ha, by simpa using hown, ⟨rfl, rfl, rfl, Nat.le_refl _, fun _ _ _ => rfl⟩, Or.inl rfl⟩
  · exact run_append_row (P := P) w t ty e i z size bytes ht hi hz hsize hby hzs hsz v n xs hown ⟨g, 0, none⟩ m cap news hl (hx.cells (g := g) rfl) h1 h63 hbytes

theorem wpList_append_rows {ops : Array Oper} {rest : List Oper} {o : Oper} {a : Act} {Q : Exit → Act → World → Prop} (hgd : o.guard = none) (s x : Operand) (t : TypeId)
    (ho : o.op = .call { callee := .builtin .append, args := #[s, x], argTypes := #[t, t] })
    (e : TypeId) (i : TypeInfo) (z : Value) (size bytes : Nat) (ht : P.underlying t = some (.slice e)) (hi : P.info? e = some i) (hz : i.zero = some z)
    (hsize : i.size = size) (hby : i.bytes = bytes) (hzs : z.cells.size = size) (hsz : 0 < size)
    (v : Value) (n : Nat) (xs : List Value) (hs : a.eval s = v) (hown : w.ownsRow 0 e size v n xs) (vx : Value) (m : Nat) (news : List Value) (hxe : a.eval x = vx) (hx : w.ownsRow 0 e size vx m news) (h1 : ∀ u ∈ news, u.oneCell' = true)
    (h63 : n + m ≤ maxLen) (hbytes : (n + m) * bytes ≤ 140737488355328)
    (h : ∀ v' w', w'.ownsRow 0 e size v' (n + m) (xs ++ news) → w.grownBy w' v.ownBlock → (v'.ownBlock = v.ownBlock ∨ (v'.ownBlock = some w.heap.size ∧ w.grownBy w' none)) → wpList P ops Q rest (a.put o.dst v') w') : wpList P ops Q (o :: rest) a w :=
  wpList_plain hgd fun _ hK => by
    obtain ⟨v', w', hr, h2, h3, h4⟩ := run_append_rows (P := P) w t o.type e i z size bytes ht hi hz hsize hby hzs hsz v n xs hown vx m news hx h1 h63 hbytes
    unfold Oper.wp execOp
    simp only [ho, resolve, invoke, builtin, Sem.run_bind, Sem.run_pure, Result.andThen_ok, List.map_toArray, List.map_cons, List.map_nil, hs, hxe, hr]
    exact hK _ _ (h v' w' h2 h3 h4)
end

/-- so many ticks -/
def rticks : Nat → RSt → RSt
  | 0, R => R
  | n + 1, R => rtick (rticks n R)

theorem rtick_same (R : RSt) : (rtick R).chs = R.chs ∧ (rtick R).lims = R.lims ∧ (rtick R).now = R.now + 1 ∧ (rtick R).lock = R.lock ∧ (rtick R).os.length = R.os.length := by
  obtain ⟨h1, h2, h3, h4, h5⟩ := tks_same R.chs.length R
  exact ⟨h1, h2, rfl, h4, h5⟩
theorem rticks_same (n : Nat) (R : RSt) : (rticks n R).chs = R.chs ∧ (rticks n R).lims = R.lims ∧ (rticks n R).now = R.now + n ∧ (rticks n R).lock = R.lock ∧ (rticks n R).os.length = R.os.length := by
  induction n with
  | zero => exact ⟨rfl, rfl, by simp [rticks], rfl, rfl⟩
  | succ n ih =>
    have := rtick_same (rticks n R)
    simp only [rticks]
    exact ⟨this.1.trans ih.1, this.2.1.trans ih.2.1, by rw [this.2.2.1, ih.2.2.1]; omega, this.2.2.2.1.trans ih.2.2.2.1, this.2.2.2.2.trans ih.2.2.2.2⟩

/-- how many orders are not over -/
def nov (now : Int) (os : List ROrd) : Nat := os.countP fun o => decide (now < o.stop)
theorem nov_stops (now : Int) (os os' : List ROrd) (h : os'.map (·.stop) = os.map (·.stop)) : nov now os' = nov now os := by
  have e : ∀ l : List ROrd, nov now l = (l.map (·.stop)).countP fun s => decide (now < s) := fun l => by rw [List.countP_map]; rfl
  rw [e, e, h]
theorem nov_later (now : Int) (os : List ROrd) : nov (now + 1) os ≤ nov now os := by
  unfold nov
  apply List.countP_mono_left
  intro o _ h
  simp at h ⊢
  omega
theorem dist_stops (now k : Int) : ∀ (os : List ROrd) (n : Int), (dist now k os n).map (·.stop) = os.map (·.stop) := by
  intro os
  induction os with
  | nil => intro n; rfl
  | cons o os ih =>
    intro n
    unfold dist
    split
    · rfl
    · split
      · simp [ih]
      · simp [ih]
theorem tk1_stops (k : Nat) (R : RSt) : (tk1 k R).os.map (·.stop) = R.os.map (·.stop) := by
  unfold tk1
  split
  · rfl
  · split
    · rfl
    · exact dist_stops _ _ _ _
theorem tks_stops (j : Nat) (R : RSt) : (tks j R).os.map (·.stop) = R.os.map (·.stop) := by
  induction j with
  | zero => rfl
  | succ j ih => exact (tk1_stops j _).trans ih

/-- doses are no more than four a tick; orders, no more than eight -/
def RSt.Full (R : RSt) : Prop := (R.doses.length : Int) ≤ 4 * R.now ∧ (R.os.length : Int) ≤ 8 * R.now + nov R.now R.os ∧ nov R.now R.os ≤ 8

theorem rtick_ok {R : RSt} (ok : R.Ok) (hf : R.Full) (hn : R.now < 400) : (rtick R).Ok ∧ (rtick R).Full := by
  obtain ⟨hf, hf2, hf3⟩ := hf
  have h1 := tks_ok ok hn (by omega) R.chs.length ok.nc1
  have h2 := tks_nd R.chs.length R
  have h3 := tks_same R.chs.length R
  have hc := ok.nc1
  have hn0 := ok.now0
  have h4 := nov_stops (R.now + 1) R.os (tks R.chs.length R).os (tks_stops _ _)
  have h5 := nov_later R.now R.os
  have h6 := h3.2.2.2.2
  refine ⟨⟨h1.lims, h1.nl, h1.doses, h1.nd, ?_, ?_, h1.nc0, h1.nc1, h1.chs, h1.no, h1.os⟩, ?_, ?_, ?_⟩
  · show 0 ≤ R.now + 1; omega
  · show R.now + 1 ≤ 400; omega
  · show (((tks R.chs.length R).doses.length : Nat) : Int) ≤ 4 * (R.now + 1); omega
  · show (((tks R.chs.length R).os.length : Nat) : Int) ≤ 8 * (R.now + 1) + nov (R.now + 1) (tks R.chs.length R).os; omega
  · show nov (R.now + 1) (tks R.chs.length R).os ≤ 8; omega
theorem rticks_ok {R : RSt} (ok : R.Ok) (hf : R.Full) : ∀ n : Nat, R.now + n ≤ 400 → (rticks n R).Ok ∧ (rticks n R).Full := by
  intro n
  induction n with
  | zero => intro _; exact ⟨ok, hf⟩
  | succ n ih =>
    intro h
    have h1 := ih (by omega)
    exact rtick_ok h1.1 h1.2 (by rw [(rticks_same n R).2.2.1]; omega)
theorem rtick_pre (R : RSt) : R.doses <+: (rtick R).doses := tks_pre R.chs.length R
theorem rticks_pre (n : Nat) (R : RSt) : R.doses <+: (rticks n R).doses := by
  induction n with
  | zero => exact List.prefix_refl _
  | succ n ih => exact ih.trans (rtick_pre _)

theorem drop_drop_pre {α : Type} {a b c : List α} (h1 : a <+: b) (h2 : b <+: c) : c.drop a.length = b.drop a.length ++ c.drop b.length := by
  obtain ⟨x, rfl⟩ := h1
  obtain ⟨y, rfl⟩ := h2
  simp [List.append_assoc]

theorem dsC_one (l : List Ds) : ∀ u ∈ l.flatMap dsC, u.oneCell' = true := by
  intro u hu
  obtain ⟨d, _, hd⟩ := List.mem_flatMap.1 hu
  simp [dsC] at hd
  rcases hd with rfl | rfl | rfl <;> rfl

theorem TickSt.mid {w wr w1 : World} {b : Nat} {R R' R'' : RSt} {vl vd vd' vd2 vc vo vout vt : Value} (h0 : ∀ x, RefF b vl vd vc vo x → x < w.heap.size) (h : TickSt w wr b R R' vl vd vd' vc vo vout) (ht : TickSt wr w1 b R' R'' vl vd' vd2 vc vo vt) :
    w1.ownsRow 0 57 3 vout (R'.doses.length - R.doses.length) ((R'.doses.drop R.doses.length).flatMap dsC) ∧ Dis vout vd2 ∧ (∀ x, RefF b vl vd2 vc vo x → vout.ownBlock ≠ some x) := by
  have hd2 : Dis vout vd2 := by
    intro x hx e
    rcases ht.nd with e' | ⟨g, e', hg⟩
    · rw [e'] at e; exact h.sep x hx e
    · rw [e'] at e; injection e with e; have := (h.out.lt x hx).2; omega
  have old : ∀ x, (x = b ∨ vl.ownBlock = some x ∨ vc.ownBlock = some x ∨ vo.ownBlock = some x) → vout.ownBlock ≠ some x := by
    intro x hx e
    have h1 := h.no x e
    have h2 : x < w.heap.size := by
      rcases hx with e | e | e | e
      · exact h0 x (Or.inl e)
      · exact h0 x (Or.inr (Or.inl e))
      · exact h0 x (Or.inr (Or.inr (Or.inr (Or.inl e))))
      · exact h0 x (Or.inr (Or.inr (Or.inr (Or.inr e))))
    omega
  refine ⟨row_frm h.out ht.frm ?_, hd2, ?_⟩
  · rintro g hg (e | e | e | e | e)
    · exact old g (Or.inl e) hg
    · exact old g (Or.inr (Or.inl e)) hg
    · exact h.sep g hg e
    · exact old g (Or.inr (Or.inr (Or.inl e))) hg
    · exact old g (Or.inr (Or.inr (Or.inr e))) hg
  · rintro g (e | e | e | e | e) hg
    · exact old g (Or.inl e) hg
    · exact old g (Or.inr (Or.inl e)) hg
    · exact hd2 g hg e
    · exact old g (Or.inr (Or.inr (Or.inl e))) hg
    · exact old g (Or.inr (Or.inr (Or.inr e))) hg

theorem TickSt.join {w wr w1 w2 : World} {b : Nat} {R R' R'' : RSt} {vl vd vd' vd2 vc vo vout vt v' : Value} (h0 : ∀ x, RefF b vl vd vc vo x → x < w.heap.size) (h : TickSt w wr b R R' vl vd vd' vc vo vout) (ht : TickSt wr w1 b R' R'' vl vd' vd2 vc vo vt)
    (hp1 : R.doses <+: R'.doses) (hp2 : R'.doses <+: R''.doses) (hg : w1.grownBy w2 vout.ownBlock) (hnew : v'.ownBlock = vout.ownBlock ∨ (v'.ownBlock = some w1.heap.size ∧ w1.grownBy w2 none))
    (hrow : w2.ownsRow 0 57 3 v' (R'.doses.length - R.doses.length + (R''.doses.length - R'.doses.length)) ((R'.doses.drop R.doses.length).flatMap dsC ++ (R''.doses.drop R'.doses.length).flatMap dsC)) :
    TickSt w w2 b R R'' vl vd vd2 vc vo v' := by
  obtain ⟨m1, m2, m3⟩ := h.mid h0 ht
  have s1 := h.frm.size
  have s2 := ht.frm.size
  have l1 := hp1.length_le
  have l2 := hp2.length_le
  refine ⟨ht.lie.frm (grown_frm hg) (fun x hx e => m3 x hx e), ?_, ?_, ?_, ?_, ?_⟩
  · rw [drop_drop_pre hp1 hp2, List.flatMap_append, show R''.doses.length - R.doses.length = R'.doses.length - R.doses.length + (R''.doses.length - R'.doses.length) from by omega]
    exact hrow
  · refine (h.frm.trans2 ht.frm ?_).trans2 (grown_frm hg) ?_
    · rintro x hx (e | e | e | e | e)
      · exact Or.inl e
      · exact Or.inr (Or.inl e)
      · rcases h.nd with e' | ⟨g, e', hg'⟩
        · exact Or.inr (Or.inr (Or.inl (by rw [← e', e])))
        · rw [e'] at e; injection e with e; omega
      · exact Or.inr (Or.inr (Or.inr (Or.inl e)))
      · exact Or.inr (Or.inr (Or.inr (Or.inr e)))
    · intro x hx e
      have := h.no x e; omega
  · rcases ht.nd with e | ⟨g, e, hg'⟩
    · rw [e]; exact h.nd
    · exact Or.inr ⟨g, e, by omega⟩
  · intro g hg'
    rcases hnew with e | ⟨e, -⟩
    · rw [e] at hg'; exact h.no g hg'
    · rw [e] at hg'; injection hg' with hg'; omega
  · intro x hx e
    rcases hnew with e' | ⟨e', -⟩
    · rw [e'] at hx; exact m2 x hx e
    · rw [e'] at hx; injection hx with hx
      have := ht.lie.lt x (Or.inr (Or.inr (Or.inl e))); omega

def RunEnd (w : World) (b : Nat) (R R' : RSt) (vl vd vc vo : Value) (e : Ending) (w' : World) : Prop := ∃ vd' vout, e = .returned (.tuple #[vout, I 0]) ∧ TickSt w w' b R R' vl vd vd' vc vo vout

set_option maxRecDepth 100000 in
set_option maxHeartbeats 800000 in
theorem rrun_arg (b : Nat) (t : Int) (w : World) (h : t < 1 ∨ 100 < t) :
    Calls Tryz.prog 24 #[.pointer (some ⟨b, 0, none⟩), I t] w fun e w' => e = .returned (.tuple #[.slice none 0 0, I 1]) ∧ w' = w := by
  rcases h with h | h
  · go_enter Tryz.func24, Tryz.ntmps24
    go_wp2
    go_ret2
    exact ⟨rfl, rfl⟩
  · have h' : decide (t < 1) = false := by simp; omega
    go_enter Tryz.func24, Tryz.ntmps24
    go_wp2
    go_ret2
    exact ⟨rfl, rfl⟩

set_option maxRecDepth 100000 in
set_option maxHeartbeats 800000 in
theorem rrun_many (b : Nat) (R : RSt) (vl vd vc vo : Value) (t : Int) (w : World) (h : RefAt w b R vl vd vc vo) (n0 : 0 ≤ R.now) (n1 : R.now ≤ 400) (h1 : 1 ≤ t) (h2 : t ≤ 100) (h3 : 400 < R.now + t) :
    Calls Tryz.prog 24 #[.pointer (some ⟨b, 0, none⟩), I t] w fun e w' => e = .returned (.tuple #[.slice none 0 0, I 2]) ∧ w' = w := by
  have c3 : w.cell? ⟨b, 3, none⟩ = some (I R.now) := by rw [h.head.cell]; rfl
  clear h
  go_enter Tryz.func24, Tryz.ntmps24
  go_wp2
  go_ret2
  exact ⟨rfl, rfl⟩

set_option maxRecDepth 100000 in
set_option maxHeartbeats 1600000 in
theorem rrun_any (b : Nat) (R : RSt) (vl vd vc vo : Value) (t : Nat) (w : World) (h : RefAt w b R vl vd vc vo) (ok : R.Ok) (hf : R.Full) (h1 : 1 ≤ t) (h2 : t ≤ 100) (h3 : R.now + t ≤ 400) :
    Calls Tryz.prog 24 #[.pointer (some ⟨b, 0, none⟩), I t] w fun e w' => RunEnd w b R (rticks t R) vl vd vc vo e w' := by
  obtain ⟨i, hi, hz0, hz1, hz2⟩ := info_parts infoD
  have c3 : w.cell? ⟨b, 3, none⟩ = some (I R.now) := by rw [h.head.cell]; rfl
  have n0 := ok.now0
  have n1 := ok.now1
  have H := hide (And.intro h (And.intro ok hf))
  clear h ok hf
  go_enter Tryz.func24, Tryz.ntmps24
  go_wp2_with fail
  go_loopg [6, 7, 8] t (fun q vout k _ wr => ∃ (j : Nat) (vd' : Value), q + j = t ∧ k = I j ∧ Hid (TickSt w wr b R (rticks j R) vl vd vd' vc vo vout))
  case atStart => exact ⟨0, vd, by omega, rfl, ⟨(H.out).1, by simp [rticks]; exact World.ownsRow_nil .., Frm.refl _ _, Or.inl rfl, fun g hg => by simp [Value.ownBlock] at hg, fun x hx => by simp [Value.ownBlock] at hx⟩⟩
  case round =>
    obtain ⟨j, vd', hkj, rfl, hst⟩ := hrel
    by_cases hj : j < t
    · obtain ⟨hok, hff⟩ := rticks_ok (H.out).2.1 (H.out).2.2 j (by omega)
      have hnow := (rticks_same j R).2.2.1
      have hnd : (rticks j R).doses.length ≤ 1600 := by have := hff.1; omega
      have ct := rtick_any b (rticks j R) vl vd' vc vo wr hst.out.lie hok (by omega) (by omega)
      have HT := hide (And.intro hkj (And.intro hst.out hnd))
      have CT := hide ct
      clear ct hok hff hnow hst hkj hnd c3
      go_wp2_with fail
      refine (CT.out).mono ?_
      rintro e w1 ⟨vd2, vt, rfl, ht⟩
      have hmid := (HT.out).2.1.mid (H.out).1.lt ht
      have l1 : (rtick (rticks j R)).doses.length ≤ 1604 := by have := tks_nd (rticks j R).chs.length (rticks j R); have h5 := (HT.out).2.2; have h6 := (rticks_same j R).1; have h7 := (H.out).2.1.nc1; rw [← h6] at h7; show (tks (rticks j R).chs.length (rticks j R)).doses.length ≤ 1604; omega
      have l2 : (rticks j R).doses.length ≤ 1600 := (HT.out).2.2
      have hone := dsC_one ((rtick (rticks j R)).doses.drop (rticks j R).doses.length)
      have HM := hide (And.intro hmid.1 (And.intro ht hone))
      clear hmid ht hone
      go_wp2_with (at_builtin; refine wpList_append_rows _ rfl _ _ 50 rfl 57 i (.agg #[I 0, I 0, I 0]) 3 24 Tryz.underlying50 hi hz0 hz1 hz2 rfl (by decide) _ _ _ rfl (HM.out).1 _ _ _ rfl (HM.out).2.1.out (HM.out).2.2 (by unfold maxLen; omega) (by omega) ?_; intro v' w2 hown hgr hnew)
      go_roundg (gk - 1)
      case measure => have := (HT.out).1; omega
      case rel => exact ⟨j + 1, vd2, by have := (HT.out).1; omega, by simp, TickSt.join (H.out).1.lt (HT.out).2.1 (HM.out).2.1 (rticks_pre j R) (rtick_pre _) hgr hnew hown⟩
    · have hje : j = t := by omega
      have HK := hide (And.intro hst.out hje)
      clear hkj hst hje c3
      go_wp2_with fail
      go_ret2
      obtain ⟨hs, rfl⟩ := HK.out
      exact ⟨vd', u6, rfl, hs⟩

end Go.Proofs.YtahiolfelcmikaaGreat
