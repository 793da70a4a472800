/- The machine: what a pump is, apart from any memory. -/
import Derived.Test.YtpilmkipbbengaaGreatDoorWin
import Derived.Deep.CutRange
import Derived.Deep.LoopGhost
import Derived.Deep.RegionLaw
import Derived.Deep.RegionWith
namespace Go.Proofs.YtpilmkipbbengaaGreatDoor
open Go.RowKit

abbrev Keep (w w' : World) : Prop := Frm (fun _ => False) w w'

theorem Keep.blk {w w' : World} (h : Keep w w') {b : Nat} {c : Array Value} {t : TypeId} (k : Blk w b c t) : Blk w' b c t := k.frm h (fun e => e)

structure Lim where
  ch : Int
  win : Int
  cap : Int

structure Ds where
  tick : Int
  ch : Int
  amt : Int

structure RCh where
  rate : Int
  til : Int
  rests : Bool
  asked : Int

structure ROrd where
  ch : Int
  start : Int
  stop : Int
  rest : Int

def limV (l : Lim) : Value := .agg #[I l.ch, I l.win, I l.cap]

def dsV (d : Ds) : Value := .agg #[I d.tick, I d.ch, I d.amt]

def limC (l : Lim) : List Value := [I l.ch, I l.win, I l.cap]

def dsC (d : Ds) : List Value := [I d.tick, I d.ch, I d.amt]

def chC (c : RCh) : List Value := [I c.rate, I c.til, .bool c.rests, I c.asked]

def ordC (o : ROrd) : List Value := [I o.ch, I o.start, I o.stop, I o.rest]

/-- the pump of the document -/
structure RSt where
  lims : List Lim
  lock : Int
  now : Int
  doses : List Ds
  chs : List RCh
  os : List ROrd

/-- two slices with no block in common -/
def Dis (u v : Value) : Prop := ∀ x, u.ownBlock = some x → v.ownBlock ≠ some x

theorem Dis.symm {u v : Value} (h : Dis u v) : Dis v u := fun x hx e => h x e hx

structure RefSep (b : Nat) (vl vd vc vo : Value) : Prop where
  bl : vl.ownBlock ≠ some b
  bd : vd.ownBlock ≠ some b
  bc : vc.ownBlock ≠ some b
  bo : vo.ownBlock ≠ some b
  ld : Dis vl vd
  lc : Dis vl vc
  lo : Dis vl vo
  dc : Dis vd vc
  od : Dis vd vo
  co : Dis vc vo

def gd (l : Lim) (f t : Int) (d : Ds) : Int := if (cnt l.ch d.ch.toNat && decide (f ≤ d.tick) && decide (d.tick ≤ t)) = true then d.amt else 0

/-- what was given on a limit's channels from f to t -/
def gv (ds : List Ds) (l : Lim) (f t : Int) : Int := (ds.map (gd l f t)).sum

structure Ds.Ok (d : Ds) : Prop where
  t0 : 0 ≤ d.tick
  t1 : d.tick < 400
  c0 : 0 ≤ d.ch
  c1 : d.ch ≤ 3
  a0 : 1 ≤ d.amt
  a1 : d.amt ≤ 1000

structure Lim.Ok (l : Lim) : Prop where
  ch0 : 1 ≤ l.ch
  ch1 : l.ch ≤ 15
  w0 : 1 ≤ l.win
  w1 : l.win ≤ 100
  cap0 : 0 ≤ l.cap
  cap1 : l.cap ≤ 100000

theorem gd_bd {l : Lim} {f t : Int} {d : Ds} (h : d.Ok) : 0 ≤ gd l f t d ∧ gd l f t d ≤ 1000 := by
  have := h.a0; have := h.a1
  unfold gd; split <;> omega

theorem gv_bd {ds : List Ds} {l : Lim} {f t : Int} (h : ∀ d ∈ ds, d.Ok) : 0 ≤ gv ds l f t ∧ gv ds l f t ≤ 1000 * ds.length := by
  unfold gv
  induction ds with
  | nil => simp
  | cons d ds ih =>
    have h1 := ih fun d hd => h d (List.mem_cons_of_mem _ hd)
    have h2 := gd_bd (l := l) (f := f) (t := t) (h d (by simp))
    simp only [List.map_cons, List.sum_cons, List.length_cons]
    omega

theorem gv_snoc (ds : List Ds) (d : Ds) (l : Lim) (f t : Int) : gv (ds ++ [d]) l f t = gv ds l f t + gd l f t d := by simp [gv]

/-- a limit's room at a tick -/
def lft (ds : List Ds) (l : Lim) (t : Int) : Int := l.cap - gv ds l (t - l.win + 1) t

def rstep (ds : List Ds) (k : Nat) (t : Int) (n : Int) (l : Lim) : Int := if (cnt l.ch k && decide (lft ds l t < n)) = true then lft ds l t else n

/-- the room of a channel at a tick -/
def rroom (ds : List Ds) (lims : List Lim) (k : Nat) (t : Int) : Int := lims.foldl (rstep ds k t) 1000

structure RSt.Ok (R : RSt) : Prop where
  lims : ∀ l ∈ R.lims, l.Ok
  nl : R.lims.length ≤ 6
  doses : ∀ d ∈ R.doses, d.Ok
  nd : R.doses.length ≤ 2000
  now0 : 0 ≤ R.now
  now1 : R.now ≤ 400
  nc0 : 1 ≤ R.chs.length
  nc1 : R.chs.length ≤ 4
  chs : ∀ c ∈ R.chs, 0 ≤ c.rate ∧ c.rate ≤ 1000 ∧ -1 ≤ c.til ∧ c.til ≤ 1000 ∧ -1 ≤ c.asked ∧ c.asked ≤ 400
  no : R.os.length ≤ 100000000
  os : ∀ o ∈ R.os, 0 ≤ o.start ∧ o.start ≤ 1000 ∧ o.start < o.stop ∧ o.stop ≤ 2000 ∧ 0 ≤ o.rest ∧ o.rest ≤ 1000

theorem lft_bd {ds : List Ds} {l : Lim} {t : Int} (h : ∀ d ∈ ds, d.Ok) (hl : l.Ok) : l.cap - 1000 * ds.length ≤ lft ds l t ∧ lft ds l t ≤ 100000 := by
  have := gv_bd (l := l) (f := t - l.win + 1) (t := t) h
  have := hl.cap1
  unfold lft; omega

theorem fold_bd {ds : List Ds} {k : Nat} {t : Int} (h : ∀ d ∈ ds, d.Ok) (hn : ds.length ≤ 2000) : ∀ (lims : List Lim), (∀ l ∈ lims, l.Ok) → ∀ n, -2000000 ≤ n → n ≤ 1000 → -2000000 ≤ lims.foldl (rstep ds k t) n ∧ lims.foldl (rstep ds k t) n ≤ 1000 := by
  intro lims
  induction lims with
  | nil => intro _ n h1 h2; exact ⟨h1, h2⟩
  | cons l lims ih =>
    intro hl n h1 h2
    simp only [List.foldl_cons]
    refine ih (fun x hx => hl x (List.mem_cons_of_mem _ hx)) _ ?_ ?_
    · have := lft_bd (t := t) h (hl l (by simp)); have := (hl l (by simp)).cap0
      unfold rstep; split <;> omega
    · unfold rstep; split
      · rename_i e; simp at e; omega
      · exact h2

theorem foldl_take_succ {α β : Type} (f : β → α → β) (n : β) (l : List α) (j : Nat) (x : α) (h : l[j]? = some x) : (l.take (j + 1)).foldl f n = f ((l.take j).foldl f n) x := by
  obtain ⟨lj, vj⟩ := List.getElem?_eq_some_iff.1 h
  rw [List.take_succ_eq_append_getElem lj, vj]; simp

theorem ret_eq {a b : Value} (h : a = b) : Ending.returned a = .returned b := by rw [h]

/-- an order's part -/
def prt (now : Int) (o : ROrd) : Int := if now < o.start ∨ o.stop ≤ now then 0 else (o.rest + (o.stop - now) - 1) / (o.stop - now)

def ROrd.Ok (o : ROrd) : Prop := 0 ≤ o.start ∧ o.start ≤ 1000 ∧ o.start < o.stop ∧ o.stop ≤ 2000 ∧ 0 ≤ o.rest ∧ o.rest ≤ 1000

theorem prt_bd {now : Int} {o : ROrd} (h : o.Ok) : 0 ≤ prt now o ∧ prt now o ≤ o.rest := by
  obtain ⟨h1, h2, h3, h4, h5, h6⟩ := h
  unfold prt
  split
  · omega
  · rename_i hh
    have hL : 0 < o.stop - now := by omega
    refine ⟨Int.ediv_nonneg (by omega) (by omega), ?_⟩
    by_cases h0 : o.rest = 0
    · rw [h0]
      rw [Int.ediv_eq_zero_of_lt (by omega) (by omega)]
      exact Int.le_refl _
    · have h7 : o.rest + (o.stop - now) - 1 ≤ o.rest * (o.stop - now) := by
        have : 0 ≤ (o.rest - 1) * ((o.stop - now) - 1) := Int.mul_nonneg (by omega) (by omega)
        rw [Int.sub_mul, Int.mul_sub] at this
        omega
      have h8 := Int.ediv_le_ediv hL h7
      rwa [Int.mul_ediv_cancel _ (by omega)] at h8

def wpart (now k : Int) (o : ROrd) : Int := if (o.ch == k) = true then prt now o else 0

def wsum (now k : Int) (os : List ROrd) : Int := (os.map (wpart now k)).sum

def wbase (now : Int) (c : RCh) : Int := if c.til < 0 ∨ now < c.til then c.rate else 0

def wnt (now k : Int) (c : RCh) (os : List ROrd) : Int := if c.rests = true then 0 else wbase now c + wsum now k os

theorem wpart_bd {now k : Int} {o : ROrd} (h : o.Ok) : 0 ≤ wpart now k o ∧ wpart now k o ≤ 1000 := by
  have := prt_bd (now := now) h
  have := h.2.2.2.2.2
  unfold wpart; split <;> omega

theorem wsum_bd {now k : Int} {os : List ROrd} (h : ∀ o ∈ os, o.Ok) : 0 ≤ wsum now k os ∧ wsum now k os ≤ 1000 * os.length := by
  unfold wsum
  induction os with
  | nil => simp
  | cons o os ih =>
    have h1 := ih fun d hd => h d (List.mem_cons_of_mem _ hd)
    have h2 := wpart_bd (now := now) (k := k) (h o (by simp))
    simp only [List.map_cons, List.sum_cons, List.length_cons]
    omega

theorem wsum_snoc (os : List ROrd) (o : ROrd) (now k : Int) : wsum now k (os ++ [o]) = wsum now k os + wpart now k o := by simp [wsum]

theorem take_snoc' {α : Type} {l : List α} {j : Nat} {x : α} (h : l[j]? = some x) : l.take (j + 1) = l.take j ++ [x] := by
  obtain ⟨lj, vj⟩ := List.getElem?_eq_some_iff.1 h
  rw [List.take_succ_eq_append_getElem lj, vj]

theorem RSt.Ok.ord {R : RSt} (h : R.Ok) : ∀ o ∈ R.os, o.Ok := h.os

theorem step_append_row {P : Program} {ops : Array Oper} {o : Oper} {a : Act} {w : World} {K : Act → World → Prop} {Q : Exit → Act → World → Prop} {E : Prop}
    (hg : o.guard = none) (s x : Operand) (t : TypeId) (hop : o.op = Op.call { callee := Callee.builtin Builtin.append, args := #[s, x], argTypes := #[t, t] })
    (e : TypeId) (i : TypeInfo) (z : Value) (size bytes : Nat) (h1 : P.underlying t = some (.slice e)) (h2 : P.info? e = some i) (h3 : i.zero = some z) (h4 : i.size = size) (h5 : i.bytes = bytes) (h6 : z.cells.size = size) (h7 : 0 < size)
    (v : Value) (n : Nat) (xs : List Value) (hs : a.eval s = v) (hown : w.ownsRow 0 e size v n xs)
    (ad : Addr) (m c : Nat) (news : List Value) (hx : a.eval x = .slice (some ad) m c) (hn : news.length = m * size) (hc : ∀ j u, news[j]? = some u → w.cell? (ad.add j) = some u) (h1c : ∀ u ∈ news, u.oneCell' = true)
    (b1 : n + m ≤ maxLen) (b2 : (n + m) * bytes ≤ 140737488355328)
    (hK : ∀ v' w', w'.ownsRow 0 e size v' (n + m) (xs ++ news) → w.grownBy w' v.ownBlock → (v'.ownBlock = v.ownBlock ∨ (v'.ownBlock = some w.heap.size ∧ w.grownBy w' none)) → K (a.put o.dst v') w') :
    if Region.wanted o (yielded ops a.tmps) = true then Oper.wp P o a w K Q else E := by
  have hw : Region.wanted o (yielded ops a.tmps) = true := by simp [Region.wanted, hg]
  rw [if_pos hw]
  obtain ⟨v', w', hrun, r1, r2, r3⟩ := run_append_row (P := P) w t o.type e i z size bytes h1 h2 h3 h4 h5 h6 h7 v n xs hown ad m c news hn hc h1c b1 b2
  unfold Oper.wp
  simp [execOp, hop, resolve, invoke, builtin, hs, hx, hrun, Result.andThen]
  exact hK v' w' r1 r2 r3

theorem flat_set {α : Type} (f : α → List Value) (s : Nat) (hs : ∀ x, (f x).length = s) (x' : α) (u : Value) (i : Nat) (hi : i < s) : ∀ (l : List α) (j : Nat) (x : α), l[j]? = some x → f x' = (f x).set i u → (l.set j x').flatMap f = (l.flatMap f).set (j * s + i) u := by
  intro l
  induction l with
  | nil => intro j x h; simp at h
  | cons a l ih =>
    intro j x h hf
    cases j with
    | zero =>
      simp at h; subst h
      simp only [List.set_cons_zero, List.flatMap_cons, Nat.zero_mul, Nat.zero_add]
      rw [List.set_append_left _ _ (by rw [hs]; exact hi), hf]
    | succ j =>
      simp at h
      simp only [List.set_cons_succ, List.flatMap_cons]
      rw [List.set_append_right _ _ (by rw [hs, Nat.succ_mul]; omega), hs, ih j x h hf]
      rw [show (j + 1) * s + i - s = j * s + i from by rw [Nat.succ_mul]; omega]

theorem row_set {w : World} {e : TypeId} {s n g cap : Nat} {α : Type} {f : α → List Value} {l : List α} (h : w.ownsRow 0 e s (.slice (some ⟨g, 0, none⟩) n cap) n (l.flatMap f)) (hs : ∀ x, (f x).length = s) {j : Nat} {x x' : α} (hj : l[j]? = some x)
    {i : Nat} (hi : i < s) {u : Value} (hf : f x' = (f x).set i u) : (w.setCell ⟨g, j * s + i, none⟩ u).ownsRow 0 e s (.slice (some ⟨g, 0, none⟩) n cap) n ((l.set j x').flatMap f) := by
  rw [flat_set f s hs x' u i hi l j x hj hf]
  exact (h.stored _ _).1

/-- what is left of the orders when so much is given to them, by their numbers -/
def dist (now k : Int) : List ROrd → Int → List ROrd
  | [], _ => []
  | o :: os, n => if n ≤ 0 then o :: os else if (o.ch != k) = true then o :: dist now k os n else
      let a := if n < prt now o then n else prt now o
      { o with rest := o.rest - a } :: dist now k os (n - a)

theorem dist_le (now k : Int) (os : List ROrd) (n : Int) (h : n ≤ 0) : dist now k os n = os := by
  cases os with
  | nil => rfl
  | cons o os => simp [dist, h]

theorem dist_len (now k : Int) : ∀ (os : List ROrd) (n : Int), (dist now k os n).length = os.length := by
  intro os
  induction os with
  | nil => intro n; rfl
  | cons o os ih =>
    intro n
    unfold dist
    split
    · rfl
    · split
      · simp [ih]
      · simp [ih]

theorem dist_ok (now k : Int) : ∀ (os : List ROrd) (n : Int), (∀ o ∈ os, o.Ok) → ∀ o ∈ dist now k os n, o.Ok := by
  intro os
  induction os with
  | nil => intro n _ o ho; simp [dist] at ho
  | cons x os ih =>
    intro n h o ho
    unfold dist at ho
    split at ho
    · exact h o ho
    · rename_i hn
      split at ho
      · rcases List.mem_cons.1 ho with rfl | ho
        · exact h _ (by simp)
        · exact ih n (fun y hy => h y (List.mem_cons_of_mem _ hy)) o ho
      · rcases List.mem_cons.1 ho with rfl | ho
        · have hx := h x (by simp)
          have hp := prt_bd (now := now) hx
          obtain ⟨h1, h2, h3, h4, h5, h6⟩ := hx
          refine ⟨h1, h2, h3, h4, ?_, ?_⟩
          · simp only; split <;> omega
          · simp only; split <;> omega
        · exact ih _ (fun y hy => h y (List.mem_cons_of_mem _ hy)) o ho

/-- what a channel is given -/
def amt (R : RSt) (k : Nat) (c : RCh) : Int := if rroom R.doses R.lims k R.now < wnt R.now k c R.os then rroom R.doses R.lims k R.now else wnt R.now k c R.os

def tk1 (k : Nat) (R : RSt) : RSt := match R.chs[k]? with
  | none => R
  | some c => if amt R k c ≤ 0 then R else { R with doses := R.doses ++ [⟨R.now, k, amt R k c⟩], os := dist R.now k R.os (amt R k c) }

def tks : Nat → RSt → RSt
  | 0, R => R
  | j + 1, R => tk1 j (tks j R)

theorem tk1_same (k : Nat) (R : RSt) : (tk1 k R).chs = R.chs ∧ (tk1 k R).lims = R.lims ∧ (tk1 k R).now = R.now ∧ (tk1 k R).lock = R.lock ∧ (tk1 k R).os.length = R.os.length := by
  unfold tk1
  split
  · exact ⟨rfl, rfl, rfl, rfl, rfl⟩
  · split
    · exact ⟨rfl, rfl, rfl, rfl, rfl⟩
    · exact ⟨rfl, rfl, rfl, rfl, dist_len ..⟩

theorem tks_same (j : Nat) (R : RSt) : (tks j R).chs = R.chs ∧ (tks j R).lims = R.lims ∧ (tks j R).now = R.now ∧ (tks j R).lock = R.lock ∧ (tks j R).os.length = R.os.length := by
  induction j with
  | zero => exact ⟨rfl, rfl, rfl, rfl, rfl⟩
  | succ j ih =>
    have := tk1_same j (tks j R)
    simp only [tks]
    exact ⟨this.1.trans ih.1, this.2.1.trans ih.2.1, this.2.2.1.trans ih.2.2.1, this.2.2.2.1.trans ih.2.2.2.1, this.2.2.2.2.trans ih.2.2.2.2⟩

theorem amt_le {R : RSt} (ok : R.Ok) (k : Nat) (c : RCh) : amt R k c ≤ 1000 := by
  have := (fold_bd (k := k) (t := R.now) ok.doses ok.nd R.lims ok.lims 1000 (by omega) (by omega)).2
  have h : rroom R.doses R.lims k R.now ≤ 1000 := this
  unfold amt; split <;> omega

theorem tk1_ok {R : RSt} (ok : R.Ok) (k : Nat) (hk : k < 4) (hn : R.now < 400) (hd : R.doses.length < 2000) : (tk1 k R).Ok := by
  unfold tk1
  split
  · exact ok
  · rename_i c hc
    split
    · exact ok
    · rename_i ha
      have hle := amt_le ok k c
      have hn0 := ok.now0
      refine ⟨ok.lims, ok.nl, ?_, by simp; omega, ok.now0, ok.now1, ok.nc0, ok.nc1, ok.chs, by simp only [dist_len]; exact ok.no, dist_ok _ _ _ _ ok.os⟩
      intro d hd'
      rcases List.mem_append.1 hd' with h | h
      · exact ok.doses d h
      · simp at h; subst h
        exact ⟨hn0, hn, by simp, by simp; omega, by simp; omega, hle⟩

theorem tk1_nd (k : Nat) (R : RSt) : (tk1 k R).doses.length ≤ R.doses.length + 1 := by
  unfold tk1; split
  · omega
  · split
    · omega
    · simp

theorem tks_nd (j : Nat) (R : RSt) : (tks j R).doses.length ≤ R.doses.length + j := by
  induction j with
  | zero => simp [tks]
  | succ j ih => have := tk1_nd j (tks j R); simp only [tks]; omega

theorem tks_ok {R : RSt} (ok : R.Ok) (hn : R.now < 400) (hd : R.doses.length ≤ 1996) : ∀ j, j ≤ 4 → (tks j R).Ok := by
  intro j
  induction j with
  | zero => intro _; exact ok
  | succ j ih =>
    intro hj
    have h1 := ih (by omega)
    have h2 := tks_nd j R
    exact tk1_ok h1 j (by omega) (by rw [(tks_same j R).2.2.1]; exact hn) (by omega)

theorem tk1_pre (k : Nat) (R : RSt) : R.doses <+: (tk1 k R).doses := by
  unfold tk1; split
  · exact List.prefix_refl _
  · split
    · exact List.prefix_refl _
    · exact List.prefix_append _ _

theorem tks_pre (j : Nat) (R : RSt) : R.doses <+: (tks j R).doses := by
  induction j with
  | zero => exact List.prefix_refl _
  | succ j ih => exact ih.trans (tk1_pre j _)

/-- a tick -/
def rtick (R : RSt) : RSt := { tks R.chs.length R with now := R.now + 1 }

end Go.Proofs.YtpilmkipbbengaaGreatDoor
