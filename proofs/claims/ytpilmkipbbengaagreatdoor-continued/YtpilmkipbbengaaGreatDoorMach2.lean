/- The machine, on: runs, rooms, orders, demands; what is asked of a pump in memory. -/
import Derived.Test.YtpilmkipbbengaaGreatDoorMach
namespace Go.Proofs.YtpilmkipbbengaaGreatDoor
open Go.RowKit

def RefF (b : Nat) (vl vd vc vo : Value) : Nat → Prop := fun x => x = b ∨ vl.ownBlock = some x ∨ vd.ownBlock = some x ∨ vc.ownBlock = some x ∨ vo.ownBlock = some x

theorem infoD : (Tryz.prog.info? 100).map (fun i => (i.zero, i.size, i.bytes)) = some (some (.agg #[I 0, I 0, I 0]), 3, 24) := by kernel_rfl

theorem drop_snoc {α : Type} (l : List α) (x : α) (n : Nat) (h : n ≤ l.length) : (l ++ [x]).drop n = l.drop n ++ [x] := List.drop_append_of_le_length h

section
variable {P : Program} (w : World)
theorem run_append_none (t ty e : TypeId) (i : TypeInfo) (ht : P.underlying t = some (.slice e)) (hi : P.info? e = some i) (a : Option Addr) (n c : Nat) (hn : n ≤ c) (ha : a = none → n = 0) :
    (Builtin.append_ #[t, t] ty #[.slice a n c, .slice none 0 0]).run P w = .ok (.slice a n c) w := by
  cases a with
  | none => have := ha rfl; subst this; simp [Builtin.append_, run_underlying ht, sizeOf, typeInfo, hi, Builtin.lenOf, run_firstCells_none]
  | some b => simp [Builtin.append_, run_underlying ht, sizeOf, typeInfo, hi, Builtin.lenOf, run_firstCells_none, hn, storeCells]

/-- append(s, x...): both begin their own blocks, or are nil -/
theorem run_append_rows (t ty e : TypeId) (i : TypeInfo) (z : Value) (size bytes : Nat) (ht : P.underlying t = some (.slice e)) (hi : P.info? e = some i) (hz : i.zero = some z)
    (hsize : i.size = size) (hby : i.bytes = bytes) (hzs : z.cells.size = size) (hsz : 0 < size)
    (v : Value) (n : Nat) (xs : List Value) (hown : w.ownsRow 0 e size v n xs) (vx : Value) (m : Nat) (news : List Value) (hx : w.ownsRow 0 e size vx m news) (h1 : ∀ u ∈ news, u.oneCell' = true)
    (h63 : n + m ≤ maxLen) (hbytes : (n + m) * bytes ≤ 140737488355328) :
    ∃ v' w', (Builtin.append_ #[t, t] ty #[v, vx]).run P w = .ok v' w' ∧ w'.ownsRow 0 e size v' (n + m) (xs ++ news) ∧ w.grownBy w' v.ownBlock ∧
      (v'.ownBlock = v.ownBlock ∨ (v'.ownBlock = some w.heap.size ∧ w.grownBy w' none)) := by
  have hl := hx.1
  rcases hx.2 with ⟨rfl, rfl⟩ | ⟨g, cap, cur, rfl, _, r2, r3, r4, r5, r6⟩
  · have hnn : news = [] := List.eq_nil_of_length_eq_zero (by simpa using hl)
    subst hnn
    have hv : ∃ a c, v = .slice a n c ∧ n ≤ c ∧ (a = none → n = 0) := by
      rcases hown.2 with ⟨rfl, rfl⟩ | ⟨g, cap, cur, rfl, _, _, r3, _⟩
      · exact ⟨none, 0, rfl, Nat.le_refl _, fun _ => rfl⟩
      · exact ⟨_, cap, rfl, r3, fun e => by cases e⟩
    obtain ⟨a, c, rfl, hc, ha⟩ := hv
    exact ⟨_, w, run_append_none w t ty e i ht hi a n c hc ha, by simpa using hown, ⟨rfl, rfl, rfl, Nat.le_refl _, fun _ _ _ => rfl⟩, Or.inl rfl⟩
  · exact run_append_row (P := P) w t ty e i z size bytes ht hi hz hsize hby hzs hsz v n xs hown ⟨g, 0, none⟩ m cap news hl (hx.cells (g := g) rfl) h1 h63 hbytes

theorem wpList_append_rows {ops : Array Oper} {rest : List Oper} {o : Oper} {a : Act} {Q : Exit → Act → World → Prop} (hgd : o.guard = none) (s x : Operand) (t : TypeId)
    (ho : o.op = .call { callee := .builtin .append, args := #[s, x], argTypes := #[t, t] })
    (e : TypeId) (i : TypeInfo) (z : Value) (size bytes : Nat) (ht : P.underlying t = some (.slice e)) (hi : P.info? e = some i) (hz : i.zero = some z)
    (hsize : i.size = size) (hby : i.bytes = bytes) (hzs : z.cells.size = size) (hsz : 0 < size)
    (v : Value) (n : Nat) (xs : List Value) (hs : a.eval s = v) (hown : w.ownsRow 0 e size v n xs) (vx : Value) (m : Nat) (news : List Value) (hxe : a.eval x = vx) (hx : w.ownsRow 0 e size vx m news) (h1 : ∀ u ∈ news, u.oneCell' = true)
    (h63 : n + m ≤ maxLen) (hbytes : (n + m) * bytes ≤ 140737488355328)
    (h : ∀ v' w', w'.ownsRow 0 e size v' (n + m) (xs ++ news) → w.grownBy w' v.ownBlock → (v'.ownBlock = v.ownBlock ∨ (v'.ownBlock = some w.heap.size ∧ w.grownBy w' none)) → wpList P ops Q rest (a.put o.dst v') w') : wpList P ops Q (o :: rest) a w :=
  wpList_plain hgd fun _ hK => by
    obtain ⟨v', w', hr, h2, h3, h4⟩ := run_append_rows (P := P) w t o.type e i z size bytes ht hi hz hsize hby hzs hsz v n xs hown vx m news hx h1 h63 hbytes
    unfold Oper.wp execOp
    simp only [ho, resolve, invoke, builtin, Sem.run_bind, Sem.run_pure, Result.andThen_ok, List.map_toArray, List.map_cons, List.map_nil, hs, hxe, hr]
    exact hK _ _ (h v' w' h2 h3 h4)
end

/-- so many ticks -/
def rticks : Nat → RSt → RSt
  | 0, R => R
  | n + 1, R => rtick (rticks n R)

theorem rtick_same (R : RSt) : (rtick R).chs = R.chs ∧ (rtick R).lims = R.lims ∧ (rtick R).now = R.now + 1 ∧ (rtick R).lock = R.lock ∧ (rtick R).os.length = R.os.length := by
  obtain ⟨h1, h2, h3, h4, h5⟩ := tks_same R.chs.length R
  exact ⟨h1, h2, rfl, h4, h5⟩

theorem rticks_same (n : Nat) (R : RSt) : (rticks n R).chs = R.chs ∧ (rticks n R).lims = R.lims ∧ (rticks n R).now = R.now + n ∧ (rticks n R).lock = R.lock ∧ (rticks n R).os.length = R.os.length := by
  induction n with
  | zero => exact ⟨rfl, rfl, by simp [rticks], rfl, rfl⟩
  | succ n ih =>
    have := rtick_same (rticks n R)
    simp only [rticks]
    exact ⟨this.1.trans ih.1, this.2.1.trans ih.2.1, by rw [this.2.2.1, ih.2.2.1]; omega, this.2.2.2.1.trans ih.2.2.2.1, this.2.2.2.2.trans ih.2.2.2.2⟩

/-- how many orders are not over -/
def nov (now : Int) (os : List ROrd) : Nat := os.countP fun o => decide (now < o.stop)

theorem nov_stops (now : Int) (os os' : List ROrd) (h : os'.map (·.stop) = os.map (·.stop)) : nov now os' = nov now os := by
  have e : ∀ l : List ROrd, nov now l = (l.map (·.stop)).countP fun s => decide (now < s) := fun l => by rw [List.countP_map]; rfl
  rw [e, e, h]

theorem nov_later (now : Int) (os : List ROrd) : nov (now + 1) os ≤ nov now os := by
  unfold nov
  apply List.countP_mono_left
  intro o _ h
  simp at h ⊢
  omega

theorem dist_stops (now k : Int) : ∀ (os : List ROrd) (n : Int), (dist now k os n).map (·.stop) = os.map (·.stop) := by
  intro os
  induction os with
  | nil => intro n; rfl
  | cons o os ih =>
    intro n
    unfold dist
    split
    · rfl
    · split
      · simp [ih]
      · simp [ih]

theorem tk1_stops (k : Nat) (R : RSt) : (tk1 k R).os.map (·.stop) = R.os.map (·.stop) := by
  unfold tk1
  split
  · rfl
  · split
    · rfl
    · exact dist_stops _ _ _ _

theorem tks_stops (j : Nat) (R : RSt) : (tks j R).os.map (·.stop) = R.os.map (·.stop) := by
  induction j with
  | zero => rfl
  | succ j ih => exact (tk1_stops j _).trans ih

/-- doses are no more than four a tick; orders, no more than eight -/
def RSt.Full (R : RSt) : Prop := (R.doses.length : Int) ≤ 4 * R.now ∧ (R.os.length : Int) ≤ 8 * R.now + nov R.now R.os ∧ nov R.now R.os ≤ 8

theorem rtick_ok {R : RSt} (ok : R.Ok) (hf : R.Full) (hn : R.now < 400) : (rtick R).Ok ∧ (rtick R).Full := by
  obtain ⟨hf, hf2, hf3⟩ := hf
  have h1 := tks_ok ok hn (by omega) R.chs.length ok.nc1
  have h2 := tks_nd R.chs.length R
  have h3 := tks_same R.chs.length R
  have hc := ok.nc1
  have hn0 := ok.now0
  have h4 := nov_stops (R.now + 1) R.os (tks R.chs.length R).os (tks_stops _ _)
  have h5 := nov_later R.now R.os
  have h6 := h3.2.2.2.2
  refine ⟨⟨h1.lims, h1.nl, h1.doses, h1.nd, ?_, ?_, h1.nc0, h1.nc1, h1.chs, h1.no, h1.os⟩, ?_, ?_, ?_⟩
  · show 0 ≤ R.now + 1; omega
  · show R.now + 1 ≤ 400; omega
  · show (((tks R.chs.length R).doses.length : Nat) : Int) ≤ 4 * (R.now + 1); omega
  · show (((tks R.chs.length R).os.length : Nat) : Int) ≤ 8 * (R.now + 1) + nov (R.now + 1) (tks R.chs.length R).os; omega
  · show nov (R.now + 1) (tks R.chs.length R).os ≤ 8; omega

theorem rticks_ok {R : RSt} (ok : R.Ok) (hf : R.Full) : ∀ n : Nat, R.now + n ≤ 400 → (rticks n R).Ok ∧ (rticks n R).Full := by
  intro n
  induction n with
  | zero => intro _; exact ⟨ok, hf⟩
  | succ n ih =>
    intro h
    have h1 := ih (by omega)
    exact rtick_ok h1.1 h1.2 (by rw [(rticks_same n R).2.2.1]; omega)

theorem rtick_pre (R : RSt) : R.doses <+: (rtick R).doses := tks_pre R.chs.length R

theorem rticks_pre (n : Nat) (R : RSt) : R.doses <+: (rticks n R).doses := by
  induction n with
  | zero => exact List.prefix_refl _
  | succ n ih => exact ih.trans (rtick_pre _)

theorem drop_drop_pre {α : Type} {a b c : List α} (h1 : a <+: b) (h2 : b <+: c) : c.drop a.length = b.drop a.length ++ c.drop b.length := by
  obtain ⟨x, rfl⟩ := h1
  obtain ⟨y, rfl⟩ := h2
  simp [List.append_assoc]

theorem dsC_one (l : List Ds) : ∀ u ∈ l.flatMap dsC, u.oneCell' = true := by
  intro u hu
  obtain ⟨d, _, hd⟩ := List.mem_flatMap.1 hu
  simp [dsC] at hd
  rcases hd with rfl | rfl | rfl <;> rfl

/-- is there such a channel? -/
def isCh (R : RSt) (k : Int) : Bool := decide (0 ≤ k) && decide (k < R.chs.length)

theorem isCh_true {R : RSt} {k : Int} (h : isCh R k = true) : 0 ≤ k ∧ k < R.chs.length := by simpa [isCh] using h

/-- how long till so much could be given? n: so many ticks were looked at in vain -/
def WaitOk (R : RSt) (k : Nat) (a : Int) (r : Option Nat) : Prop :=
  match r with
  | some n => n ≤ 100 ∧ a ≤ rroom R.doses R.lims k (R.now + n) ∧ ∀ m : Nat, m < n → rroom R.doses R.lims k (R.now + m) < a
  | none => ∀ m : Nat, m ≤ 100 → rroom R.doses R.lims k (R.now + m) < a

def waitV : Option Nat → Value
  | some n => .tuple #[I n, .bool true, I 0]
  | none => .tuple #[I 0, .bool false, I 0]

def WaitEnd (w : World) (R : RSt) (k : Nat) (a : Int) (e : Ending) (w' : World) : Prop := ∃ r, e = .returned (waitV r) ∧ WaitOk R k a r ∧ Keep w w'

/-- P4's ErrArg -/
def basalBad (R : RSt) (k rate ticks : Int) : Bool := !isCh R k || decide (rate < 0) || decide (1000 < rate) || decide (ticks < 0) || decide (400 < ticks)

def rbasal (R : RSt) (k : Nat) (rate ticks : Int) : RSt := match R.chs[k]? with
  | none => R
  | some c => { R with chs := R.chs.set k { c with rate := rate, til := if 0 < ticks then R.now + ticks else -1 } }

/-- a list of limits that can be read, wherever it lies -/
def SeeL (w : World) (a : Option Addr) (lims : List Lim) : Prop :=
  lims = [] ∨ ∃ g o, a = some ⟨g, o, none⟩ ∧ g < w.heap.size ∧ ∀ i l, lims[i]? = some l → w.cell? ⟨g, o + i * 3, none⟩ = some (I l.ch) ∧ w.cell? ⟨g, o + i * 3 + 1, none⟩ = some (I l.win) ∧ w.cell? ⟨g, o + i * 3 + 2, none⟩ = some (I l.cap)

theorem SeeL.frm {S : Nat → Prop} {w w' : World} {a : Option Addr} {lims : List Lim} (h : SeeL w a lims) (f : Frm S w w') (hs : ∀ g o, a = some ⟨g, o, none⟩ → ¬ S g) : SeeL w' a lims := by
  rcases h with h | ⟨g, o, rfl, hg, hc⟩
  · exact Or.inl h
  · refine Or.inr ⟨g, o, rfl, Nat.lt_of_lt_of_le hg f.size, fun i l hl => ?_⟩
    obtain ⟨h1, h2, h3⟩ := hc i l hl
    exact ⟨f.cell h1 (hs g o rfl), f.cell h2 (hs g o rfl), f.cell h3 (hs g o rfl)⟩

def badLim (c : Int) (l : Lim) : Bool := decide (l.ch < 1) || decide (2 ^ c.toNat ≤ l.ch) || decide (l.win < 1) || decide (100 < l.win) || decide (l.cap < 0) || decide (100000 < l.cap)

def badHead (c : Int) (n : Nat) (lock : Int) : Bool := decide (c < 1) || decide (4 < c) || decide (6 < (n : Int)) || decide (lock < 0) || decide (400 < lock)

def fineB (c : Int) (lims : List Lim) (lock : Int) : Bool := !badHead c lims.length lock && lims.all fun l => !badLim c l

abbrev cfgV (c : Int) (a : Option Addr) (n cap : Nat) (lock : Int) : Value := .agg #[I c, .slice a n cap, I lock]

theorem badLim_cases {c : Int} {l : Lim} {p : Int} (hp : (2 : Int) ^ c.toNat = p) (h : badLim c l = true) : l.ch < 1 ∨ (decide (l.ch < 1) = false ∧ p ≤ l.ch) ∨ (decide (l.ch < 1) = false ∧ decide (p ≤ l.ch) = false ∧ l.win < 1) ∨ (decide (l.ch < 1) = false ∧ decide (p ≤ l.ch) = false ∧ decide (l.win < 1) = false ∧ 100 < l.win) ∨
    (decide (l.ch < 1) = false ∧ decide (p ≤ l.ch) = false ∧ decide (l.win < 1) = false ∧ decide (100 < l.win) = false ∧ l.cap < 0) ∨ (decide (l.ch < 1) = false ∧ decide (p ≤ l.ch) = false ∧ decide (l.win < 1) = false ∧ decide (100 < l.win) = false ∧ decide (l.cap < 0) = false ∧ 100000 < l.cap) := by
  simp only [badLim, hp] at h
  simp at h
  simp
  omega

theorem goodLim_cases {c : Int} {l : Lim} {p : Int} (hp : (2 : Int) ^ c.toNat = p) (h : badLim c l = false) : decide (l.ch < 1) = false ∧ decide (p ≤ l.ch) = false ∧ decide (l.win < 1) = false ∧ decide (100 < l.win) = false ∧ decide (l.cap < 0) = false ∧ decide (100000 < l.cap) = false := by
  simp only [badLim, hp] at h
  simp at h
  simp
  omega

section
variable {P : Program} (w : World)
/-- append(s, x...): s begins its own block (or is nil), x lies wherever -/
theorem run_append_src (t ty e : TypeId) (i : TypeInfo) (z : Value) (size bytes : Nat) (ht : P.underlying t = some (.slice e)) (hi : P.info? e = some i) (hz : i.zero = some z)
    (hsize : i.size = size) (hby : i.bytes = bytes) (hzs : z.cells.size = size) (hsz : 0 < size)
    (v : Value) (n : Nat) (xs : List Value) (hown : w.ownsRow 0 e size v n xs) (a : Option Addr) (m c : Nat) (news : List Value) (hl : news.length = m * size) (hnone : a = none → m = 0 ∧ c = 0)
    (hnews : ∀ ad, a = some ad → ∀ j u, news[j]? = some u → w.cell? (ad.add j) = some u) (h1 : ∀ u ∈ news, u.oneCell' = true)
    (h63 : n + m ≤ maxLen) (hbytes : (n + m) * bytes ≤ 140737488355328) :
    ∃ v' w', (Builtin.append_ #[t, t] ty #[v, .slice a m c]).run P w = .ok v' w' ∧ w'.ownsRow 0 e size v' (n + m) (xs ++ news) ∧ w.grownBy w' v.ownBlock ∧
      (v'.ownBlock = v.ownBlock ∨ (v'.ownBlock = some w.heap.size ∧ w.grownBy w' none)) := by
  cases a with
  | none =>
    obtain ⟨rfl, rfl⟩ := hnone rfl
    have hnn : news = [] := List.eq_nil_of_length_eq_zero (by simpa using hl)
    subst hnn
    exact run_append_rows (P := P) w t ty e i z size bytes ht hi hz hsize hby hzs hsz v n xs hown (.slice none 0 0) 0 [] (World.ownsRow_nil w 0 e size) h1 h63 hbytes
  | some ad => exact run_append_row (P := P) w t ty e i z size bytes ht hi hz hsize hby hzs hsz v n xs hown ad m c news hl (hnews ad rfl) h1 h63 hbytes
end

theorem step_append_src {P : Program} {ops : Array Oper} {o : Oper} {a : Act} {w : World} {K : Act → World → Prop} {Q : Exit → Act → World → Prop} {E : Prop}
    (hg : o.guard = none) (s x : Operand) (t : TypeId) (hop : o.op = Op.call { callee := Callee.builtin Builtin.append, args := #[s, x], argTypes := #[t, t] })
    (e : TypeId) (i : TypeInfo) (z : Value) (size bytes : Nat) (h1 : P.underlying t = some (.slice e)) (h2 : P.info? e = some i) (h3 : i.zero = some z) (h4 : i.size = size) (h5 : i.bytes = bytes) (h6 : z.cells.size = size) (h7 : 0 < size)
    (v : Value) (n : Nat) (xs : List Value) (hs : a.eval s = v) (hown : w.ownsRow 0 e size v n xs)
    (ao : Option Addr) (m c : Nat) (news : List Value) (hx : a.eval x = .slice ao m c) (hn : news.length = m * size) (hnone : ao = none → m = 0 ∧ c = 0) (hc : ∀ ad, ao = some ad → ∀ j u, news[j]? = some u → w.cell? (ad.add j) = some u) (h1c : ∀ u ∈ news, u.oneCell' = true)
    (b1 : n + m ≤ maxLen) (b2 : (n + m) * bytes ≤ 140737488355328)
    (hK : ∀ v' w', w'.ownsRow 0 e size v' (n + m) (xs ++ news) → w.grownBy w' v.ownBlock → (v'.ownBlock = v.ownBlock ∨ (v'.ownBlock = some w.heap.size ∧ w.grownBy w' none)) → K (a.put o.dst v') w') :
    if Region.wanted o (yielded ops a.tmps) = true then Oper.wp P o a w K Q else E := by
  have hw : Region.wanted o (yielded ops a.tmps) = true := by simp [Region.wanted, hg]
  rw [if_pos hw]
  obtain ⟨v', w', hrun, r1, r2, r3⟩ := run_append_src (P := P) w t o.type e i z size bytes h1 h2 h3 h4 h5 h6 h7 v n xs hown ao m c news hn hnone hc h1c b1 b2
  unfold Oper.wp
  simp [execOp, hop, resolve, invoke, builtin, hs, hx, hrun, Result.andThen]
  exact hK v' w' r1 r2 r3

theorem wpList_append_src {P : Program} (w : World) {ops : Array Oper} {rest : List Oper} {o : Oper} {a : Act} {Q : Exit → Act → World → Prop} (hgd : o.guard = none) (s x : Operand) (t : TypeId)
    (ho : o.op = .call { callee := .builtin .append, args := #[s, x], argTypes := #[t, t] })
    (e : TypeId) (i : TypeInfo) (z : Value) (size bytes : Nat) (ht : P.underlying t = some (.slice e)) (hi : P.info? e = some i) (hz : i.zero = some z)
    (hsize : i.size = size) (hby : i.bytes = bytes) (hzs : z.cells.size = size) (hsz : 0 < size)
    (v : Value) (n : Nat) (xs : List Value) (hs : a.eval s = v) (hown : w.ownsRow 0 e size v n xs) (ao : Option Addr) (m c : Nat) (news : List Value) (hxe : a.eval x = .slice ao m c) (hn : news.length = m * size) (hnone : ao = none → m = 0 ∧ c = 0)
    (hc : ∀ ad, ao = some ad → ∀ j u, news[j]? = some u → w.cell? (ad.add j) = some u) (h1 : ∀ u ∈ news, u.oneCell' = true)
    (h63 : n + m ≤ maxLen) (hbytes : (n + m) * bytes ≤ 140737488355328)
    (h : ∀ v' w', w'.ownsRow 0 e size v' (n + m) (xs ++ news) → w.grownBy w' v.ownBlock → (v'.ownBlock = v.ownBlock ∨ (v'.ownBlock = some w.heap.size ∧ w.grownBy w' none)) → wpList P ops Q rest (a.put o.dst v') w') : wpList P ops Q (o :: rest) a w :=
  wpList_plain hgd fun _ hK => by
    obtain ⟨v', w', hr, h2, h3, h4⟩ := run_append_src (P := P) w t o.type e i z size bytes ht hi hz hsize hby hzs hsz v n xs hown ao m c news hn hnone hc h1 h63 hbytes
    unfold Oper.wp execOp
    simp only [ho, resolve, invoke, builtin, Sem.run_bind, Sem.run_pure, Result.andThen_ok, List.map_toArray, List.map_cons, List.map_nil, hs, hxe, hr]
    exact hK _ _ (h v' w' h2 h3 h4)

theorem SeeL.news {w : World} {a : Option Addr} {lims : List Lim} (h : SeeL w a lims) : ∀ ad, a = some ad → ∀ j u, (lims.flatMap limC)[j]? = some u → w.cell? (ad.add j) = some u := by
  intro ad ha j u hu
  rcases h with rfl | ⟨g, o, rfl, _, hc⟩
  · simp at hu
  · injection ha with ha
    subst ha
    have hj : j < lims.length * 3 := by
      have := (List.getElem?_eq_some_iff.1 hu).1
      rwa [flat_len limC 3 (fun _ => rfl)] at this
    obtain ⟨l, hl⟩ : ∃ l, lims[j / 3]? = some l := ⟨_, List.getElem?_eq_getElem (by omega)⟩
    have := flat_get limC 3 (fun _ => rfl) lims (j / 3) (j % 3) l hl (by omega)
    rw [show j / 3 * 3 + j % 3 = j from by omega, hu] at this
    obtain ⟨h1, h2, h3⟩ := hc (j / 3) l hl
    have hcase : j % 3 = 0 ∨ j % 3 = 1 ∨ j % 3 = 2 := by omega
    have hadd : ((⟨g, o, none⟩ : Addr).add j) = ⟨g, o + j, none⟩ := Addr.add_lit ..
    rw [hadd]
    rcases hcase with e | e | e
    · rw [e] at this; simp [limC] at this; subst this
      rw [show o + j = o + j / 3 * 3 from by omega]; exact h1
    · rw [e] at this; simp [limC] at this; subst this
      rw [show o + j = o + j / 3 * 3 + 1 from by omega]; exact h2
    · rw [e] at this; simp [limC] at this; subst this
      rw [show o + j = o + j / 3 * 3 + 2 from by omega]; exact h3

theorem limC_one (l : List Lim) : ∀ u ∈ l.flatMap limC, u.oneCell' = true := by
  intro u hu
  obtain ⟨d, _, hd⟩ := List.mem_flatMap.1 hu
  simp [limC] at hd
  rcases hd with rfl | rfl | rfl <;> rfl

theorem infoL : (Tryz.prog.info? 60).map (fun i => (i.zero, i.size, i.bytes)) = some (some (.agg #[I 0, I 0, I 0]), 3, 24) := by kernel_rfl

def ch0 : RCh := ⟨0, -1, false, -1⟩

def rnew (c : Nat) (lims : List Lim) (lock : Int) : RSt := ⟨lims, lock, 0, [], List.replicate c ch0, []⟩

def orderBad (R : RSt) (k a d t : Int) : Bool := !isCh R k || decide (a < 1) || decide (1000 < a) || decide (d < 0) || decide (400 < d) || decide (t < 1) || decide (400 < t)

def orderErr (R : RSt) (k a d t : Int) : Int := if orderBad R k a d t = true then 1 else if 8 ≤ nov R.now R.os then 2 else 0

def orderR (R : RSt) (k a d t : Int) : RSt := if orderErr R k a d t = 0 then { R with os := R.os ++ [⟨k, R.now + d, R.now + d + t, a⟩] } else R

def orderN (R : RSt) (k a d t : Int) : Int := if orderErr R k a d t = 0 then R.os.length + 1 else 0

theorem nov_snoc (now : Int) (os : List ROrd) (o : ROrd) : nov now (os ++ [o]) = nov now os + if now < o.stop then 1 else 0 := by
  unfold nov
  rw [List.countP_append, List.countP_singleton]
  simp

theorem nov_le (now : Int) (os : List ROrd) : nov now os ≤ os.length := List.countP_le_length

theorem orderBad_cases {R : RSt} {k a d t : Int} (hb : orderBad R k a d t = true) : isCh R k = false ∨ (isCh R k = true ∧ a < 1) ∨ (isCh R k = true ∧ decide (a < 1) = false ∧ 1000 < a) ∨ (isCh R k = true ∧ decide (a < 1) = false ∧ decide (1000 < a) = false ∧ d < 0) ∨ (isCh R k = true ∧ decide (a < 1) = false ∧ decide (1000 < a) = false ∧ decide (d < 0) = false ∧ 400 < d) ∨
    (isCh R k = true ∧ decide (a < 1) = false ∧ decide (1000 < a) = false ∧ decide (d < 0) = false ∧ decide (400 < d) = false ∧ t < 1) ∨ (isCh R k = true ∧ decide (a < 1) = false ∧ decide (1000 < a) = false ∧ decide (d < 0) = false ∧ decide (400 < d) = false ∧ decide (t < 1) = false ∧ 400 < t) := by
  unfold orderBad at hb
  cases h1 : isCh R k with
  | false => exact Or.inl rfl
  | true =>
    rw [h1] at hb
    simp at hb
    simp
    omega

theorem orderGood {R : RSt} {k a d t : Int} (hb : orderBad R k a d t = false) : isCh R k = true ∧ decide (a < 1) = false ∧ decide (1000 < a) = false ∧ decide (d < 0) = false ∧ decide (400 < d) = false ∧ decide (t < 1) = false ∧ decide (400 < t) = false := by
  simp only [orderBad, Bool.or_eq_false_iff, Bool.not_eq_false'] at hb
  obtain ⟨⟨⟨⟨⟨⟨h1, h2⟩, h3⟩, h4⟩, h5⟩, h6⟩, h7⟩ := hb
  exact ⟨h1, h2, h3, h4, h5, h6, h7⟩

def restErr (R : RSt) (j : Int) : Int := if j < 1 ∨ (R.os.length : Int) < j then 1 else 0

def restV (R : RSt) (j : Int) : Int := if j < 1 ∨ (R.os.length : Int) < j then 0 else ((R.os[(j - 1).toNat]?).map (·.rest)).getD 0

def restsErr (R : RSt) (k : Int) (yes : Bool) : Int := if isCh R k = true then (if (R.chs[k.toNat]?).map (·.rests) = some yes then 3 else 0) else 1

def restsR (R : RSt) (k : Int) (yes : Bool) : RSt := if restsErr R k yes = 0 then (match R.chs[k.toNat]? with | none => R | some c => { R with chs := R.chs.set k.toNat { c with rests := yes } }) else R

def demandBad (R : RSt) (k a : Int) : Bool := !isCh R k || decide (a < 1) || decide (1000 < a)

def lockedB (R : RSt) (k : Nat) : Bool := match R.chs[k]? with
  | none => false
  | some c => decide (0 ≤ c.asked) && decide (R.now - c.asked < R.lock)

def demandErr (R : RSt) (k a : Int) : Int := if demandBad R k a = true then 1 else if lockedB R k.toNat = true then 4 else if 8 ≤ nov R.now R.os then 2 else 0

def askedR (R : RSt) (k : Nat) : RSt := match R.chs[k]? with
  | none => R
  | some c => { R with chs := R.chs.set k { c with asked := R.now } }

def demandR (R : RSt) (k a : Int) : RSt := if demandErr R k a = 0 then askedR (orderR R k a 0 1) k.toNat else R

def demandN (R : RSt) (k a : Int) : Int := if demandErr R k a = 0 then R.os.length + 1 else 0

theorem demandBad_cases {R : RSt} {k a : Int} (hb : demandBad R k a = true) : isCh R k = false ∨ (isCh R k = true ∧ a < 1) ∨ (isCh R k = true ∧ decide (a < 1) = false ∧ 1000 < a) := by
  unfold demandBad at hb
  cases h1 : isCh R k with
  | false => exact Or.inl rfl
  | true =>
    rw [h1] at hb
    simp at hb
    simp
    omega

theorem demandGood {R : RSt} {k a : Int} (hb : demandBad R k a = false) : isCh R k = true ∧ decide (a < 1) = false ∧ decide (1000 < a) = false ∧ orderBad R k a 0 1 = false := by
  simp only [demandBad, Bool.or_eq_false_iff, Bool.not_eq_false'] at hb
  obtain ⟨⟨h1, h2⟩, h3⟩ := hb
  have g2 : 1 ≤ a := by have := h2; simp at this; omega
  have g3 : a ≤ 1000 := by simpa using h3
  refine ⟨h1, h2, h3, ?_⟩
  simp [orderBad, h1]
  omega

/-- how a pump lies in memory: its blocks, its first block, what it is -/
abbrev Rep := World → (Nat → Prop) → Nat → RSt → Prop

/-- a call has changed the pump's own blocks alone -/
def Moved (pa : Rep) (w : World) (F : Nat → Prop) (b : Nat) (R' : RSt) (w' : World) : Prop := Frm F w w' ∧ ∃ F', pa w' F' b R' ∧ ∀ x, F' x → F x ∨ w.heap.size ≤ x

def runErr (R : RSt) (t : Int) : Int := if t < 1 ∨ 100 < t then 1 else if 400 < R.now + t then 2 else 0

def runR (R : RSt) (t : Int) : RSt := if runErr R t = 0 then rticks t.toNat R else R

def runDs (R : RSt) (t : Int) : List Ds := if runErr R t = 0 then (rticks t.toNat R).doses.drop R.doses.length else []

def RunOut (pa : Rep) (w : World) (F : Nat → Prop) (b : Nat) (R : RSt) (t : Int) (e : Ending) (w' : World) : Prop :=
  ∃ vout, e = .returned (.tuple #[vout, I (runErr R t)]) ∧ w'.ownsRow 0 100 3 vout (runDs R t).length ((runDs R t).flatMap dsC) ∧ Frm F w w' ∧
    ∃ F', pa w' F' b (runR R t) ∧ (∀ x, F' x → F x ∨ w.heap.size ≤ x) ∧ (∀ x, vout.ownBlock = some x → w.heap.size ≤ x ∧ ¬ F' x)

def NewOut (pa : Rep) (w : World) (c : Int) (lims : List Lim) (lock : Int) (e : Ending) (w' : World) : Prop := Keep w w' ∧
  ((fineB c lims lock = false ∧ e = .returned (.tuple #[.pointer none, I 1])) ∨
   (fineB c lims lock = true ∧ ∃ b F, e = .returned (.tuple #[.pointer (some ⟨b, 0, none⟩), I 0]) ∧ pa w' F b (rnew c.toNat lims lock) ∧ (∀ x, F x → w.heap.size ≤ x)))

def basalErr (R : RSt) (k rate ticks : Int) : Int := if basalBad R k rate ticks = true then 1 else 0

def basalR (R : RSt) (k rate ticks : Int) : RSt := if basalBad R k rate ticks = true then R else rbasal R k.toNat rate ticks

def roomV (R : RSt) (k : Int) : Value := if isCh R k = true then .tuple #[I (rroom R.doses R.lims k.toNat R.now), I 0] else .tuple #[I 0, I 1]

/-- Wait's answer -/
def WaitOut (R : RSt) (k a : Int) (e : Ending) : Prop :=
  ((isCh R k = false ∨ a < 0 ∨ 1000 < a) ∧ e = .returned (.tuple #[I 0, .bool false, I 1])) ∨ (isCh R k = true ∧ 0 ≤ a ∧ a ≤ 1000 ∧ ∃ r, e = .returned (waitV r) ∧ WaitOk R k.toNat a r)

/-- what the law asks of a pump: stage 1's calls -/
structure Pumpy (fNew fBasal fRun fRoom fWait : FuncId) (pa : Rep) : Prop where
  frm : ∀ {S : Nat → Prop} {w w' : World} {F : Nat → Prop} {b : Nat} {R : RSt}, pa w F b R → Frm S w w' → (∀ x, F x → ¬ S x) → pa w' F b R
  lt : ∀ {w : World} {F : Nat → Prop} {b : Nat} {R : RSt}, pa w F b R → ∀ x, F x → x < w.heap.size
  new : ∀ (c : Int) (a : Option Addr) (lims : List Lim) (cap : Nat) (lock : Int) (w : World), SeeL w a lims → (a = none → lims.length = 0 ∧ cap = 0) → lims.length ≤ 5864062014634 →
    Calls Tryz.prog fNew #[cfgV c a lims.length cap lock] w fun e w' => NewOut pa w c lims lock e w'
  basal : ∀ (k rate ticks : Int) (w : World) (F : Nat → Prop) (b : Nat) (R : RSt), pa w F b R → R.Ok → R.Full →
    Calls Tryz.prog fBasal #[.pointer (some ⟨b, 0, none⟩), I k, I rate, I ticks] w fun e w' => e = .returned (I (basalErr R k rate ticks)) ∧ Moved pa w F b (basalR R k rate ticks) w'
  run : ∀ (t : Int) (w : World) (F : Nat → Prop) (b : Nat) (R : RSt), pa w F b R → R.Ok → R.Full →
    Calls Tryz.prog fRun #[.pointer (some ⟨b, 0, none⟩), I t] w fun e w' => RunOut pa w F b R t e w'
  room : ∀ (k : Int) (w : World) (F : Nat → Prop) (b : Nat) (R : RSt), pa w F b R → R.Ok → R.Full →
    Calls Tryz.prog fRoom #[.pointer (some ⟨b, 0, none⟩), I k] w fun e w' => e = .returned (roomV R k) ∧ Moved pa w F b R w'
  wait : ∀ (k a : Int) (w : World) (F : Nat → Prop) (b : Nat) (R : RSt), pa w F b R → R.Ok → R.Full →
    Calls Tryz.prog fWait #[.pointer (some ⟨b, 0, none⟩), I k, I a] w fun e w' => WaitOut R k a e ∧ Moved pa w F b R w'

theorem waitOk_unique {R : RSt} {k : Nat} {a : Int} {r s : Option Nat} (h1 : WaitOk R k a r) (h2 : WaitOk R k a s) : r = s := by
  cases r with
  | none =>
    cases s with
    | none => rfl
    | some n => have := h1 n h2.1; have := h2.2.1; omega
  | some m =>
    cases s with
    | none => have := h2 m h1.1; have := h1.2.1; omega
    | some n =>
      rcases Nat.lt_trichotomy m n with h | h | h
      · have := h2.2.2 m h; have := h1.2.1; omega
      · rw [h]
      · have := h1.2.2 n h; have := h2.2.1; omega

theorem waitOut_unique {R : RSt} {k a : Int} {e f : Ending} (h1 : WaitOut R k a e) (h2 : WaitOut R k a f) : e = f := by
  rcases h1 with ⟨h, rfl⟩ | ⟨c1, c2, c3, r, rfl, hr⟩
  · rcases h2 with ⟨_, rfl⟩ | ⟨c1, c2, c3, _⟩
    · rfl
    · exfalso; rcases h with h | h | h
      · rw [c1] at h; cases h
      · omega
      · omega
  · rcases h2 with ⟨h, _⟩ | ⟨_, _, _, s, rfl, hs⟩
    · exfalso; rcases h with h | h | h
      · rw [c1] at h; cases h
      · omega
      · omega
    · rw [waitOk_unique hr hs]

structure Orderly (fOrder fDemand fRest fPause fResume : FuncId) (pa : Rep) : Prop where
  order : ∀ (k a d t : Int) (w : World) (F : Nat → Prop) (b : Nat) (R : RSt), pa w F b R → R.Ok → R.Full →
    Calls Tryz.prog fOrder #[.pointer (some ⟨b, 0, none⟩), I k, I a, I d, I t] w fun e w' => e = .returned (.tuple #[I (orderN R k a d t), I (orderErr R k a d t)]) ∧ Moved pa w F b (orderR R k a d t) w'
  demand : ∀ (k a : Int) (w : World) (F : Nat → Prop) (b : Nat) (R : RSt), pa w F b R → R.Ok → R.Full →
    Calls Tryz.prog fDemand #[.pointer (some ⟨b, 0, none⟩), I k, I a] w fun e w' => e = .returned (.tuple #[I (demandN R k a), I (demandErr R k a)]) ∧ Moved pa w F b (demandR R k a) w'
  rest : ∀ (j : Int) (w : World) (F : Nat → Prop) (b : Nat) (R : RSt), pa w F b R → R.Ok → R.Full →
    Calls Tryz.prog fRest #[.pointer (some ⟨b, 0, none⟩), I j] w fun e w' => e = .returned (.tuple #[I (restV R j), I (restErr R j)]) ∧ Moved pa w F b R w'
  pause : ∀ (k : Int) (w : World) (F : Nat → Prop) (b : Nat) (R : RSt), pa w F b R → R.Ok → R.Full →
    Calls Tryz.prog fPause #[.pointer (some ⟨b, 0, none⟩), I k] w fun e w' => e = .returned (I (restsErr R k true)) ∧ Moved pa w F b (restsR R k true) w'
  resume : ∀ (k : Int) (w : World) (F : Nat → Prop) (b : Nat) (R : RSt), pa w F b R → R.Ok → R.Full →
    Calls Tryz.prog fResume #[.pointer (some ⟨b, 0, none⟩), I k] w fun e w' => e = .returned (I (restsErr R k false)) ∧ Moved pa w F b (restsR R k false) w'

theorem full_os {R : RSt} (ok : R.Ok) (hf : R.Full) : R.os.length ≤ 3300 := by
  obtain ⟨-, h2, h3⟩ := hf
  have := ok.now1
  omega

theorem orderR_ok {R : RSt} (ok : R.Ok) (hf : R.Full) (k a d t : Int) : (orderR R k a d t).Ok ∧ (orderR R k a d t).Full := by
  unfold orderR
  split
  · rename_i he
    unfold orderErr at he
    split at he
    · omega
    · rename_i hb
      split at he
      · omega
      · rename_i hm
        have hb' : orderBad R k a d t = false := by simpa using hb
        obtain ⟨h1, h2, h3, h4, h5, h6, h7⟩ := orderGood hb'
        have g2 : 1 ≤ a := by have := h2; simp at this; omega
        have g3 : a ≤ 1000 := by simpa using h3
        have g4 : 0 ≤ d := by simpa using h4
        have g5 : d ≤ 400 := by simpa using h5
        have g6 : 1 ≤ t := by have := h6; simp at this; omega
        have g7 : t ≤ 400 := by simpa using h7
        have n0 := ok.now0
        have n1 := ok.now1
        have ho := full_os ok hf
        obtain ⟨f1, f2, f3⟩ := hf
        have hs := nov_snoc R.now R.os ⟨k, R.now + d, R.now + d + t, a⟩
        rw [if_pos (show R.now < R.now + d + t by omega)] at hs
        refine ⟨⟨ok.lims, ok.nl, ok.doses, ok.nd, ok.now0, ok.now1, ok.nc0, ok.nc1, ok.chs, by simp; omega, ?_⟩, f1, ?_, ?_⟩
        · intro o ho'
          rcases List.mem_append.1 ho' with h | h
          · exact ok.os o h
          · simp at h; subst h
            exact ⟨by simp; omega, by simp; omega, by simp; omega, by simp; omega, by simp; omega, by simp; omega⟩
        · show (((R.os ++ [(⟨k, R.now + d, R.now + d + t, a⟩ : ROrd)]).length : Nat) : Int) ≤ 8 * R.now + nov R.now (R.os ++ [⟨k, R.now + d, R.now + d + t, a⟩])
          rw [hs]; simp; omega
        · show nov R.now (R.os ++ [⟨k, R.now + d, R.now + d + t, a⟩]) ≤ 8
          rw [hs]; omega
  · exact ⟨ok, hf⟩

theorem askedR_ok {R : RSt} (ok : R.Ok) (hf : R.Full) (k : Nat) : (askedR R k).Ok ∧ (askedR R k).Full := by
  unfold askedR
  split
  · exact ⟨ok, hf⟩
  · rename_i c hc
    have n0 := ok.now0
    have n1 := ok.now1
    refine ⟨⟨ok.lims, ok.nl, ok.doses, ok.nd, ok.now0, ok.now1, by simpa using ok.nc0, by simpa using ok.nc1, ?_, ok.no, ok.os⟩, hf⟩
    intro x hx
    rcases List.mem_or_eq_of_mem_set hx with hx | rfl
    · exact ok.chs x hx
    · have hcc := ok.chs c (List.mem_of_getElem? hc)
      exact ⟨hcc.1, hcc.2.1, hcc.2.2.1, hcc.2.2.2.1, by simp; omega, by simp; omega⟩

theorem demandR_ok {R : RSt} (ok : R.Ok) (hf : R.Full) (k a : Int) : (demandR R k a).Ok ∧ (demandR R k a).Full := by
  unfold demandR
  split
  · have h := orderR_ok ok hf k a 0 1
    exact askedR_ok h.1 h.2 _
  · exact ⟨ok, hf⟩

theorem restsR_ok {R : RSt} (ok : R.Ok) (hf : R.Full) (k : Int) (yes : Bool) : (restsR R k yes).Ok ∧ (restsR R k yes).Full := by
  unfold restsR
  split
  · split
    · exact ⟨ok, hf⟩
    · rename_i c hc
      refine ⟨⟨ok.lims, ok.nl, ok.doses, ok.nd, ok.now0, ok.now1, by simpa using ok.nc0, by simpa using ok.nc1, ?_, ok.no, ok.os⟩, hf⟩
      intro x hx
      rcases List.mem_or_eq_of_mem_set hx with hx | rfl
      · exact ok.chs x hx
      · exact ok.chs c (List.mem_of_getElem? hc)
  · exact ⟨ok, hf⟩

end Go.Proofs.YtpilmkipbbengaaGreatDoor
