/- Numbers in the text of a journal. -/
import Derived.Lib.ItoaNum
import Derived.Test.YtpilmkipbbengaaGreatDoorKpure
import Derived.Test.YtpilmkipbbengaaGreatDoorMach2
namespace Go.Proofs.YtpilmkipbbengaaGreatDoor
open Go.Lib

/-- is it a digit -/
def jdg (b : UInt8) : Bool := decide (48 ≤ b.toNat) && decide (b.toNat ≤ 57)
def jval (l : List UInt8) : Nat := l.foldl (fun n b => 10 * n + (b.toNat - 48)) 0
/-- in the form in which it is written -/
def jok (l : List UInt8) : Bool := decide (1 ≤ l.length) && l.all jdg && (decide (l.length = 1) || decide (l.head? ≠ some 48))
def jnum (l : List UInt8) : Option Nat := if jok l = true then some (jval l) else none

theorem jval_snoc (l : List UInt8) (b : UInt8) : jval (l ++ [b]) = 10 * jval l + (b.toNat - 48) := by
  simp [jval, List.foldl_append]

theorem jdg_of {b : UInt8} (h : jdg b = true) : 48 ≤ b.toNat ∧ b.toNat ≤ 57 := by
  simp only [jdg, Bool.and_eq_true, decide_eq_true_eq] at h
  exact h

theorem dg_byte {i : Nat} (h : i < 10) : (UInt8.ofNat (48 + i)).toNat = 48 + i := by
  rw [UInt8.toNat_ofNat']
  omega

theorem byte_dg {b : UInt8} (h : jdg b = true) : UInt8.ofNat (48 + (b.toNat - 48)) = b := by
  obtain ⟨h1, h2⟩ := jdg_of h
  have e : 48 + (b.toNat - 48) = b.toNat := by omega
  rw [e]
  exact UInt8.ofNat_toNat

theorem decDigits_big {u : Nat} (h : ¬ u < 10) : decDigits u = decDigits (u / 10) ++ [UInt8.ofNat (48 + u % 10)] := by
  rw [decDigits, dif_neg h]

theorem decDigits_ne (u : Nat) : decDigits u ≠ [] := by
  by_cases h : u < 10
  · rw [decDigits_one h]; simp
  · rw [decDigits_big h]; simp

theorem decDigits_all (u : Nat) : (decDigits u).all jdg = true := by
  induction u using Nat.strongRecOn with
  | ind u ih =>
    by_cases h : u < 10
    · rw [decDigits_one h]
      simp [jdg]; omega
    · rw [decDigits_big h, List.all_append, ih (u / 10) (by omega)]
      simp [jdg]; omega

theorem decDigits_val (u : Nat) : jval (decDigits u) = u := by
  induction u using Nat.strongRecOn with
  | ind u ih =>
    by_cases h : u < 10
    · rw [decDigits_one h]
      simp [jval]; omega
    · rw [decDigits_big h, jval_snoc, ih (u / 10) (by omega), dg_byte (show u % 10 < 10 by omega)]
      omega

theorem decDigits_head {u : Nat} (h : 1 ≤ u) : (decDigits u).head? ≠ some 48 := by
  induction u using Nat.strongRecOn with
  | ind u ih =>
    by_cases h1 : u < 10
    · rw [decDigits_one h1]
      intro e
      simp only [List.head?_cons, Option.some.injEq] at e
      have h2 := dg_byte h1
      rw [e] at h2
      have : (48 : UInt8).toNat = 48 := rfl
      omega
    · rw [decDigits_big h1]
      have h3 := ih (u / 10) (by omega) (by omega)
      have h4 := decDigits_ne (u / 10)
      cases hd : decDigits (u / 10) with
      | nil => exact absurd hd h4
      | cons a r => rw [hd] at h3; simpa using h3

theorem decDigits_len1 {u : Nat} (h : ¬ u < 10) : 1 < (decDigits u).length := by
  rw [decDigits_big h]
  have := List.length_pos_iff.2 (decDigits_ne (u / 10))
  simp; omega

theorem jok_digits (u : Nat) : jok (decDigits u) = true := by
  have h1 := List.length_pos_iff.2 (decDigits_ne u)
  have h2 := decDigits_all u
  by_cases h : u < 10
  · have : (decDigits u).length = 1 := by rw [decDigits_one h]; rfl
    simp [jok, this, h2]
  · have h3 := decDigits_head (show 1 ≤ u by omega)
    simp only [jok, h2, Bool.and_eq_true, Bool.or_eq_true, decide_eq_true_eq]
    exact ⟨⟨h1, trivial⟩, Or.inr h3⟩

theorem jnum_digits (u : Nat) : jnum (decDigits u) = some u := by
  unfold jnum
  rw [if_pos (jok_digits u), decDigits_val]

theorem jval_pos {l : List UInt8} (hd : l.all jdg = true) (hh : l.head? ≠ some 48) (hn : l ≠ []) : 1 ≤ jval l := by
  have key : ∀ (r : List UInt8) (n : Nat), 1 ≤ n → 1 ≤ r.foldl (fun n b => 10 * n + (b.toNat - 48)) n := by
    intro r
    induction r with
    | nil => intro n h; exact h
    | cons b r ih => intro n h; simp only [List.foldl_cons]; exact ih _ (by omega)
  cases l with
  | nil => exact absurd rfl hn
  | cons b r =>
    simp only [jval, List.foldl_cons]
    refine key r _ ?_
    simp only [List.all_cons, Bool.and_eq_true] at hd
    obtain ⟨h1, h2⟩ := jdg_of hd.1
    have : b.toNat ≠ 48 := by
      intro e
      refine hh ?_
      simp only [List.head?_cons, Option.some.injEq]
      exact UInt8.toNat_inj.1 e
    omega

theorem jok_eq : ∀ (n : Nat) (l : List UInt8), l.length = n → jok l = true → l = decDigits (jval l) := by
  intro n
  induction n with
  | zero =>
    intro l hl h
    simp only [jok, Bool.and_eq_true, decide_eq_true_eq] at h
    omega
  | succ n ih =>
    intro l hl h
    simp only [jok, Bool.and_eq_true, Bool.or_eq_true, decide_eq_true_eq] at h
    obtain ⟨⟨h1, h2⟩, h3⟩ := h
    have hne : l ≠ [] := by intro e; rw [e] at h1; simp at h1
    obtain ⟨r, b, rfl⟩ : ∃ r b, l = r ++ [b] := ⟨l.dropLast, l.getLast hne, (List.dropLast_concat_getLast hne).symm⟩
    rw [List.all_append, Bool.and_eq_true] at h2
    have hb : jdg b = true := by simpa using h2.2
    obtain ⟨b1, b2⟩ := jdg_of hb
    rw [jval_snoc]
    by_cases hr : r = []
    · subst hr
      have e : 10 * jval [] + (b.toNat - 48) = b.toNat - 48 := by simp [jval]
      rw [e, decDigits_one (by omega), byte_dg hb]
      rfl
    · have hp := List.length_pos_iff.2 hr
      have hh : (r ++ [b]).head? ≠ some 48 := by
        rcases h3 with h3 | h3
        · simp at h3; exact absurd h3 hr
        · exact h3
      have hh' : r.head? ≠ some 48 := by
        cases r with
        | nil => exact absurd rfl hr
        | cons a s => simpa using hh
      have hk : jok r = true := by
        simp only [jok, Bool.and_eq_true, Bool.or_eq_true, decide_eq_true_eq]
        exact ⟨⟨hp, h2.1⟩, Or.inr hh'⟩
      have hv := jval_pos h2.1 hh' hr
      have e1 : (10 * jval r + (b.toNat - 48)) / 10 = jval r := by omega
      have e2 : (10 * jval r + (b.toNat - 48)) % 10 = b.toNat - 48 := by omega
      rw [decDigits_big (by omega), e1, e2, byte_dg hb, ← ih r (by simp at hl; exact hl) hk]

theorem jnum_some {l : List UInt8} {n : Nat} (h : jnum l = some n) : l = decDigits n := by
  unfold jnum at h
  split at h
  · rename_i hk
    injection h with h
    rw [← h]
    exact jok_eq _ l rfl hk
  · cases h

end Go.Proofs.YtpilmkipbbengaaGreatDoor

/- The text of a journal, and how it is read. -/
namespace Go.Proofs.YtpilmkipbbengaaGreatDoor
open Go.Lib

def jdig (n : Int) : List UInt8 := decDigits n.toNat
def jline (d : Ds) : List UInt8 := jdig d.tick ++ [32] ++ jdig d.ch ++ [32] ++ jdig d.amt
def jlast (now : Int) : List UInt8 := [61, 32] ++ jdig now
def jtext (ds : List Ds) (now : Int) : List UInt8 := (ds.flatMap fun d => jline d ++ [10]) ++ (jlast now ++ [10])

/-- what stands ahead of the first s, and behind it -/
def jcut (s : UInt8) : List UInt8 → Option (List UInt8 × List UInt8)
  | [] => none
  | b :: r => if b = s then some ([], r) else match jcut s r with
    | some p => some (b :: p.1, p.2)
    | none => none

theorem jcut_eq {s : UInt8} : ∀ {l a r : List UInt8}, jcut s l = some (a, r) → l = a ++ s :: r ∧ s ∉ a := by
  intro l
  induction l with
  | nil => intro a r h; cases h
  | cons b l ih =>
    intro a r h
    simp only [jcut] at h
    split at h
    · rename_i hb
      simp only [Option.some.injEq, Prod.mk.injEq] at h
      obtain ⟨rfl, rfl⟩ := h
      simp [hb]
    · rename_i hb
      split at h
      · rename_i p hp
        simp only [Option.some.injEq, Prod.mk.injEq] at h
        obtain ⟨rfl, rfl⟩ := h
        obtain ⟨e1, e2⟩ := ih (a := p.1) (r := p.2) hp
        refine ⟨by rw [e1]; rfl, ?_⟩
        simp only [List.mem_cons, not_or]
        exact ⟨fun e => hb e.symm, e2⟩
      · cases h

theorem jcut_mk {s : UInt8} : ∀ {a : List UInt8} (r : List UInt8), s ∉ a → jcut s (a ++ s :: r) = some (a, r) := by
  intro a
  induction a with
  | nil => intro r _; simp [jcut]
  | cons b a ih =>
    intro r h
    simp only [List.mem_cons, not_or] at h
    simp only [List.cons_append, jcut]
    rw [if_neg fun e => h.1 e.symm, ih r h.2]

theorem jcut_lt {s : UInt8} {l a r : List UInt8} (h : jcut s l = some (a, r)) : r.length < l.length := by
  rw [(jcut_eq h).1]; simp; omega

def jnow (last : Int) (l : List UInt8) : Option Int := if l.take 2 = [61, 32] then
    match jnum (l.drop 2) with
    | some m => if last < m ∧ (m : Int) ≤ 400 then some m else none
    | none => none
  else none

def jdose (nch : Int) (l : List UInt8) : Option Ds := match jcut 32 l with
  | none => none
  | some (a, r) => match jcut 32 r with
    | none => none
    | some (b, c) => match jnum a with
      | none => none
      | some t => match jnum b with
        | none => none
        | some k => match jnum c with
          | none => none
          | some m => if (t : Int) ≤ 399 ∧ (k : Int) < nch ∧ 1 ≤ m ∧ m ≤ 1000 then some ⟨t, k, m⟩ else none

/-- what a reading tells: doses and now, or the number of the line at which it is none -/
abbrev JR := Except Nat (List Ds × Int)

def JR.push (d : Ds) : JR → JR
  | .ok (ds, now) => .ok (d :: ds, now)
  | .error n => .error (n + 1)

def jfol (last d : Ds) : Bool := decide (last.tick < d.tick) || (decide (last.tick = d.tick) && decide (last.ch < d.ch))

/-- at most so many lines -/
def jreadN (nch : Int) : Nat → Ds → List UInt8 → JR
  | 0, _, _ => .error 1
  | k + 1, last, s => match jcut 10 s with
    | none => .error 1
    | some (l, r) => match jnow last.tick l with
      | some m => if r = [] then .ok ([], m) else .error 2
      | none => match jdose nch l with
        | none => .error 1
        | some d => if jfol last d = true then (jreadN nch k d r).push d else .error 1

def jread (nch : Int) (last : Ds) (s : List UInt8) : JR := jreadN nch (s.length + 1) last s

theorem jreadN_more (nch : Int) : ∀ (k m : Nat) (last : Ds) (s : List UInt8), s.length < k → s.length < m → jreadN nch k last s = jreadN nch m last s := by
  intro k
  induction k with
  | zero => intro m last s h; omega
  | succ k ih =>
    intro m last s hk hm
    cases m with
    | zero => omega
    | succ m =>
      simp only [jreadN]
      cases hc : jcut 10 s with
      | none => rfl
      | some p =>
        obtain ⟨l, r⟩ := p
        have hl := jcut_lt hc
        simp only
        cases jnow last.tick l with
        | some x => rfl
        | none =>
          simp only
          cases jdose nch l with
          | none => rfl
          | some d =>
            simp only
            rw [ih m d r (by omega) (by omega)]

theorem jread_eq (nch : Int) (last : Ds) (s : List UInt8) : jread nch last s = match jcut 10 s with
    | none => .error 1
    | some (l, r) => match jnow last.tick l with
      | some m => if r = [] then .ok ([], m) else .error 2
      | none => match jdose nch l with
        | none => .error 1
        | some d => if jfol last d = true then (jread nch d r).push d else .error 1 := by
  unfold jread
  rw [jreadN]
  cases hc : jcut 10 s with
  | none => rfl
  | some p =>
    obtain ⟨l, r⟩ := p
    have hl := jcut_lt hc
    simp only
    cases jnow last.tick l with
    | some x => rfl
    | none =>
      simp only
      cases jdose nch l with
      | none => rfl
      | some d =>
        simp only
        rw [jreadN_more nch s.length (r.length + 1) d r (by omega) (by omega)]

/-- what a journal tells -/
structure JOk (nch : Int) (last : Ds) (ds : List Ds) (now : Int) : Prop where
  rise : (last :: ds).Pairwise Aft
  each : ∀ d ∈ ds, 0 ≤ d.tick ∧ d.tick < now ∧ 0 ≤ d.ch ∧ d.ch < nch ∧ 1 ≤ d.amt ∧ d.amt ≤ 1000
  n0 : last.tick < now
  n1 : 0 ≤ now
  n2 : now ≤ 400

theorem jdig_all (n : Int) : ∀ b ∈ jdig n, 48 ≤ b.toNat ∧ b.toNat ≤ 57 := fun b hb => jdg_of (List.all_eq_true.1 (decDigits_all n.toNat) b hb)
theorem jdig_no {n : Int} {s : UInt8} (h : s.toNat < 48 ∨ 57 < s.toNat) : s ∉ jdig n := fun e => by
  have := jdig_all n s e
  omega

theorem jnum_jdig {n : Int} : jnum (jdig n) = some n.toNat := jnum_digits _

theorem jdose_line {nch : Int} {d : Ds} (h : 0 ≤ d.tick ∧ d.tick ≤ 399 ∧ 0 ≤ d.ch ∧ d.ch < nch ∧ 1 ≤ d.amt ∧ d.amt ≤ 1000) : jdose nch (jline d) = some d := by
  obtain ⟨h1, h2, h3, h4, h5, h6⟩ := h
  have c1 : jcut 32 (jline d) = some (jdig d.tick, jdig d.ch ++ 32 :: jdig d.amt) := by
    have := jcut_mk (jdig d.ch ++ 32 :: jdig d.amt) (jdig_no (n := d.tick) (s := 32) (Or.inl (by decide)))
    simpa [jline] using this
  have c2 : jcut 32 (jdig d.ch ++ 32 :: jdig d.amt) = some (jdig d.ch, jdig d.amt) := jcut_mk _ (jdig_no (Or.inl (by decide)))
  simp only [jdose, c1, c2, jnum_jdig]
  rw [if_pos (by omega)]
  cases d with
  | mk t k m =>
    simp only [Option.some.injEq, Ds.mk.injEq]
    simp only at h1 h3 h5
    omega

theorem jline_no10 (d : Ds) : (10 : UInt8) ∉ jline d := by
  have h := fun n => jdig_no (n := n) (s := 10) (Or.inl (by decide))
  simp only [jline, List.mem_append, List.mem_singleton, not_or]
  exact ⟨⟨⟨⟨h _, by decide⟩, h _⟩, by decide⟩, h _⟩

theorem jlast_no10 (n : Int) : (10 : UInt8) ∉ jlast n := by
  have h := jdig_no (n := n) (s := 10) (Or.inl (by decide))
  simp only [jlast, List.mem_append, List.mem_cons, List.not_mem_nil, or_false, not_or]
  exact ⟨⟨by decide, by decide⟩, h⟩

theorem jnow_line (t : Int) (d : Ds) : jnow t (jline d) = none := by
  unfold jnow
  rw [if_neg]
  intro e
  have hn := decDigits_ne d.tick.toNat
  have hm := jdig_all d.tick
  unfold jline at e
  cases hd : jdig d.tick with
  | nil => exact hn hd
  | cons b r =>
    rw [hd] at e hm
    simp only [List.cons_append, List.append_assoc, List.take_succ_cons, List.cons.injEq] at e
    have := hm b (by simp)
    rw [e.1] at this
    revert this; decide

theorem jnow_last {t n : Int} (h0 : t < n) (h1 : 0 ≤ n) (h2 : n ≤ 400) : jnow t (jlast n) = some n := by
  have e1 : (jlast n).take 2 = [61, 32] := rfl
  have e2 : (jlast n).drop 2 = jdig n := rfl
  unfold jnow
  rw [if_pos e1, e2, jnum_jdig]
  simp only
  rw [if_pos (by omega)]
  simp only [Option.some.injEq]
  omega

theorem jfol_iff (a b : Ds) : jfol a b = true ↔ Aft a b := by
  simp only [jfol, Bool.or_eq_true, Bool.and_eq_true, decide_eq_true_eq]
  exact Iff.rfl

/-- what was written is read again -/
theorem jread_text {nch : Int} {now : Int} : ∀ {ds : List Ds} {last : Ds}, JOk nch last ds now → jread nch last (jtext ds now) = .ok (ds, now) := by
  intro ds
  induction ds with
  | nil =>
    intro last h
    have e : jtext [] now = jlast now ++ 10 :: [] := rfl
    rw [e, jread_eq, jcut_mk [] (jlast_no10 now)]
    simp only [jnow_last h.n0 h.n1 h.n2, if_true]
  | cons d ds ih =>
    intro last h
    have e : jtext (d :: ds) now = jline d ++ 10 :: jtext ds now := by simp [jtext]
    have hd := h.each d (by simp)
    have hp := List.pairwise_cons.1 h.rise
    have n2 := h.n2
    rw [e, jread_eq, jcut_mk (jtext ds now) (jline_no10 d)]
    simp only [jnow_line, jdose_line (nch := nch) (d := d) ⟨hd.1, by omega, hd.2.2.1, hd.2.2.2.1, hd.2.2.2.2⟩]
    rw [if_pos ((jfol_iff last d).2 (hp.1 d (by simp))), ih ⟨hp.2, fun x hx => h.each x (List.mem_cons_of_mem _ hx), hd.2.1, h.n1, h.n2⟩]
    rfl

end Go.Proofs.YtpilmkipbbengaaGreatDoor

/- What is read was written; where a text is wrong hangs on no later line. -/
namespace Go.Proofs.YtpilmkipbbengaaGreatDoor
open Go.Lib

theorem jnow_eq {t m : Int} {l : List UInt8} (h : jnow t l = some m) : l = jlast m ∧ t < m ∧ 0 ≤ m ∧ m ≤ 400 := by
  unfold jnow at h
  split at h
  · rename_i h2
    split at h
    · rename_i k hk
      split at h
      · rename_i hb
        injection h with h
        subst h
        refine ⟨?_, hb.1, by omega, hb.2⟩
        have e := List.take_append_drop 2 l
        rw [h2, jnum_some hk] at e
        rw [← e]
        simp [jlast, jdig]
      · cases h
    · cases h
  · cases h

theorem jdose_eq {nch : Int} {d : Ds} {l : List UInt8} (h : jdose nch l = some d) : l = jline d ∧ 0 ≤ d.tick ∧ d.tick ≤ 399 ∧ 0 ≤ d.ch ∧ d.ch < nch ∧ 1 ≤ d.amt ∧ d.amt ≤ 1000 := by
  unfold jdose at h
  split at h
  · cases h
  · rename_i a r h1
    split at h
    · cases h
    · rename_i b c h2
      split at h
      · cases h
      · rename_i t ht
        split at h
        · cases h
        · rename_i k hk
          split at h
          · cases h
          · rename_i m hm
            split at h
            · rename_i hb
              injection h with h
              subst h
              refine ⟨?_, by simp only; omega⟩
              rw [(jcut_eq h1).1, (jcut_eq h2).1, jnum_some ht, jnum_some hk, jnum_some hm]
              simp [jline, jdig]
            · cases h

theorem Aft.trans {a b c : Ds} (h : Aft a b) (k : Aft b c) : Aft a c := by
  unfold Aft at *
  omega

theorem jread_ok {nch : Int} : ∀ (n : Nat) (s : List UInt8), s.length ≤ n → ∀ {last : Ds} {ds : List Ds} {now : Int}, jread nch last s = .ok (ds, now) → s = jtext ds now ∧ JOk nch last ds now := by
  intro n
  induction n with
  | zero =>
    intro s hs last ds now h
    have : s = [] := List.eq_nil_of_length_eq_zero (by omega)
    subst this
    rw [jread_eq] at h
    simp [jcut] at h
  | succ n ih =>
    intro s hs last ds now h
    rw [jread_eq] at h
    split at h
    · cases h
    · rename_i l r hc
      split at h
      · rename_i m hm
        split at h
        · rename_i hr
          injection h with h
          injection h with e1 e2
          subst e1; subst e2; subst hr
          obtain ⟨q1, q2, q3, q4⟩ := jnow_eq hm
          refine ⟨?_, ⟨by simp, by simp, q2, q3, q4⟩⟩
          rw [(jcut_eq hc).1, q1]
          rfl
        · cases h
      · split at h
        · cases h
        · rename_i d hd
          split at h
          · rename_i hf
            have hl := jcut_lt hc
            cases hj : jread nch d r with
            | error k => rw [hj] at h; cases h
            | ok p =>
              obtain ⟨ds', now'⟩ := p
              rw [hj] at h
              injection h with h
              injection h with e1 e2
              subst e1; subst e2
              obtain ⟨q1, q2⟩ := ih r (by omega) hj
              obtain ⟨p1, p2, p3, p4, p5, p6, p7⟩ := jdose_eq hd
              have ha := (jfol_iff last d).1 hf
              have hp := List.pairwise_cons.1 q2.rise
              refine ⟨?_, ⟨List.pairwise_cons.2 ⟨?_, q2.rise⟩, ?_, ?_, q2.n1, q2.n2⟩⟩
              · rw [(jcut_eq hc).1, p1, q1]
                simp [jtext]
              · intro x hx
                rcases List.mem_cons.1 hx with rfl | hx
                · exact ha
                · exact ha.trans (hp.1 x hx)
              · intro x hx
                rcases List.mem_cons.1 hx with rfl | hx
                · exact ⟨p2, q2.n0, p4, p5, p6, p7⟩
                · exact q2.each x hx
              · have := q2.n0
                rcases ha with ha | ha <;> omega
          · cases h

/-- a line number is no less than one -/
theorem jread_bad1 {nch : Int} {last : Ds} {s : List UInt8} {n : Nat} (h : jread nch last s = .error n) : 1 ≤ n := by
  rw [jread_eq] at h
  split at h
  · injection h with h; omega
  · split at h
    · split at h
      · cases h
      · injection h with h; omega
    · split at h
      · injection h with h; omega
      · split at h
        · rename_i d _ _
          rename_i hr _ _
          cases hj : jread nch d _ with
          | ok p => obtain ⟨a, b⟩ := p; rw [hj] at h; cases h
          | error k => rw [hj] at h; injection h with h; omega
        · injection h with h; omega

end Go.Proofs.YtpilmkipbbengaaGreatDoor

/- Journal and Open: what is asked of a pump in memory. -/
namespace Go.Proofs.YtpilmkipbbengaaGreatDoor
open Go.RowKit

/-- the number of the first dose above its room; 0: there is none -/
def jbrk (lims : List Lim) : List Ds → List Ds → Nat
  | _, [] => 0
  | done, d :: ds => if rroom done lims d.ch.toNat d.tick < d.amt then done.length + 1 else jbrk lims (done ++ [d]) ds

def chR : RCh := ⟨0, -1, true, -1⟩

/-- a pump that is opened -/
def ropen (c : Nat) (lims : List Lim) (lock : Int) (ds : List Ds) (now : Int) : RSt := ⟨lims, lock, now, ds, List.replicate c chR, []⟩

def ds0 : Ds := ⟨-1, 0, 0⟩

def opened (c : Int) (lims : List Lim) (lock : Int) (s : List UInt8) : Except (Int × Int) RSt :=
  if fineB c lims lock = false then .error (0, 1) else match jread c ds0 s with
    | .error n => .error (n, 5)
    | .ok (ds, now) => if jbrk lims [] ds = 0 then .ok (ropen c.toNat lims lock ds now) else .error (jbrk lims [] ds, 6)

def OpenOut (pa : Rep) (w : World) (c : Int) (lims : List Lim) (lock : Int) (s : List UInt8) (e : Ending) (w' : World) : Prop := Keep w w' ∧ match opened c lims lock s with
  | .error (n, x) => e = .returned (.tuple #[.pointer none, I n, I x])
  | .ok R => ∃ b F, e = .returned (.tuple #[.pointer (some ⟨b, 0, none⟩), I 0, I 0]) ∧ pa w' F b R ∧ (∀ x, F x → w.heap.size ≤ x)

theorem rise_len : ∀ (ds : List Ds) (m t : Int), ds.Pairwise Aft → (∀ d ∈ ds, m ≤ 4 * d.tick + d.ch ∧ d.tick < t ∧ 0 ≤ d.ch ∧ d.ch < 4) → m ≤ 4 * t → (ds.length : Int) ≤ 4 * t - m := by
  intro ds
  induction ds with
  | nil => intro m t _ _ h; simp; omega
  | cons d ds ih =>
    intro m t hp hd hm
    obtain ⟨p1, p2⟩ := List.pairwise_cons.1 hp
    have h0 := hd d (by simp)
    have := ih (4 * d.tick + d.ch + 1) t p2 (fun x hx => by
      have h1 := hd x (List.mem_cons_of_mem _ hx)
      have h2 := p1 x hx
      refine ⟨?_, h1.2⟩
      rcases h2 with h2 | h2 <;> omega) (by omega)
    simp only [List.length_cons]
    omega

theorem JOk.len {c : Int} {last : Ds} {ds : List Ds} {now : Int} (h : JOk c last ds now) (hc : c ≤ 4) : (ds.length : Int) ≤ 4 * now := by
  have := rise_len ds 0 now (List.pairwise_cons.1 h.rise).2 (fun d hd => by have := h.each d hd; omega) (by have := h.n1; omega)
  omega

theorem JOk.ds {c : Int} {last : Ds} {ds : List Ds} {now : Int} (h : JOk c last ds now) (hc : c ≤ 4) : ∀ d ∈ ds, d.Ok := by
  intro d hd
  have := h.each d hd
  have := h.n2
  exact ⟨by omega, by omega, by omega, by omega, by omega, by omega⟩

theorem fine_parts {c : Int} {lims : List Lim} {lock : Int} (h : fineB c lims lock = true) : (rnew c.toNat lims lock).Ok ∧ 1 ≤ c ∧ c ≤ 4 ∧ 0 ≤ lock ∧ lock ≤ 400 := by
  simp only [fineB, Bool.and_eq_true, Bool.not_eq_true', List.all_eq_true] at h
  obtain ⟨h1, h2⟩ := h
  simp [badHead] at h1
  refine ⟨⟨?_, by simp [rnew]; omega, by simp [rnew], by simp [rnew], by simp [rnew], by simp [rnew], by simp [rnew]; omega, by simp [rnew]; omega, ?_, by simp [rnew], by simp [rnew]⟩, by omega⟩
  · intro l hl
    have := h2 l hl
    simp [badLim] at this
    have hc : c = 1 ∨ c = 2 ∨ c = 3 ∨ c = 4 := by omega
    have h16 : (2 : Int) ^ c.toNat ≤ 16 := by rcases hc with rfl | rfl | rfl | rfl <;> decide
    exact ⟨by omega, by omega, by omega, by omega, by omega, by omega⟩
  · intro x hx
    simp [rnew] at hx
    rw [hx.2]; simp [ch0]

theorem ropen_ok {c : Int} {lims : List Lim} {lock : Int} (hf : fineB c lims lock = true) {last : Ds} {ds : List Ds} {now : Int} (h : JOk c last ds now) : (ropen c.toNat lims lock ds now).Ok ∧ (ropen c.toNat lims lock ds now).Full := by
  obtain ⟨ok, c0, c1, -, -⟩ := fine_parts hf
  have hl := h.len c1
  have n1 := h.n1
  have n2 := h.n2
  refine ⟨⟨ok.lims, ok.nl, h.ds c1, ?_, n1, n2, by simpa [ropen, rnew] using ok.nc0, by simpa [ropen, rnew] using ok.nc1, ?_, by simp [ropen], by simp [ropen]⟩, hl, by simp [ropen, nov]; omega, by simp [ropen, nov]⟩
  · show ds.length ≤ 2000; omega
  · intro x hx
    have := List.eq_of_mem_replicate hx
    subst this
    simp [chR]

/-- what is told of all answers -/
theorem opened_ok {c : Int} {lims : List Lim} {lock : Int} {s : List UInt8} {R : RSt} (h : opened c lims lock s = .ok R) : R.Ok ∧ R.Full ∧ ∃ ds now, R = ropen c.toNat lims lock ds now ∧ s = jtext ds now ∧ JOk c ds0 ds now ∧ jbrk lims [] ds = 0 ∧ fineB c lims lock = true := by
  unfold opened at h
  split at h
  · cases h
  · rename_i hf
    have hf : fineB c lims lock = true := by simpa using hf
    split at h
    · cases h
    · rename_i ds now hj
      split at h
      · rename_i hb
        injection h with h
        obtain ⟨h1, h2⟩ := jread_ok s.length s (Nat.le_refl _) hj
        obtain ⟨q1, q2⟩ := ropen_ok hf h2
        subst h
        exact ⟨q1, q2, ds, now, rfl, h1, h2, hb, hf⟩
      · cases h

/-- what the laws ask of a pump: stage 3's calls. tab: what is asked of the world besides -/
structure Telly (fJournal fOpen : FuncId) (pa : Rep) (tab : World → Prop) : Prop where
  tell : ∀ (w : World) (F : Nat → Prop) (b : Nat) (R : RSt), tab w → pa w F b R → R.Ok → R.Full →
    Calls Tryz.prog fJournal #[.pointer (some ⟨b, 0, none⟩)] w fun e w' => e = .returned (.string ⟨(jtext R.doses R.now).toArray⟩) ∧ Keep w w'
  opens : ∀ (c : Int) (a : Option Addr) (lims : List Lim) (cap : Nat) (lock : Int) (s : List UInt8) (w : World), tab w → SeeL w a lims → (a = none → lims.length = 0 ∧ cap = 0) → lims.length ≤ 5864062014634 → s.length ≤ 2000000000000000000 →
    Calls Tryz.prog fOpen #[cfgV c a lims.length cap lock, .string ⟨s.toArray⟩] w fun e w' => OpenOut pa w c lims lock s e w'

end Go.Proofs.YtpilmkipbbengaaGreatDoor

/- Where a text is wrong hangs on no later line. -/
namespace Go.Proofs.YtpilmkipbbengaaGreatDoor
open Go.Lib

/-- so many whole lines -/
def JLines : Nat → List UInt8 → Prop
  | 0, u => u = []
  | n + 1, u => ∃ l u', (10 : UInt8) ∉ l ∧ u = l ++ 10 :: u' ∧ JLines n u'

theorem jread_line (nch : Int) (last : Ds) {l : List UInt8} (r : List UInt8) (h : (10 : UInt8) ∉ l) : jread nch last (l ++ 10 :: r) = match jnow last.tick l with
    | some m => if r = [] then .ok ([], m) else .error 2
    | none => match jdose nch l with
      | none => .error 1
      | some d => if jfol last d = true then (jread nch d r).push d else .error 1 := by
  rw [jread_eq, jcut_mk r h]
  all_goals first | rfl | (simp only; done) | (simp only; rfl)

theorem jread_more {nch : Int} : ∀ (n : Nat) {u v : List UInt8} {last : Ds}, JLines n u → jread nch last (u ++ v) = .error n → ∀ more, jread nch last (u ++ more) = .error n := by
  intro n
  induction n with
  | zero =>
    intro u v last _ h
    have := jread_bad1 h
    omega
  | succ n ih =>
    rintro u v last ⟨l, u', hl, rfl, hu⟩ h more
    rw [List.append_assoc, List.cons_append, jread_line nch last _ hl] at h ⊢
    cases hm : jnow last.tick l with
    | some m =>
      rw [hm] at h
      simp only at h ⊢
      split at h
      · cases h
      · injection h with h
        obtain rfl : n = 1 := by omega
        obtain ⟨l2, u2, -, rfl, -⟩ := hu
        rw [if_neg (by simp)]
    | none =>
      rw [hm] at h
      simp only at h ⊢
      cases hd : jdose nch l with
      | none => rw [hd] at h; exact h
      | some d =>
        rw [hd] at h
        simp only at h ⊢
        split at h
        · rename_i hf
          rw [if_pos hf]
          cases hj : jread nch d (u' ++ v) with
          | ok p => obtain ⟨a, b⟩ := p; rw [hj] at h; cases h
          | error k =>
            rw [hj] at h
            injection h with h
            obtain rfl : k = n := by omega
            rw [ih hu hj more]
            rfl
        · rename_i hf
          rw [if_neg hf]
          exact h

end Go.Proofs.YtpilmkipbbengaaGreatDoor
