/- Facts of the machine: no limit is ever broken; doses rise; nothing is given on a channel that rests. -/
import Derived.Test.YtpilmkipbbengaaGreatDoorMach2
import Derived.Test.YtpilmkipbbengaaGreatDoorDpure
namespace Go.Proofs.YtpilmkipbbengaaGreatDoor
open Go.RowKit

/-- no limit is broken, in any window -/
def SafeL (ds : List Ds) (lims : List Lim) : Prop := ∀ l ∈ lims, ∀ t : Int, 0 ≤ lft ds l t

/-- one dose stands ahead of another -/
def Aft (d e : Ds) : Prop := d.tick < e.tick ∨ (d.tick = e.tick ∧ d.ch < e.ch)
def Rises (ds : List Ds) : Prop := ds.Pairwise Aft

theorem safe_give {ds : List Ds} {lims : List Lim} {now : Int} {k : Nat} {a : Int} (h : SafeL ds lims) (hw : ∀ l ∈ lims, 1 ≤ l.win) (hok : ∀ d ∈ ds, d.Ok) (hd : ∀ d ∈ ds, d.tick ≤ now) (ha : a ≤ rroom ds lims k now) : SafeL (ds ++ [⟨now, k, a⟩]) lims := by
  intro l hl t
  have h0 := h l hl t
  have hww := hw l hl
  by_cases hc : cnt l.ch (k : Int).toNat = true
  · have hc' : cnt l.ch k = true := by simpa using hc
    have hr := room_le (ds := ds) (t := now) hl hc'
    by_cases ht : t < now
    · unfold lft at h0 ⊢
      rw [gv_out _ _ _ _ _ (by exact ht)]
      exact h0
    · obtain ⟨n, hn⟩ : ∃ n : Nat, t = now + n := ⟨(t - now).toNat, by omega⟩
      by_cases hin : t - l.win + 1 ≤ now
      · have hm := lft_mono (l := l) hok hd 0 n (Nat.zero_le _)
        rw [hn] at hin ⊢
        simp only [Int.natCast_zero, Int.add_zero] at hm
        unfold lft at hm hr ⊢
        rw [gv_in _ _ _ _ _ hc (by exact hin) (by show now ≤ now + (n : Int); omega)]
        show 0 ≤ l.cap - (gv ds l (now + n - l.win + 1) (now + n) + a)
        omega
      · unfold lft at h0 ⊢
        have : gv (ds ++ [⟨now, k, a⟩]) l (t - l.win + 1) t = gv ds l (t - l.win + 1) t := by
          rw [gv_snoc]
          have e : decide (t - l.win + 1 ≤ now) = false := decide_eq_false hin
          simp [gd, e]
        rw [this]; exact h0
  · have hc' : cnt l.ch (k : Int).toNat = false := by simpa using hc
    unfold lft at h0 ⊢
    rw [gv_not _ _ _ _ _ hc']
    exact h0

/-- what a channel's turn adds -/
theorem tk1_ds (k : Nat) (R : RSt) : (tk1 k R).doses = R.doses ∨ ∃ c a, R.chs[k]? = some c ∧ c.rests = false ∧ 0 < a ∧ a ≤ rroom R.doses R.lims k R.now ∧ (tk1 k R).doses = R.doses ++ [⟨R.now, k, a⟩] := by
  unfold tk1
  split
  · exact Or.inl rfl
  · rename_i c hc
    split
    · exact Or.inl rfl
    · rename_i ha
      refine Or.inr ⟨c, amt R k c, hc, ?_, by omega, ?_, rfl⟩
      · cases hr : c.rests with
        | false => rfl
        | true =>
          exfalso
          apply ha
          unfold amt wnt
          rw [if_pos hr]
          split <;> omega
      · unfold amt; split <;> omega

/-- what is true of all that was given -/
structure Told (R : RSt) : Prop where
  safe : SafeL R.doses R.lims
  rise : Rises R.doses
  past : ∀ d ∈ R.doses, d.tick < R.now

structure Mid (R R' : RSt) (j : Nat) : Prop where
  safe : SafeL R'.doses R.lims
  rise : Rises R'.doses
  past : ∀ d ∈ R'.doses, d.tick < R.now ∨ (d.tick = R.now ∧ d.ch < j)
  new : ∀ d ∈ R'.doses.drop R.doses.length, d.tick = R.now ∧ 1 ≤ d.amt ∧ ∃ (k : Nat) (c : RCh), d.ch = k ∧ R.chs[k]? = some c ∧ c.rests = false

theorem tks_told {R : RSt} (ok : R.Ok) (hn : R.now < 400) (hd : R.doses.length ≤ 1996) (h : Told R) : ∀ j, j ≤ 4 → Mid R (tks j R) j := by
  intro j
  induction j with
  | zero =>
    intro _
    exact ⟨h.safe, h.rise, fun d hd => Or.inl (h.past d hd), by simp [tks]⟩
  | succ j ih =>
    intro hj
    have m := ih (by omega)
    obtain ⟨s1, s2, s3, -, -⟩ := tks_same j R
    have okj := tks_ok ok hn hd j (by omega)
    have hpre := tks_pre j R
    show Mid R (tk1 j (tks j R)) (j + 1)
    rcases tk1_ds j (tks j R) with e | ⟨c, a, hc, hr, a0, ha, e⟩
    · refine ⟨by rw [e]; exact m.safe, by rw [e]; exact m.rise, ?_, by rw [e]; exact m.new⟩
      rw [e]
      intro d hd
      rcases m.past d hd with q | q
      · exact Or.inl q
      · exact Or.inr ⟨q.1, by omega⟩
    · rw [s2, s3] at ha
      rw [s1] at hc
      rw [s3] at e
      refine ⟨?_, ?_, ?_, ?_⟩
      · rw [e]
        refine safe_give m.safe (fun l hl => (ok.lims l hl).w0) okj.doses ?_ ha
        intro d hd
        rcases m.past d hd with q | q <;> omega
      · rw [e]
        unfold Rises
        rw [List.pairwise_append]
        refine ⟨m.rise, by simp, ?_⟩
        intro d hd x hx
        simp at hx; subst hx
        rcases m.past d hd with q | q
        · exact Or.inl q
        · exact Or.inr q
      · rw [e]
        intro d hd
        rcases List.mem_append.1 hd with q | q
        · rcases m.past d q with q | q
          · exact Or.inl q
          · exact Or.inr ⟨q.1, by omega⟩
        · simp at q; subst q
          exact Or.inr ⟨rfl, by show (j : Int) < ((j + 1 : Nat) : Int); omega⟩
      · rw [e, List.drop_append_of_le_length hpre.length_le]
        intro d hd
        rcases List.mem_append.1 hd with q | q
        · exact m.new d q
        · simp at q; subst q
          exact ⟨rfl, by show 1 ≤ a; omega, j, c, rfl, hc, hr⟩

theorem rtick_told {R : RSt} (ok : R.Ok) (full : R.Full) (hn : R.now < 400) (h : Told R) : Told (rtick R) ∧ ∀ d ∈ (rtick R).doses.drop R.doses.length, d.tick = R.now ∧ 1 ≤ d.amt ∧ ∃ (k : Nat) (c : RCh), d.ch = k ∧ R.chs[k]? = some c ∧ c.rests = false := by
  have hd : R.doses.length ≤ 1996 := by
    have : (R.doses.length : Int) ≤ 4 * R.now := full.1
    omega
  have m := tks_told ok hn hd h R.chs.length ok.nc1
  refine ⟨⟨?_, m.rise, ?_⟩, m.new⟩
  · rw [(rtick_same R).2.1]; exact m.safe
  · intro d hd
    have hd : d ∈ (tks R.chs.length R).doses := hd
    show d.tick < R.now + 1
    rcases m.past d hd with q | q <;> omega

theorem rticks_told {R : RSt} (ok : R.Ok) (full : R.Full) (h : Told R) : ∀ n : Nat, R.now + n ≤ 400 → Told (rticks n R) ∧ ∀ d ∈ (rticks n R).doses.drop R.doses.length, R.now ≤ d.tick ∧ d.tick < R.now + n ∧ 1 ≤ d.amt ∧ ∃ (k : Nat) (c : RCh), d.ch = k ∧ R.chs[k]? = some c ∧ c.rests = false := by
  intro n
  induction n with
  | zero => intro _; exact ⟨h, by simp [rticks]⟩
  | succ n ih =>
    intro hn
    obtain ⟨h1, h2⟩ := ih (by omega)
    obtain ⟨okn, fulln⟩ := rticks_ok ok full n (by omega)
    obtain ⟨s1, s2, s3, -, -⟩ := rticks_same n R
    obtain ⟨h3, h4⟩ := rtick_told okn fulln (by omega) h1
    refine ⟨h3, ?_⟩
    intro d hd
    have hd : d ∈ (rtick (rticks n R)).doses.drop R.doses.length := hd
    rw [drop_drop_pre (rticks_pre n R) (rtick_pre _)] at hd
    rcases List.mem_append.1 hd with q | q
    · obtain ⟨q1, q2, q3⟩ := h2 d q
      exact ⟨q1, by omega, q3⟩
    · obtain ⟨q1, q2, k, c, q3, q4, q5⟩ := h4 d q
      rw [s1] at q4
      exact ⟨by omega, by omega, q2, k, c, q3, q4, q5⟩

theorem Rises.drop {ds : List Ds} (h : Rises ds) (n : Nat) : Rises (ds.drop n) := List.Pairwise.sublist (List.drop_sublist n ds) h

theorem Rises.next {ds : List Ds} (h : Rises ds) {i : Nat} {d e : Ds} (hd : ds[i]? = some d) (he : ds[i + 1]? = some e) : Aft d e := by
  obtain ⟨l1, v1⟩ := List.getElem?_eq_some_iff.1 hd
  obtain ⟨l2, v2⟩ := List.getElem?_eq_some_iff.1 he
  have := List.pairwise_iff_getElem.1 h i (i + 1) l1 l2 (by omega)
  rw [v1, v2] at this; exact this

theorem told_new (c : Nat) (lims : List Lim) (lock : Int) (h : ∀ l ∈ lims, 0 ≤ l.cap) : Told (rnew c lims lock) := by
  refine ⟨?_, by simp [rnew, Rises], by simp [rnew]⟩
  intro l hl t
  have := h l hl
  simp [rnew, lft, gv]
  exact this

/-- what turns no dose and no tick -/
theorem Told.same {R R' : RSt} (h : Told R) (h1 : R'.doses = R.doses) (h2 : R'.lims = R.lims) (h3 : R'.now = R.now) : Told R' :=
  ⟨by rw [h1, h2]; exact h.safe, by rw [h1]; exact h.rise, by rw [h1, h3]; exact h.past⟩

end Go.Proofs.YtpilmkipbbengaaGreatDoor
