/- dripkeep: opened. -/
import Derived.Test.YtpilmkipbbengaaGreatDoorKcM
import Derived.Test.YtpilmkipbbengaaGreatDoorJaM
namespace Go.Proofs.YtpilmkipbbengaaGreatDoor
open Go.RowKit Go.Lib

theorem opened_text {c : Int} {lims : List Lim} {lock : Int} {ds : List Ds} {now : Int} (hf : fineB c lims lock = true) (h : JOk c ds0 ds now) (hb : jbrk lims [] ds = 0) : opened c lims lock (jtext ds now) = .ok (ropen c.toNat lims lock ds now) := by
  unfold opened
  rw [if_neg (by rw [hf]; simp), jread_text h]
  simp only
  rw [if_pos hb]

theorem decD {n : Nat} (h : n < 10) : decDigits n = [UInt8.ofNat (48 + n)] := by
  rw [decDigits, dif_pos h]

def oTxt : List UInt8 := [49, 32, 48, 32, 52, 10, 50, 32, 48, 32, 49, 10, 51, 32, 48, 32, 52, 10, 61, 32, 53, 10]
theorem jdig_one {n : Nat} (h : n < 10) : jdig (n : Int) = [UInt8.ofNat (48 + n)] := by
  show decDigits (n : Int).toNat = _
  rw [Int.toNat_natCast]
  exact decD h

theorem oTxt_eq : jtext oDs 5 = oTxt := by
  have e0 : jdig 0 = [48] := jdig_one (n := 0) (by omega)
  have e1 : jdig 1 = [49] := jdig_one (n := 1) (by omega)
  have e2 : jdig 2 = [50] := jdig_one (n := 2) (by omega)
  have e3 : jdig 3 = [51] := jdig_one (n := 3) (by omega)
  have e4 : jdig 4 = [52] := jdig_one (n := 4) (by omega)
  have e5 : jdig 5 = [53] := jdig_one (n := 5) (by omega)
  simp [jtext, jline, jlast, oDs, oTxt, e0, e1, e2, e3, e4, e5]

def oP0 : RSt := ropen 1 oLims 0 oDs 5
theorem oJok : JOk 1 ds0 oDs 5 := by
  refine ⟨?_, ?_, by decide, by decide, by decide⟩
  · simp [oDs, ds0, Aft]
  · intro d hd
    simp [oDs] at hd
    rcases hd with rfl | rfl | rfl <;> simp
theorem oBrk : jbrk oLims [] oDs = 0 := by decide +kernel
theorem oOpened : opened 1 oLims 0 oTxt = .ok oP0 := by
  rw [← oTxt_eq]
  exact opened_text oFine oJok oBrk
theorem oPok : oP0.Ok ∧ oP0.Full := ropen_ok (c := 1) oFine oJok
theorem oPe : restsErr oP0 0 true = 3 := by kernel_rfl
theorem oPr : restsR oP0 0 true = oP0 := by simp [restsR, oPe]
theorem oProom : roomV oP0 0 = .tuple #[I 5, I 0] := by kernel_rfl

section
variable {pa : Rep} {tab : World → Prop}

theorem PS.keepOn {w w1 w2 : World} {pb : Nat} {R : RSt} {v : Value} {xs : List Ds} {fN fB fR fO fW : FuncId} (P : Pumpy fN fB fR fO fW pa) (h : PS pa w w1 pb R v xs) (k : Keep w1 w2) : PS pa w w2 pb R v xs := by
  obtain ⟨F, h1, h2, h3⟩ := h.pump
  exact ⟨h.keep.trans k, h.ok, h.full, ⟨F, P.frm h1 k (fun _ _ e => e), h2, h3⟩, row_frm h.row k (fun _ _ e => e)⟩

set_option maxRecDepth 100000 in
set_option maxHeartbeats 1600000 in
theorem kopened_any (P : Pumpy 25 32 46 14 78 pa) (O : Orderly 34 35 47 21 15 pa) (T : Telly 12 13 pa tab) (tk : ∀ {w w' : World}, tab w → Keep w w' → tab w') (w : World) (tb : tab w) :
    Calls Tryz.prog 9 #[] w fun e w' => e = .returned (.bool true) ∧ Keep w w' := by
  have BG : Hid (Calls Tryz.prog 20 #[] w fun e w' => e = .returned (.bool true) ∧ Hid (Keep w w')) := (kordered_any P O w).mono fun e w' q => q
  have OP : Hid (∀ W : World, Hid (Keep w W) → Calls Tryz.prog 13 #[.agg #[I 1, .slice (some ⟨W.heap.size, 0, none⟩) 1 1, I 0], .string ⟨#[49, 32, 48, 32, 52, 10, 50, 32, 48, 32, 49, 10, 51, 32, 48, 32, 52, 10, 61, 32, 53, 10]⟩] (W.alloc (.cells #[I 1, I 2, I 5] 60)) fun e w1 => ∃ pb, e = .returned (.tuple #[.pointer (some ⟨pb, 0, none⟩), I 0, I 0]) ∧ Hid (PS pa W w1 pb oP0 (.slice none 0 0) [])) := by
    intro W k0
    have kW : Keep W (W.alloc (.cells #[I 1, I 2, I 5] 60)) := (Frm.refl _ _).alloc _
    have bx := Blk.new W #[I 1, I 2, I 5] 60
    have hs : SeeL (W.alloc (.cells #[I 1, I 2, I 5] 60)) (some ⟨W.heap.size, 0, none⟩) oLims := by
      refine Or.inr ⟨W.heap.size, 0, rfl, bx.lt, ?_⟩
      intro i l hl
      rw [bx.cell, bx.cell, bx.cell]
      match i, hl with
      | 0, hl => simp [oLims] at hl; subst hl; exact ⟨rfl, rfl, rfl⟩
      | i + 1, hl => simp [oLims] at hl
    refine (T.opens 1 (some ⟨W.heap.size, 0, none⟩) oLims 1 0 oTxt _ (tk tb (k0.out.trans kW)) hs (fun e => by cases e) (by decide) (by decide)).mono ?_
    rintro e w1 ⟨k1, ho⟩
    rw [oOpened] at ho
    obtain ⟨b, F, rfl, hp, hF⟩ := ho
    have sz := kW.size
    exact ⟨b, rfl, kW.trans k1, oPok.1, oPok.2, ⟨F, hp, fun x hx => Nat.le_trans sz (hF x hx), fun x hx => by simp [Value.ownBlock] at hx⟩, World.ownsRow_nil ..⟩
  have B1 : Hid (∀ W w1 pb, PS pa W w1 pb oP0 (.slice none 0 0) [] → Calls Tryz.prog 21 #[.pointer (some ⟨pb, 0, none⟩), I 0] w1 fun e w2 => e = .returned (I 3) ∧ PS pa W w2 pb oP0 (.slice none 0 0) []) :=
    fun W w1 pb h => h.step oPok fun F hF => by have := O.pause 0 w1 F pb oP0 hF h.ok h.full; rw [oPe, oPr] at this; exact this
  have B2 : Hid (∀ W w1 pb, PS pa W w1 pb oP0 (.slice none 0 0) [] → Calls Tryz.prog 14 #[.pointer (some ⟨pb, 0, none⟩), I 0] w1 fun e w2 => e = .returned (.tuple #[I 5, I 0]) ∧ PS pa W w2 pb oP0 (.slice none 0 0) []) :=
    fun W w1 pb h => h.step oPok fun F hF => by have := P.room 0 w1 F pb oP0 hF h.ok h.full; rw [oProom] at this; exact this
  have B3 : Hid (∀ W w1 pb, Hid (Keep w W) → PS pa W w1 pb oP0 (.slice none 0 0) [] → Calls Tryz.prog 12 #[.pointer (some ⟨pb, 0, none⟩)] w1 fun e w2 => e = .returned (.string ⟨#[49, 32, 48, 32, 52, 10, 50, 32, 48, 32, 49, 10, 51, 32, 48, 32, 52, 10, 61, 32, 53, 10]⟩) ∧ Hid (Keep w w2)) := by
    intro W w1 pb k0 h
    obtain ⟨F, h1, h2, h3⟩ := h.pump
    have kk := (k0.out).trans h.keep
    refine (T.tell w1 F pb oP0 (tk tb kk) h1 h.ok h.full).mono ?_
    rintro e w2 ⟨rfl, k2⟩
    have e : jtext oP0.doses oP0.now = oTxt := oTxt_eq
    rw [e]
    exact ⟨rfl, kk.trans k2⟩
  go_enter Tryz.func9, Tryz.ntmps9
  go_wp2_with fail
  refine (BG.out).mono ?_
  rintro e w0 ⟨rfl, K0⟩
  go_wp2_with fail
  refine (OP.out _ K0).mono ?_
  rintro e w1 ⟨pb, rfl, H1⟩
  go_wp2_with fail
  refine (B1.out _ _ _ H1.out).mono ?_
  rintro e w2 ⟨rfl, h2⟩
  have H2 := hide h2
  clear h2 H1
  go_wp2_with fail
  refine (B2.out _ _ _ H2.out).mono ?_
  rintro e w3 ⟨rfl, h3⟩
  have H3 := hide h3
  clear h3 H2
  go_wp2_with fail
  refine (B3.out _ _ _ K0 H3.out).mono ?_
  rintro e w4 ⟨rfl, K4⟩
  go_wp2_with fail
  go_ret
  exact ⟨rfl, K4.out⟩

end

end Go.Proofs.YtpilmkipbbengaaGreatDoor

/- Told: which line of a text is meant. -/
namespace Go.Proofs.YtpilmkipbbengaaGreatDoor
open Go.Lib

theorem count_no {l : List UInt8} (h : (10 : UInt8) ∉ l) : l.count 10 = 0 := List.count_eq_zero.2 h

theorem jlines_count : ∀ (n : Nat) {u : List UInt8}, JLines n u → u.count 10 = n := by
  intro n
  induction n with
  | zero => intro u h; have h : u = [] := h; subst h; rfl
  | succ n ih =>
    rintro u ⟨l, u', hl, rfl, hu⟩
    rw [List.count_append, count_no hl, List.count_cons_self, ih hu]
    omega

theorem jlines_snoc : ∀ (n : Nat) {u l : List UInt8}, JLines n u → (10 : UInt8) ∉ l → JLines (n + 1) (u ++ (l ++ [10])) := by
  intro n
  induction n with
  | zero =>
    intro u l h hl
    have h : u = [] := h
    subst h
    exact ⟨l, [], hl, rfl, rfl⟩
  | succ n ih =>
    rintro u l ⟨a, u', ha, rfl, hu⟩ hl
    exact ⟨a, u' ++ (l ++ [10]), ha, by simp, ih hu hl⟩

theorem jread_count {nch : Int} : ∀ (k : Nat) (s : List UInt8), s.length ≤ k → ∀ last : Ds, match jread nch last s with
    | .ok (ds, _) => ds.length + 1 ≤ s.count 10
    | .error n => n ≤ s.count 10 + 1 := by
  intro k
  induction k with
  | zero =>
    intro s hs last
    have : s = [] := List.eq_nil_of_length_eq_zero (by omega)
    subst this
    rw [jread_eq]
    simp [jcut]
  | succ k ih =>
    intro s hs last
    cases hc : jcut 10 s with
    | none =>
      rw [jread_eq, hc]
      simp
    | some p =>
      obtain ⟨l, r⟩ := p
      obtain ⟨e, hl⟩ := jcut_eq hc
      have hlt := jcut_lt hc
      have hcnt : s.count 10 = r.count 10 + 1 := by
        rw [e, List.count_append, count_no hl, List.count_cons_self]
        omega
      rw [e, jread_line nch last r hl]
      rw [← e, hcnt]
      cases jnow last.tick l with
      | some m =>
        simp only
        split
        · rename_i h
          split at h
          · injection h with h; injection h with h1 h2; subst h1; simp
          · cases h
        · rename_i h
          split at h
          · cases h
          · injection h with h1; omega
      | none =>
        simp only
        cases jdose nch l with
        | none => simp only; omega
        | some d =>
          simp only
          have := ih r (by omega) d
          split
          · rename_i h
            split at h
            · cases hj : jread nch d r with
              | ok p =>
                obtain ⟨a, b⟩ := p
                rw [hj] at h this
                injection h with h
                injection h with h1 h2
                subst h1
                simp only [List.length_cons]
                simp only at this
                omega
              | error n => rw [hj] at h; cases h
            · cases h
          · rename_i h
            split at h
            · cases hj : jread nch d r with
              | ok p => obtain ⟨a, b⟩ := p; rw [hj] at h; cases h
              | error n =>
                rw [hj] at h this
                injection h with h1
                simp only at this
                omega
            · injection h with h1; omega

theorem jbrk_le {lims : List Lim} : ∀ (ds done : List Ds), jbrk lims done ds ≤ done.length + ds.length := by
  intro ds
  induction ds with
  | nil => intro done; simp [jbrk]
  | cons d ds ih =>
    intro done
    rw [jbrk]
    split
    · simp
    · have := ih (done ++ [d])
      simp only [List.length_append, List.length_cons, List.length_nil] at this ⊢
      omega

/-- why a text is refused -/
theorem opened_err {c : Int} {lims : List Lim} {lock : Int} {s : List UInt8} {n x : Int} (hf : fineB c lims lock = true) (h : opened c lims lock s = .error (n, x)) :
    ∃ k : Nat, n = k ∧ 1 ≤ k ∧ k ≤ s.count 10 + 1 ∧ ((x = 5 ∧ jread c ds0 s = .error k) ∨ x = 6) := by
  unfold opened at h
  rw [if_neg (by rw [hf]; simp)] at h
  have hc := jread_count (nch := c) s.length s (Nat.le_refl _) ds0
  split at h
  · rename_i k hj
    injection h with h
    injection h with h1 h2
    rw [hj] at hc
    exact ⟨k, h1.symm, jread_bad1 hj, hc, Or.inl ⟨h2.symm, hj⟩⟩
  · rename_i ds now hj
    split at h
    · cases h
    · rename_i hb
      injection h with h
      injection h with h1 h2
      rw [hj] at hc
      have := jbrk_le (lims := lims) ds []
      simp only [List.length_nil] at this hc
      exact ⟨_, h1.symm, by omega, by omega, Or.inr h2.symm⟩

/-- on the way through the text: line's first byte is at, no line ends from there to i -/
structure JPos (s : List UInt8) (i line at_ : Nat) : Prop where
  le : at_ ≤ i
  len : i ≤ s.length
  one : 1 ≤ line
  head : JLines (line - 1) (s.take at_)
  no : (10 : UInt8) ∉ (s.drop at_).take (i - at_)

theorem JPos.start (s : List UInt8) : JPos s 0 1 0 := ⟨Nat.le_refl _, Nat.zero_le _, Nat.le_refl _, by simp [JLines], by simp⟩

theorem take_drop_succ {s : List UInt8} {i a : Nat} {c : UInt8} (h : s[i]? = some c) (ha : a ≤ i) : (s.drop a).take (i + 1 - a) = (s.drop a).take (i - a) ++ [c] := by
  have e : i + 1 - a = (i - a) + 1 := by omega
  rw [e, List.take_add_one, List.getElem?_drop, show a + (i - a) = i by omega, h]
  rfl

theorem JPos.skip {s : List UInt8} {i line a : Nat} {c : UInt8} (h : JPos s i line a) (hc : s[i]? = some c) (hn : c ≠ 10) : JPos s (i + 1) line a := by
  have hi := (List.getElem?_eq_some_iff.1 hc).1
  have hl := h.le
  refine ⟨by omega, by omega, h.one, h.head, ?_⟩
  rw [take_drop_succ hc hl]
  simp only [List.mem_append, List.mem_singleton, not_or]
  exact ⟨h.no, fun e => hn e.symm⟩

theorem take_add_drop (s : List UInt8) {a i : Nat} (h : a ≤ i) : s.take i = s.take a ++ (s.drop a).take (i - a) := by
  have e : i = a + (i - a) := by omega
  conv => lhs; rw [e, List.take_add]

theorem JPos.line {s : List UInt8} {i line a : Nat} (h : JPos s i line a) (hc : s[i]? = some 10) : JPos s (i + 1) (line + 1) (i + 1) := by
  have hi := (List.getElem?_eq_some_iff.1 hc).1
  have hl := h.le
  have h1 := h.one
  refine ⟨Nat.le_refl _, by omega, by omega, ?_, by simp⟩
  rw [take_add_drop s (show a ≤ i + 1 by omega), take_drop_succ hc hl]
  have := jlines_snoc _ h.head h.no
  rw [show line - 1 + 1 = line + 1 - 1 by omega] at this
  exact this

/-- the text is over: it has so many lines -/
theorem JPos.over {s : List UInt8} {line a : Nat} (h : JPos s s.length line a) : s.count 10 + 1 = line := by
  have h1 := h.one
  have hl := h.le
  have e := take_add_drop s hl
  rw [List.take_length] at e
  rw [e, List.count_append, jlines_count _ h.head, count_no h.no]
  omega

/-- a line that is over -/
theorem JPos.whole {s : List UInt8} {i line a : Nat} (h : JPos s i line a) (hc : s[i]? = some 10) : JLines line (s.take (i + 1)) := by
  have := (h.line hc).head
  exact this

theorem opened_more {c : Int} {lims : List Lim} {lock : Int} {s : List UInt8} {k i a : Nat} (hf : fineB c lims lock = true) (hj : jread c ds0 s = .error k) (h : JPos s i k a) (hc : s[i]? = some 10) (more : List UInt8) : opened c lims lock (s.take (i + 1) ++ more) = .error (k, 5) := by
  have hw := h.whole hc
  have e : s.take (i + 1) ++ s.drop (i + 1) = s := List.take_append_drop _ _
  rw [← e] at hj
  have := jread_more k hw hj more
  unfold opened
  rw [if_neg (by rw [hf]; simp), this]

end Go.Proofs.YtpilmkipbbengaaGreatDoor
