/- container/heap over the entries. -/
import Derived.Test.YtpilmkipbbengaaGreatDoorHpPure
namespace Go.Proofs.YtpilmkipbbengaaGreatDoor
open Go.RowKit

/-- the heap's value: an interface that holds a pointer to the entries' slice -/
abbrev hv (hb ho : Nat) : Value := .iface 160 (ptr hb ho)

theorem run_wrapNil {P : Program} (ts : Array TypeId) (t : TypeId) (a : Addr) (s m : String) (w : World) : (Builtin.ssaWrapNilChk_ ts t #[.pointer (some a), strVal s, strVal m]).run P w = .ok (.pointer (some a)) w := rfl
theorem method_deref {P : Program} {fuel : Nat} {T E : TypeId} {name : String} {f : FuncId} {i : TypeInfo} {m : Method} (hi : P.info? T = some i) (hm : i.methods.find? (·.name == name) = some m)
   (hp : m.path = #[]) (hf : m.func = some (f, false)) (hu : P.underlying T = some (.pointer E)) (w : World) (a : Addr) (v : Value) (hg : ∀ w, (isAgg E).run P w = .ok false w) (hc : w.cell? a = some v) :
   (method (fuel + 1) T (.pointer (some a)) name).run P w = .ok (f, v) w := by
  simp [method, typeInfo, hi, hm, hp, hf, follow, receiverAt, run_underlying hu, Place.get, run_wrapNil, asAddr, hg, hc, go_sem]

theorem meth {n : Nat} (name : String) (f : FuncId) (hm : ((Tryz.prog.info? 160).bind fun i => (i.methods.find? (·.name == name)).map fun m => (m.path.size, m.func)) = some (0, some (f, false)))
    (hb ho : Nat) (w : World) (v : Value) (hc : w.cell? ⟨hb, ho, none⟩ = some v) : (method (n + 1) 160 (ptr hb ho) name).run Tryz.prog w = .ok (f, v) w := by
  cases hi : Tryz.prog.info? 160 with
  | none => rw [hi] at hm; cases hm
  | some i =>
    rw [hi] at hm
    cases hf : i.methods.find? (·.name == name) with
    | none => simp [hf] at hm
    | some m =>
      simp [hf] at hm
      exact method_deref hi hf (by simpa using hm.1) hm.2 Tryz.underlying160 w _ v (fun _ => by kernel_rfl) hc

theorem meth_less (hb ho : Nat) (w : World) (v : Value) (hc : w.cell? ⟨hb, ho, none⟩ = some v) : (method 326 160 (ptr hb ho) "Less").run Tryz.prog w = .ok (174, v) w :=
  meth "Less" 174 (by kernel_rfl) hb ho w v hc
theorem meth_swap (hb ho : Nat) (w : World) (v : Value) (hc : w.cell? ⟨hb, ho, none⟩ = some v) : (method 326 160 (ptr hb ho) "Swap").run Tryz.prog w = .ok (175, v) w :=
  meth "Swap" 175 (by kernel_rfl) hb ho w v hc
theorem meth_len (hb ho : Nat) (w : World) (v : Value) (hc : w.cell? ⟨hb, ho, none⟩ = some v) : (method 326 160 (ptr hb ho) "Len").run Tryz.prog w = .ok (173, v) w :=
  meth "Len" 173 (by kernel_rfl) hb ho w v hc
theorem meth_push (hb ho : Nat) (w : World) : (method 326 160 (ptr hb ho) "Push").run Tryz.prog w = .ok (179, ptr hb ho) w := by kernel_rfl
theorem meth_pop (hb ho : Nat) (w : World) : (method 326 160 (ptr hb ho) "Pop").run Tryz.prog w = .ok (178, ptr hb ho) w := by kernel_rfl

/-- Less and Swap by places, as ints -/
theorem less_at (eb cap : Nat) (sp : List Value) (es : List Ent) (i j : Int) (w : World) (h : EsAt w eb sp es) (i0 : 0 ≤ i) (j0 : 0 ≤ j) (hi : i.toNat < es.length) (hj : j.toNat < es.length) :
    Calls Tryz.prog 174 #[.slice (some ⟨eb, 0, none⟩) es.length cap, I i, I j] w fun e w' => e = .returned (.bool (lt (ix es i.toNat) (ix es j.toNat))) ∧ ∃ m, w' = w.drewN m := by
  obtain ⟨i, rfl⟩ := Int.eq_ofNat_of_zero_le i0
  obtain ⟨j, rfl⟩ := Int.eq_ofNat_of_zero_le j0
  simp only [Int.toNat_natCast] at hi hj ⊢
  exact less_any eb cap _ sp es i j _ _ w h (ix_some hi) (ix_some hj) rfl
theorem swap_at (eb cap : Nat) (sp : List Value) (es : List Ent) (i j : Int) (w : World) (h : EsAt w eb sp es) (i0 : 0 ≤ i) (j0 : 0 ≤ j) (hi : i.toNat < es.length) (hj : j.toNat < es.length) :
    Calls Tryz.prog 175 #[.slice (some ⟨eb, 0, none⟩) es.length cap, I i, I j] w fun e w' => e = .returned (.tuple #[]) ∧ Frm (EsF eb es) w w' ∧ EsAt w' eb sp (sw es i.toNat j.toNat) :=
  swap_any eb cap _ sp es i j _ _ w h i0 j0 (ix_some hi) (ix_some hj) rfl

theorem EsAt.drewN {w : World} {eb : Nat} {sp : List Value} {es : List Ent} (h : EsAt w eb sp es) (n : Nat) : EsAt (w.drewN n) eb sp es := ⟨h.arr, h.ent, h.nodup, h.out⟩
theorem EsF_perm {eb : Nat} {es es' : List Ent} (h : es'.Perm es) (k : Nat) : EsF eb es' k ↔ EsF eb es k := by
  unfold EsF
  constructor
  · rintro (h1 | ⟨e, he, rfl⟩)
    · exact Or.inl h1
    · exact Or.inr ⟨e, h.mem_iff.1 he, rfl⟩
  · rintro (h1 | ⟨e, he, rfl⟩)
    · exact Or.inl h1
    · exact Or.inr ⟨e, h.mem_iff.2 he, rfl⟩

/-- the state of a heap's walk -/
structure HSt (w wr : World) (hb ho eb cap N : Nat) (sp : List Value) (es es' : List Ent) : Prop where
  lie : EsAt wr eb sp es'
  perm : es'.Perm es
  far : ∀ k, N ≤ k → ix es' k = ix es k
  frm : Frm (EsF eb es) w wr
  head : wr.cell? ⟨hb, ho, none⟩ = some (.slice (some ⟨eb, 0, none⟩) es'.length cap)

theorem HSt.drewN {w wr : World} {hb ho eb cap N : Nat} {sp : List Value} {es es' : List Ent} (h : HSt w wr hb ho eb cap N sp es es') (n : Nat) : HSt w (wr.drewN n) hb ho eb cap N sp es es' :=
  ⟨h.lie.drewN n, h.perm, h.far, h.frm.drewN n, h.head⟩
theorem HSt.sw {w wr w2 : World} {hb ho eb cap N : Nat} {sp : List Value} {es es' : List Ent} (h : HSt w wr hb ho eb cap N sp es es') (hh : ¬ EsF eb es hb) {i j : Nat} (hi : i < N) (hj : j < N) (hN : N ≤ es'.length)
    (f : Frm (EsF eb es') wr w2) (l : EsAt w2 eb sp (sw es' i j)) : HSt w w2 hb ho eb cap N sp es (sw es' i j) := by
  refine ⟨l, (sw_perm es' i j (by omega) (by omega)).trans h.perm, fun k hk => ?_, h.frm.trans (f.mono fun k _ hk => (EsF_perm h.perm k).1 hk), ?_⟩
  · rw [sw_ix es' i j (by omega) (by omega), if_neg (by omega), if_neg (by omega)]; exact h.far k hk
  · rw [sw_len]; exact f.cell h.head fun hk => hh ((EsF_perm h.perm hb).1 hk)

set_option maxRecDepth 100000 in
set_option maxHeartbeats 1600000 in
theorem up_any (hb ho eb cap N : Nat) (sp : List Value) (es es0 : List Ent) (j : Int) (w w0 : World) (h : HSt w0 w hb ho eb cap N sp es0 es) (hh : ¬ EsF eb es0 hb)
    (j0 : 0 ≤ j) (hu : UpInv N es j.toNat) (hN : N ≤ es.length) (hj : j.toNat < N) (hn2 : es.length ≤ 1000000) :
    Calls Tryz.prog 122 #[hv hb ho, I j] w fun e w' => e = .returned (.tuple #[]) ∧ ∃ es', HSt w0 w' hb ho eb cap N sp es0 es' ∧ HeapN N es' := by
  obtain ⟨j, rfl⟩ := Int.eq_ofNat_of_zero_le j0
  simp only [Int.toNat_natCast] at hu hj
  have hjN : j < 1000000 := by omega
  have hlen : es.length = es0.length := h.perm.length_eq
  rw [hlen] at hN hn2
  have H := hide (And.intro h (And.intro hu hh))
  have HL := hide (And.intro hj (And.intro hN (And.intro hn2 hlen)))
  clear h hu hh hj hN hn2 hlen
  go_enter Tryz.func122, Tryz.ntmps122
  go_wp2
  go_loopw [1, 4] (fun jj _ wr => ∃ (j : Nat) (es' : List Ent), jj = I j ∧ j < 1000000 ∧ j < N ∧ HSt w0 wr hb ho eb cap N sp es0 es' ∧ UpInv N es' j) (fun i _ _ => (intOf i).toNat)
  case atStart => exact ⟨j, es, rfl, hjN, (HL.out).1, (H.out).1, (H.out).2.1⟩
  case round =>
    obtain ⟨j, es', rfl, hjb, hj, hst, hu⟩ := hrel
    have HH : Hid (HSt w0 wr hb ho eb cap N sp es0 es' ∧ UpInv N es' j ∧ j < N) := hide ⟨hst, hu, hj⟩
    have hl : es'.length = es0.length := hst.perm.length_eq
    obtain ⟨-, hN, hn2, -⟩ := HL.out
    rw [← hl] at hN hn2
    by_cases h0 : j = 0
    · subst h0
      clear hst hu hl hj hN hn2
      go_wp2
      go_end0
      exact ⟨rfl, es', (HH.out).1, (HH.out).2.1.heap (Or.inl rfl)⟩
    · have hx : (((j : Int) - 1) / 2 == (j : Int)) = false := by simp; omega
      have m1 := meth_less hb ho wr _ hst.head
      have m2 := fun n => meth_swap hb ho (wr.drewN n) _ hst.head
      have cl := less_at eb cap sp es' (j : Int) (((j : Int) - 1) / 2) wr hst.lie (by omega) (by omega) (by omega) (by omega)
      have cs := fun n => swap_at eb cap sp es' (((j : Int) - 1) / 2) (j : Int) (wr.drewN n) (hst.lie.drewN n) (by omega) (by omega) (by omega) (by omega)
      have e1 : (((j : Int) - 1) / 2).toNat = (j - 1) / 2 := by omega
      simp only [e1, Int.toNat_natCast] at cl cs
      have CL := hide cl
      have CS := hide cs
      have LL := hide (And.intro hl (And.intro hN hn2))
      have E1 := hide e1
      clear cl cs e1 hl hN hn2 hst hu hj
      by_cases hlt : lt (ix es' j) (ix es' ((j - 1) / 2)) = true
      · go_wp2_with (first | (go_at_call 174; refine (CL.out).mono ?_; rintro e w' ⟨rfl, n, rfl⟩) | (go_at_call 175; refine (CS.out _).mono ?_; rintro e w' ⟨rfl, hf, hs⟩))
        obtain ⟨hst, hu, hj⟩ := HH.out
        obtain ⟨hl, hN, hn2⟩ := LL.out
        have hi : (j - 1) / 2 < j := by omega
        refine ⟨⟨(j - 1) / 2, sw es' ((j - 1) / 2) j, ?_, by omega, by omega, ?_, ?_⟩, ?_⟩
        · have : ((j : Int) - 1) / 2 = (((j - 1) / 2 : Nat) : Int) := by omega
          rw [this]
        · exact (hst.drewN n).sw (H.out).2.2 (by omega) hj hN hf hs
        · exact hu.step hN hj (by omega) rfl ((lt_iff _ _).1 hlt)
        · simp [intOf]; omega
      · have hlf : lt (ix es' j) (ix es' ((j - 1) / 2)) = false := by simpa using hlt
        clear hlt
        go_wp2_with (first | (go_at_call 174; refine (CL.out).mono ?_; rintro e w' ⟨rfl, n, rfl⟩))
        go_end0
        obtain ⟨hst, hu, hj⟩ := HH.out
        refine ⟨rfl, es', hst.drewN n, hu.heap (Or.inr ?_)⟩
        have := mt (lt_iff (ix es' j) (ix es' ((j - 1) / 2))).2
        rw [hlf] at this
        exact Classical.not_not.1 fun hc => this (by simp) hc

theorem not_lt_le {a b : Ent} (h : lt a b = false) : le b a := by
  have := mt (lt_iff a b).2
  rw [h] at this
  exact Classical.not_not.1 fun hc => this (by simp) hc

def DnEnd (w0 : World) (hb ho eb cap N : Nat) (sp : List Value) (es0 : List Ent) (i : Nat) (e : Ending) (w' : World) : Prop :=
  ∃ r, e = .returned (.bool r) ∧ ∃ es', HSt w0 w' hb ho eb cap N sp es0 es' ∧ (r = true → HeapN N es') ∧ (r = false → UpInv N es' i)

set_option maxRecDepth 100000 in
set_option maxHeartbeats 1600000 in
theorem down_any (hb ho eb cap N : Nat) (sp : List Value) (es es0 : List Ent) (i : Int) (n : Int) (w w0 : World) (h : HSt w0 w hb ho eb cap N sp es0 es) (hh : ¬ EsF eb es0 hb)
    (i0 : 0 ≤ i) (hnN : n = N) (hu : DnInv N es i.toNat i.toNat) (hN : N ≤ es.length) (hi : i.toNat < 1000000) (hn2 : es.length ≤ 1000000) :
    Calls Tryz.prog 121 #[hv hb ho, I i, I n] w fun e w' => DnEnd w0 hb ho eb cap N sp es0 i.toNat e w' := by
  subst hnN
  obtain ⟨i, rfl⟩ := Int.eq_ofNat_of_zero_le i0
  simp only [Int.toNat_natCast] at hu hi ⊢
  have hiN : i < 1000000 := hi
  have hlen : es.length = es0.length := h.perm.length_eq
  rw [hlen] at hN hn2
  have hNb : N ≤ 1000000 := by omega
  have H := hide (And.intro h (And.intro hu hh))
  have HL := hide (And.intro hi (And.intro hN (And.intro hn2 hlen)))
  clear h hu hh hi hN hn2 hlen
  go_enter Tryz.func121, Tryz.ntmps121
  go_wp2
  go_loopw [7, 8, 9, 10] (fun ii _ _ _ wr => ∃ (k : Nat) (es' : List Ent), ii = I k ∧ k < 1000000 ∧ i ≤ k ∧ HSt w0 wr hb ho eb cap N sp es0 es' ∧ DnInv N es' i k) (fun ii _ _ _ _ => N - (intOf ii).toNat)
  case atStart => exact ⟨i, es, rfl, hiN, by omega, (H.out).1, (H.out).2.1⟩
  case round =>
    obtain ⟨k, es', rfl, hkb, hik, hst, hu⟩ := hrel
    have HH : Hid (HSt w0 wr hb ho eb cap N sp es0 es' ∧ DnInv N es' i k ∧ i ≤ k) := hide ⟨hst, hu, hik⟩
    have hl : es'.length = es0.length := hst.perm.length_eq
    obtain ⟨-, hN, hn2, -⟩ := HL.out
    rw [← hl] at hN hn2
    have fin : ∀ (m : Nat), (∀ q, 0 < q → q < N → (q - 1) / 2 = k → le (ix es' k) (ix es' q)) → DnEnd w0 hb ho eb cap N sp es0 i (.returned (.bool (decide (i < k)))) (wr.drewN m) := by
      intro m hc
      have hs := hu.stop hc
      refine ⟨_, rfl, es', hst.drewN m, fun e => hs.2 ?_, fun e => hs.1 ?_⟩
      · simp at e; omega
      · simp at e; omega
    have FIN := hide fin
    clear fin
    by_cases h1 : 2 * k + 1 < N
    · have m1 := meth_less hb ho wr _ hst.head
      have m1' := fun n => meth_less hb ho (wr.drewN n) _ hst.head
      have m2 := fun n => meth_swap hb ho (wr.drewN n) _ hst.head
      have LL := hide (And.intro hl (And.intro hN hn2))
      have c0 := fun (a b : Int) (a0 : 0 ≤ a) (b0 : 0 ≤ b) (ha : a.toNat < N) (hb' : b.toNat < N) => less_at eb cap sp es' a b wr hst.lie a0 b0 (by omega) (by omega)
      have c1 := fun (a b : Int) (a0 : 0 ≤ a) (b0 : 0 ≤ b) (ha : a.toNat < N) (hb' : b.toNat < N) n => less_at eb cap sp es' a b (wr.drewN n) (hst.lie.drewN n) a0 b0 (by omega) (by omega)
      have c2 := fun (a b : Int) (a0 : 0 ≤ a) (b0 : 0 ≤ b) (ha : a.toNat < N) (hb' : b.toNat < N) n => swap_at eb cap sp es' a b (wr.drewN n) (hst.lie.drewN n) a0 b0 (by omega) (by omega)
      have C0 := hide c0
      have C1 := hide c1
      have C2 := hide c2
      have step : ∀ (j n : Nat) (w' : World), j < N → 0 < j → (j - 1) / 2 = k → lt (ix es' j) (ix es' k) = true → (∀ q, 0 < q → q < N → (q - 1) / 2 = k → le (ix es' j) (ix es' q)) →
          Frm (EsF eb es') (wr.drewN n) w' → EsAt w' eb sp (sw es' k j) → ∃ es'' : List Ent, HSt w0 w' hb ho eb cap N sp es0 es'' ∧ DnInv N es'' i j := by
        intro j n w' hj hj0 hjk hlt hmin hf hs
        exact ⟨_, (hst.drewN n).sw (H.out).2.2 (by omega) hj hN hf hs, hu.step hN hj hj0 hik hjk ((lt_iff _ _).1 hlt) hmin⟩
      have STEP := hide step
      clear c0 c1 c2 step hl hN hn2 hst hu
      have e1 : (2 * (k : Int) + 1).toNat = 2 * k + 1 := by omega
      have e2 : (2 * (k : Int) + 1 + 1).toNat = 2 * k + 2 := by omega
      have kids : ∀ q, 0 < q → (q - 1) / 2 = k → q = 2 * k + 1 ∨ q = 2 * k + 2 := fun q _ _ => by omega
      have KIDS := hide kids
      clear kids
      by_cases h2 : 2 * k + 2 < N
      · by_cases l1 : lt (ix es' (2 * k + 2)) (ix es' (2 * k + 1)) = true
        · have q1 : le (ix es' (2 * k + 2)) (ix es' (2 * k + 1)) := le_of_not ((lt_iff _ _).1 l1)
          have Q1 := hide q1
          clear q1
          by_cases l2 : lt (ix es' (2 * k + 2)) (ix es' k) = true
          · go_wp2_with fail
            refine (C0.out (2 * (k : Int) + 1 + 1) (2 * (k : Int) + 1) (by omega) (by omega) (by omega) (by omega)).mono ?_
            rw [e1, e2, l1]; rintro e w' ⟨rfl, n, rfl⟩
            go_wp2_with fail
            refine (C1.out (2 * (k : Int) + 1 + 1) (k : Int) (by omega) (by omega) (by omega) (by omega) _).mono ?_
            rw [e2, Int.toNat_natCast, l2]; rintro e w' ⟨rfl, n2, rfl⟩
            go_wp2_with fail
            refine (C2.out (k : Int) (2 * (k : Int) + 1 + 1) (by omega) (by omega) (by omega) (by omega) _).mono ?_
            rw [e2, Int.toNat_natCast]; rintro e w' ⟨rfl, hf, hs⟩
            go_wp2_with fail
            obtain ⟨es'', hst2, hu2⟩ := STEP.out (2 * k + 2) _ _ (by omega) (by omega) (by omega) l2 (fun q q0 _ qk => by rcases KIDS.out q q0 qk with rfl | rfl; exact Q1.out; exact le_refl _) hf hs
            obtain ⟨-, -, hik⟩ := HH.out
            exact ⟨⟨2 * k + 2, es'', by go_num, by omega, by omega, hst2, hu2⟩, by simp [intOf]; omega⟩
          · have l2 : lt (ix es' (2 * k + 2)) (ix es' k) = false := by simpa using l2
            go_wp2_with fail
            refine (C0.out (2 * (k : Int) + 1 + 1) (2 * (k : Int) + 1) (by omega) (by omega) (by omega) (by omega)).mono ?_
            rw [e1, e2, l1]; rintro e w' ⟨rfl, n, rfl⟩
            go_wp2_with fail
            refine (C1.out (2 * (k : Int) + 1 + 1) (k : Int) (by omega) (by omega) (by omega) (by omega) _).mono ?_
            rw [e2, Int.toNat_natCast, l2]; rintro e w' ⟨rfl, n2, rfl⟩
            go_wp2_with fail
            go_ret
            exact FIN.out _ (fun q q0 _ qk => by rcases KIDS.out q q0 qk with rfl | rfl; exact le_trans (not_lt_le l2) Q1.out; exact not_lt_le l2)
        · have l1 : lt (ix es' (2 * k + 2)) (ix es' (2 * k + 1)) = false := by simpa using l1
          have q1 : le (ix es' (2 * k + 1)) (ix es' (2 * k + 2)) := not_lt_le l1
          have Q1 := hide q1
          clear q1
          by_cases l2 : lt (ix es' (2 * k + 1)) (ix es' k) = true
          · go_wp2_with fail
            refine (C0.out (2 * (k : Int) + 1 + 1) (2 * (k : Int) + 1) (by omega) (by omega) (by omega) (by omega)).mono ?_
            rw [e1, e2, l1]; rintro e w' ⟨rfl, n, rfl⟩
            go_wp2_with fail
            refine (C1.out (2 * (k : Int) + 1) (k : Int) (by omega) (by omega) (by omega) (by omega) _).mono ?_
            rw [e1, Int.toNat_natCast, l2]; rintro e w' ⟨rfl, n2, rfl⟩
            go_wp2_with fail
            refine (C2.out (k : Int) (2 * (k : Int) + 1) (by omega) (by omega) (by omega) (by omega) _).mono ?_
            rw [e1, Int.toNat_natCast]; rintro e w' ⟨rfl, hf, hs⟩
            go_wp2_with fail
            obtain ⟨es'', hst2, hu2⟩ := STEP.out (2 * k + 1) _ _ (by omega) (by omega) (by omega) l2 (fun q q0 _ qk => by rcases KIDS.out q q0 qk with rfl | rfl; exact le_refl _; exact Q1.out) hf hs
            obtain ⟨-, -, hik⟩ := HH.out
            exact ⟨⟨2 * k + 1, es'', by go_num, by omega, by omega, hst2, hu2⟩, by simp [intOf]; omega⟩
          · have l2 : lt (ix es' (2 * k + 1)) (ix es' k) = false := by simpa using l2
            go_wp2_with fail
            refine (C0.out (2 * (k : Int) + 1 + 1) (2 * (k : Int) + 1) (by omega) (by omega) (by omega) (by omega)).mono ?_
            rw [e1, e2, l1]; rintro e w' ⟨rfl, n, rfl⟩
            go_wp2_with fail
            refine (C1.out (2 * (k : Int) + 1) (k : Int) (by omega) (by omega) (by omega) (by omega) _).mono ?_
            rw [e1, Int.toNat_natCast, l2]; rintro e w' ⟨rfl, n2, rfl⟩
            go_wp2_with fail
            go_ret
            exact FIN.out _ (fun q q0 _ qk => by rcases KIDS.out q q0 qk with rfl | rfl; exact not_lt_le l2; exact le_trans (not_lt_le l2) Q1.out)
      · by_cases l2 : lt (ix es' (2 * k + 1)) (ix es' k) = true
        · go_wp2_with fail
          refine (C0.out (2 * (k : Int) + 1) (k : Int) (by omega) (by omega) (by omega) (by omega)).mono ?_
          rw [e1, Int.toNat_natCast, l2]; rintro e w' ⟨rfl, n2, rfl⟩
          go_wp2_with fail
          refine (C2.out (k : Int) (2 * (k : Int) + 1) (by omega) (by omega) (by omega) (by omega) _).mono ?_
          rw [e1, Int.toNat_natCast]; rintro e w' ⟨rfl, hf, hs⟩
          go_wp2_with fail
          obtain ⟨es'', hst2, hu2⟩ := STEP.out (2 * k + 1) _ _ (by omega) (by omega) (by omega) l2 (fun q q0 qN qk => by rcases KIDS.out q q0 qk with rfl | rfl; exact le_refl _; omega) hf hs
          obtain ⟨-, -, hik⟩ := HH.out
          exact ⟨⟨2 * k + 1, es'', by go_num, by omega, by omega, hst2, hu2⟩, by simp [intOf]; omega⟩
        · have l2 : lt (ix es' (2 * k + 1)) (ix es' k) = false := by simpa using l2
          go_wp2_with fail
          refine (C0.out (2 * (k : Int) + 1) (k : Int) (by omega) (by omega) (by omega) (by omega)).mono ?_
          rw [e1, Int.toNat_natCast, l2]; rintro e w' ⟨rfl, n2, rfl⟩
          go_wp2_with fail
          go_ret
          exact FIN.out _ (fun q q0 qN qk => by rcases KIDS.out q q0 qk with rfl | rfl; exact not_lt_le l2; omega)
    · clear hl hN hn2 hst hu
      go_wp2
      go_ret
      exact FIN.out 0 (fun q _ _ _ => by omega)

end Go.Proofs.YtpilmkipbbengaaGreatDoor
