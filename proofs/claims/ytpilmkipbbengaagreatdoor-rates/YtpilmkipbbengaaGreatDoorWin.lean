/- The package window. -/
import Derived.Test.YtpilmkipbbengaaGreatDoorBase
namespace Go.Proofs.YtpilmkipbbengaaGreatDoor
open Go.RowKit

set_option maxHeartbeats 400000 in
theorem within_any (n a b : Int) (w : World) :
    Calls Tryz.prog 60 #[I n, I a, I b] w fun e w' => e = .returned (.bool (decide (a ≤ n) && decide (n ≤ b))) ∧ w' = w := by
  by_cases h1 : a ≤ n
  · have e : (decide (a ≤ n) && decide (n ≤ b)) = decide (n ≤ b) := by simp [h1]
    rw [e]; clear e
    go_enter Tryz.func60, Tryz.ntmps60
    go_wp2
    go_ret
    exact ⟨rfl, rfl⟩
  · have e : (decide (a ≤ n) && decide (n ≤ b)) = false := by simp [h1]
    rw [e]; clear e
    go_enter Tryz.func60, Tryz.ntmps60
    go_wp2
    go_ret
    exact ⟨rfl, rfl⟩

/-- a window: its limit, its ring, where the next tick stands, the sum -/
structure Win where
  ch : Int
  win : Int
  cap : Int
  ring : List Int
  pos : Nat
  sum : Int

def winCells (W : Win) (rb : Nat) : Array Value := #[I W.ch, I W.win, I W.cap, .slice (some ⟨rb, 0, none⟩) W.ring.length W.ring.length, I W.pos, I W.sum]
def intCells (l : List Int) : Array Value := (l.map I).toArray

structure WinAt (w : World) (b rb : Nat) (W : Win) : Prop where
  own : Blk w b (winCells W rb) 153
  ring : Blk w rb (intCells W.ring) 3
  ne : b ≠ rb

/-- what a window may hold -/
structure Win.Ok (W : Win) : Prop where
  ch0 : 0 ≤ W.ch
  ch1 : W.ch ≤ 15
  cap0 : 0 ≤ W.cap
  cap1 : W.cap ≤ 100000
  sum0 : 0 ≤ W.sum
  sum1 : W.sum ≤ W.cap
  len1 : W.ring.length ≤ 100
  pos : W.pos < W.ring.length
  ring0 : ∀ x ∈ W.ring, 0 ≤ x
  total : W.ring.sum = W.sum

theorem mem_le_sum {l : List Int} (h : ∀ x ∈ l, 0 ≤ x) : ∀ x ∈ l, x ≤ l.sum := by
  induction l with
  | nil => intro x hx; cases hx
  | cons a l ih =>
    intro x hx
    have h0 : 0 ≤ l.sum := by
      clear ih hx
      induction l with
      | nil => simp
      | cons b l ih2 => simp only [List.sum_cons]; have := h b (by simp); have := ih2 (fun x hx => h x (by simp at hx ⊢; rcases hx with rfl | hx <;> simp_all)); omega
    have ha := h a (by simp)
    simp only [List.sum_cons]
    rcases List.mem_cons.1 hx with rfl | hx
    · omega
    · have := ih (fun x hx => h x (List.mem_cons_of_mem _ hx)) x hx; omega

theorem sum_nonneg {l : List Int} (h : ∀ x ∈ l, 0 ≤ x) : 0 ≤ l.sum := by
  induction l with
  | nil => simp
  | cons a l ih => simp only [List.sum_cons]; have := h a (by simp); have := ih fun x hx => h x (List.mem_cons_of_mem _ hx); omega

theorem Win.Ok.le {W : Win} (o : W.Ok) {i : Nat} {v : Int} (h : W.ring[i]? = some v) : 0 ≤ v ∧ v ≤ W.sum := by
  have hm := List.mem_of_getElem? h
  exact ⟨o.ring0 _ hm, o.total ▸ mem_le_sum o.ring0 _ hm⟩

theorem Win.Ok.some {W : Win} (_o : W.Ok) {i : Nat} (h : i < W.ring.length) : ∃ v, W.ring[i]? = .some v := ⟨_, List.getElem?_eq_getElem h⟩

theorem intCells_at {l : List Int} {i : Nat} {v : Int} (h : l[i]? = some v) : (intCells l)[i]? = some (I v) := by
  simp [intCells, h]

def cnt (ch : Int) (k : Nat) : Bool := ch / 2 ^ k % 2 == 1

theorem and_one (c : Int) (h0 : 0 ≤ c) (h1 : c ≤ 15) : (bits BinOp.and IntKind.i64 c 1 == 1) = (c % 2 == 1) := by
  obtain ⟨n, rfl⟩ := Int.eq_ofNat_of_zero_le h0
  have : n ≤ 15 := by omega
  clear h0 h1
  have : n = 0 ∨ n = 1 ∨ n = 2 ∨ n = 3 ∨ n = 4 ∨ n = 5 ∨ n = 6 ∨ n = 7 ∨ n = 8 ∨ n = 9 ∨ n = 10 ∨ n = 11 ∨ n = 12 ∨ n = 13 ∨ n = 14 ∨ n = 15 := by omega
  rcases this with rfl | rfl | rfl | rfl | rfl | rfl | rfl | rfl | rfl | rfl | rfl | rfl | rfl | rfl | rfl | rfl <;> decide

theorem div_pow_le (c : Int) (k : Nat) (h0 : 0 ≤ c) (h1 : c ≤ 15) : 0 ≤ c / 2 ^ k ∧ c / 2 ^ k ≤ 15 := by
  have hp : (0 : Int) < 2 ^ k := Int.pow_pos (by omega)
  refine ⟨Int.ediv_nonneg h0 (by omega), ?_⟩
  exact Int.le_trans (Int.ediv_le_self _ h0) h1

set_option maxHeartbeats 400000 in
theorem left_any (b rb : Nat) (W : Win) (w : World) (h : WinAt w b rb W) (o : W.Ok) :
    Calls Tryz.prog 62 #[.pointer (some ⟨b, 0, none⟩)] w fun e w' => e = .returned (I (W.cap - W.sum)) ∧ ∃ n, w' = w.drewN n := by
  have c2 : w.cell? ⟨b, 2, none⟩ = some (I W.cap) := by rw [h.own.cell]; rfl
  have c5 : w.cell? ⟨b, 5, none⟩ = some (I W.sum) := by rw [h.own.cell]; rfl
  obtain ⟨h1, h2, h3, h4, h5, h6, -, -, -, -⟩ := o
  clear h
  go_enter Tryz.func62, Tryz.ntmps62
  go_wp2
  go_quiet (fail)
  go_wp2
  go_ret
  exact ⟨rfl, _, rfl⟩

set_option maxHeartbeats 400000 in
theorem after_any (b rb : Nat) (W : Win) (k : Int) (w : World) (h : WinAt w b rb W) (o : W.Ok) (h0 : 0 ≤ k) (h3 : k ≤ 100) :
    Calls Tryz.prog 133 #[.pointer (some ⟨b, 0, none⟩), I k] w fun e w' => e = .returned (I ((W.pos + k.toNat) % W.ring.length : Nat)) ∧ ∃ n, w' = w.drewN n := by
  have c2 : w.cell? ⟨b, 3, none⟩ = some (.slice (some ⟨rb, 0, none⟩) W.ring.length W.ring.length) := by rw [h.own.cell]; rfl
  have c5 : w.cell? ⟨b, 4, none⟩ = some (I W.pos) := by rw [h.own.cell]; rfl
  have h1 := o.pos
  have h2 := o.len1
  clear h o
  obtain ⟨n, rfl⟩ := Int.eq_ofNat_of_zero_le h0
  rw [Int.toNat_natCast]
  go_enter Tryz.func133, Tryz.ntmps133
  go_wp2
  go_quiet (fail)
  go_wp2
  go_ret
  exact ⟨ret_int (by rw [Int.natCast_emod]; rfl), _, rfl⟩

set_option maxHeartbeats 400000 in
theorem counts_any (b rb : Nat) (W : Win) (k : Int) (w : World) (h : WinAt w b rb W) (o : W.Ok) (h3 : 0 ≤ k) (h4 : k ≤ 3) :
    Calls Tryz.prog 61 #[.pointer (some ⟨b, 0, none⟩), I k] w fun e w' => e = .returned (.bool (cnt W.ch k.toNat)) ∧ w' = w := by
  have c0 : w.cell? ⟨b, 0, none⟩ = some (I W.ch) := by rw [h.own.cell]; rfl
  have h1 := o.ch0
  have h2 := o.ch1
  clear h o
  go_enter Tryz.func61, Tryz.ntmps61
  go_wp2
  go_ret
  have hb := div_pow_le W.ch k.toNat h1 h2
  exact ⟨ret_bool (and_one _ hb.1 hb.2), rfl⟩

def Win.give (W : Win) (k : Int) : Win := { W with ring := W.ring.set W.pos (W.ring[W.pos]?.getD 0 + k), sum := W.sum + k }

theorem intCells_set (l : List Int) (i : Nat) (v : Int) : (intCells l).setIfInBounds i (I v) = intCells (l.set i v) := by
  simp [intCells, List.map_set]

set_option maxHeartbeats 400000 in
theorem give_any (b rb : Nat) (W : Win) (k : Int) (w : World) (h : WinAt w b rb W) (o : W.Ok) (h3 : 0 ≤ k) (h4 : k ≤ 1000) :
    Calls Tryz.prog 97 #[.pointer (some ⟨b, 0, none⟩), I k] w fun e w' => e = .returned (.tuple #[]) ∧ Frm (fun x => x = b ∨ x = rb) w w' ∧ WinAt w' b rb (W.give k) := by
  have H := hide h
  have O := hide o
  have h1 := o.pos
  have h2 := o.len1
  obtain ⟨v, hv⟩ := o.some o.pos
  have hr := o.le hv
  have h5 := o.sum0
  have h6 := o.sum1
  have h7 := o.cap1
  have c3 : w.cell? ⟨b, 3, none⟩ = some (.slice (some ⟨rb, 0, none⟩) W.ring.length W.ring.length) := by rw [h.own.cell]; rfl
  have c4 : w.cell? ⟨b, 4, none⟩ = some (I W.pos) := by rw [h.own.cell]; rfl
  have c5 : w.cell? ⟨b, 5, none⟩ = some (I W.sum) := by rw [h.own.cell]; rfl
  have cr : w.cell? ⟨rb, W.pos, none⟩ = some (I v) := by rw [h.ring.cell]; exact intCells_at hv
  have f5 := h.own.frozen 5
  have fr := h.ring.frozen W.pos
  have hne := h.ne
  have HV := hide hv
  clear h o hv
  go_enter Tryz.func97, Tryz.ntmps97
  go_wp2
  go_region
  go_wp2
  go_end0
  refine ⟨rfl, ?_, ?_⟩
  · exact (((Frm.refl _ _).setCell (Or.inr rfl) _).setCell (Or.inl rfl) _).drew
  · have h : WinAt w b rb W := H.out
    have hv : W.ring[W.pos]? = some v := HV.out
    refine ⟨?_, ?_, hne⟩
    · have := ((h.own.other (p := ⟨rb, W.pos, none⟩) hne (I (v + k))).set 5 (I (W.sum + k))).drew
      simpa [winCells, Win.give] using this
    · have := ((h.ring.set W.pos (I (v + k))).other (p := ⟨b, 5, none⟩) (Ne.symm hne) (I (W.sum + k))).drew
      rw [intCells_set] at this
      simpa [Win.give, hv] using this

theorem sum_set {l : List Int} {i : Nat} {v u : Int} (h : l[i]? = some v) : (l.set i u).sum = l.sum - v + u := by
  induction l generalizing i with
  | nil => simp at h
  | cons a l ih =>
    cases i with
    | zero => simp at h; subst h; simp; omega
    | succ i => simp at h; simp [ih h]; omega

theorem Win.Ok.give {W : Win} (o : W.Ok) {k : Int} (h0 : 0 ≤ k) (h1 : k ≤ W.cap - W.sum) : (W.give k).Ok := by
  obtain ⟨v, hv⟩ := o.some o.pos
  have hr := o.le hv
  have h3 := o.sum0
  refine ⟨o.ch0, o.ch1, o.cap0, o.cap1, ?_, ?_, ?_, ?_, ?_, ?_⟩
  · show 0 ≤ W.sum + k; omega
  · show W.sum + k ≤ W.cap; omega
  · simpa [Win.give] using o.len1
  · simpa [Win.give] using o.pos
  · intro x hx
    simp only [Win.give, hv, Option.getD_some] at hx
    rcases List.mem_or_eq_of_mem_set hx with hx | rfl
    · exact o.ring0 x hx
    · omega
  · simp only [Win.give, hv, Option.getD_some]
    rw [sum_set hv, o.total]; omega

def Win.next (W : Win) : Nat := (W.pos + 1) % W.ring.length
def Win.pass (W : Win) : Win := { W with pos := W.next, sum := W.sum - W.ring[W.next]?.getD 0, ring := W.ring.set W.next 0 }

theorem Win.Ok.next {W : Win} (o : W.Ok) : W.next < W.ring.length := Nat.mod_lt _ (Nat.lt_of_le_of_lt (Nat.zero_le _) o.pos)

theorem Win.Ok.pass {W : Win} (o : W.Ok) : W.pass.Ok := by
  obtain ⟨v, hv⟩ := o.some o.next
  have hr := o.le hv
  have h3 := o.sum0
  have h4 := o.sum1
  refine ⟨o.ch0, o.ch1, o.cap0, o.cap1, ?_, ?_, ?_, ?_, ?_, ?_⟩
  · simp only [Win.pass, hv, Option.getD_some]; omega
  · simp only [Win.pass, hv, Option.getD_some]; omega
  · simpa [Win.pass] using o.len1
  · simpa [Win.pass] using o.next
  · intro x hx
    simp only [Win.pass] at hx
    rcases List.mem_or_eq_of_mem_set hx with hx | rfl
    · exact o.ring0 x hx
    · omega
  · simp only [Win.pass, hv, Option.getD_some]
    rw [sum_set hv, o.total]; omega

set_option maxHeartbeats 800000 in
theorem pass_any (b rb : Nat) (W : Win) (w : World) (h : WinAt w b rb W) (o : W.Ok) :
    Calls Tryz.prog 115 #[.pointer (some ⟨b, 0, none⟩)] w fun e w' => e = .returned (.tuple #[]) ∧ Frm (fun x => x = b ∨ x = rb) w w' ∧ WinAt w' b rb W.pass := by
  have ha := after_any b rb W 1 w h o (by omega) (by omega)
  have hn := o.next
  have e1 : (W.pos + (1 : Int).toNat) % W.ring.length = W.next := rfl
  rw [e1] at ha
  clear e1
  have H := hide h
  have h2 := o.len1
  obtain ⟨v, hv⟩ := o.some o.next
  generalize hm : W.next = m at *
  have HM := hide hm
  have hr := o.le hv
  have h5 := o.sum0
  have h6 := o.sum1
  have h7 := o.cap1
  have c3 : w.cell? ⟨b, 3, none⟩ = some (.slice (some ⟨rb, 0, none⟩) W.ring.length W.ring.length) := by rw [h.own.cell]; rfl
  have c4 : w.cell? ⟨b, 4, none⟩ = some (I W.pos) := by rw [h.own.cell]; rfl
  have c5 : w.cell? ⟨b, 5, none⟩ = some (I W.sum) := by rw [h.own.cell]; rfl
  have cr : w.cell? ⟨rb, m, none⟩ = some (I v) := by rw [h.ring.cell]; exact intCells_at hv
  have f4 := h.own.frozen 4
  have f5 := h.own.frozen 5
  have fr := h.ring.frozen m
  have hne := h.ne
  have HV := hide hv
  have HA := hide ha
  clear h o hv ha hm
  go_enter Tryz.func115, Tryz.ntmps115
  go_wp2_with (go_at_call 133; refine (HA.out).mono ?_; rintro e w' ⟨rfl, n, rfl⟩)
  go_region
  go_wp2
  go_region
  go_wp2
  go_end0
  refine ⟨rfl, ?_, ?_⟩
  · exact ((((((Frm.refl _ _).drewN _).setCell (Or.inl rfl) _).setCell (Or.inl rfl) _).setCell (Or.inr rfl) _).drew).drew
  · have h : WinAt w b rb W := H.out
    have hv : W.ring[m]? = some v := HV.out
    have hm : W.next = m := HM.out
    refine ⟨?_, ?_, hne⟩
    · have := ((((h.own.drewN n).set 4 (I m)).set 5 (I (W.sum - v))).other (p := ⟨rb, m, none⟩) hne (I 0)).drew.drew
      simpa [winCells, Win.pass, hm, hv] using this
    · have := ((((h.ring.drewN n).other (p := ⟨b, 4, none⟩) (Ne.symm hne) (I m)).other (p := ⟨b, 5, none⟩) (Ne.symm hne) (I (W.sum - v))).set m (I 0)).drew.drew
      rw [intCells_set] at this
      simpa [Win.pass, hm] using this

/-- what is left when so many ticks have gone by -/
def Win.lefts (W : Win) : Nat → Int
  | 0 => W.cap - W.sum
  | n + 1 => W.lefts n + W.ring[(W.pos + (n + 1)) % W.ring.length]?.getD 0

theorem Win.lefts_eq (W : Win) (n : Nat) : W.lefts n = W.cap - W.sum + ((List.range n).map fun i => W.ring[(W.pos + (i + 1)) % W.ring.length]?.getD 0).sum := by
  induction n with
  | zero => simp [Win.lefts]
  | succ n ih => simp [Win.lefts, ih, List.range_succ]; omega

theorem rotate_eq (l : List Int) (p : Nat) (h : p < l.length) :
    ((List.range l.length).map fun i => l[(p + (i + 1)) % l.length]?.getD 0) = l.drop (p + 1) ++ l.take (p + 1) := by
  apply List.ext_getElem
  · simp; omega
  · intro i h1 h2
    simp only [List.length_map, List.length_range] at h1
    simp only [List.getElem_map, List.getElem_range, List.getElem_append, List.length_drop, List.getElem_drop, List.getElem_take]
    split
    · rename_i h3
      rw [Nat.mod_eq_of_lt (by omega), List.getElem?_eq_getElem (by omega)]
      simp only [Option.getD_some]
      congr 1; omega
    · rename_i h3
      rw [Nat.mod_eq_sub_mod (by omega), Nat.mod_eq_of_lt (by omega), List.getElem?_eq_getElem (by omega)]
      simp only [Option.getD_some]
      congr 1; omega

theorem Win.Ok.lefts_all {W : Win} (o : W.Ok) : W.lefts W.ring.length = W.cap := by
  rw [Win.lefts_eq, rotate_eq _ _ o.pos, List.sum_append, ← o.total]
  have : (W.ring.take (W.pos + 1)).sum + (W.ring.drop (W.pos + 1)).sum = W.ring.sum := by rw [← List.sum_append, List.take_append_drop]
  omega

theorem Win.Ok.lefts_bd {W : Win} (o : W.Ok) (n : Nat) (h : n ≤ W.ring.length) : 0 ≤ W.lefts n ∧ W.lefts n ≤ W.cap := by
  have h1 : ∀ m, m ≤ n → W.lefts m ≤ W.lefts n := by
    clear h
    induction n with
    | zero => intro m hm; have : m = 0 := by omega
              subst this; exact Int.le_refl _
    | succ n ih =>
      intro m hm
      by_cases e : m = n + 1
      · subst e; exact Int.le_refl _
      · have h1 := ih m (by omega)
        have h2 : 0 ≤ W.ring[(W.pos + (n + 1)) % W.ring.length]?.getD 0 := by
          cases hx : W.ring[(W.pos + (n + 1)) % W.ring.length]? with
          | none => simp
          | some v => simpa using (o.le hx).1
        simp only [Win.lefts]; omega
  have h2 : W.lefts n ≤ W.lefts W.ring.length := by
    clear h1
    generalize W.ring.length = L at h
    induction L with
    | zero => have : n = 0 := by omega
              subst this; exact Int.le_refl _
    | succ L ih =>
      by_cases e : n = L + 1
      · subst e; exact Int.le_refl _
      · have h1 := ih (by omega)
        have h2 : 0 ≤ W.ring[(W.pos + (L + 1)) % W.ring.length]?.getD 0 := by
          cases hx : W.ring[(W.pos + (L + 1)) % W.ring.length]? with
          | none => simp
          | some v => simpa using (o.le hx).1
        simp only [Win.lefts]; omega
  rw [o.lefts_all] at h2
  have h3 := h1 0 (by omega)
  have h4 := o.sum1
  simp only [Win.lefts] at h3
  omega

set_option maxHeartbeats 400000 in
theorem waitN_any (b rb : Nat) (W : Win) (k : Int) (w : World) (h : WinAt w b rb W) (h4 : W.cap < k) :
    Calls Tryz.prog 132 #[.pointer (some ⟨b, 0, none⟩), I k] w fun e w' => e = .returned (.tuple #[I 0, .bool false]) ∧ w' = w := by
  have c2 : w.cell? ⟨b, 2, none⟩ = some (I W.cap) := by rw [h.own.cell]; rfl
  clear h
  go_enter Tryz.func132, Tryz.ntmps132
  go_wp2
  go_ret2
  exact ⟨rfl, rfl⟩

set_option maxHeartbeats 800000 in
theorem waitY_any (b rb : Nat) (W : Win) (k : Int) (w : World) (h : WinAt w b rb W) (o : W.Ok) (_h3 : 0 ≤ k) (h4 : k ≤ W.cap) (_h5 : k ≤ 1000) :
    Calls Tryz.prog 132 #[.pointer (some ⟨b, 0, none⟩), I k] w fun e w' => ∃ n : Nat, n ≤ W.ring.length ∧ k ≤ W.lefts n ∧ (∀ m, m < n → W.lefts m < k) ∧ e = .returned (.tuple #[I n, .bool true]) ∧ ∃ n, w' = w.drewN n := by
  have H := hide h
  have O := hide o
  have hlen := o.len1
  have hcap := o.cap1
  have hcap0 := o.cap0
  have hsum0 := o.sum0
  have hsum1 := o.sum1
  have c2 : w.cell? ⟨b, 2, none⟩ = some (I W.cap) := by rw [h.own.cell]; rfl
  have c3 : w.cell? ⟨b, 3, none⟩ = some (.slice (some ⟨rb, 0, none⟩) W.ring.length W.ring.length) := by rw [h.own.cell]; rfl
  clear h o
  go_enter Tryz.func132, Tryz.ntmps132
  go_wp2_with (go_at_call 62; refine (left_any b rb W _ ?_ O.out).mono ?_; exact H.out; rintro e w' ⟨rfl, n, rfl⟩)
  go_loopw [6, 7] (fun i l wr => ∃ j : Nat, j ≤ W.ring.length ∧ i = I j ∧ l = I (W.lefts j) ∧ (∀ m, m < j → W.lefts m < k) ∧ WinAt wr b rb W ∧ ∃ m, wr = w.drewN m) (fun i _ _ => W.ring.length - (intOf i).toNat)
  case atStart => exact ⟨0, by omega, rfl, rfl, by omega, ⟨(H.out).own, (H.out).ring, (H.out).ne⟩, n, rfl⟩
  case round =>
    obtain ⟨j, hj, rfl, rfl, hm, hwr, hdr⟩ := hrel
    have HMM := hide hm
    have HD := hide hdr
    have HW := hide hwr
    clear hm hdr
    have O' : W.Ok := O.out
    have hb := O'.lefts_bd j hj
    by_cases hlt : W.lefts j < k
    · have hj' : j < W.ring.length := by
        by_cases e : j = W.ring.length
        · have := O'.lefts_all; rw [e] at hlt; omega
        · omega
      have ha := fun x => after_any b rb W (j + 1 : Int) (wr.drewN x) ⟨hwr.own, hwr.ring, hwr.ne⟩ O' (by omega) (by omega)
      have e1 : ((j : Int) + 1).toNat = j + 1 := by omega
      simp only [e1] at ha
      clear e1
      have hi : (W.pos + (j + 1)) % W.ring.length < W.ring.length := Nat.mod_lt _ (by omega)
      obtain ⟨v, hv⟩ := O'.some hi
      have hl : W.lefts (j + 1) = W.lefts j + v := by simp [Win.lefts, hv]
      have hb2 := O'.lefts_bd (j + 1) hj'
      rw [hl] at hb2
      generalize (W.pos + (j + 1)) % W.ring.length = q at *
      have hr := O'.le hv
      have cr : wr.cell? ⟨rb, q, none⟩ = some (I v) := by rw [hwr.ring.cell]; exact intCells_at hv
      have c3 : wr.cell? ⟨b, 3, none⟩ = some (.slice (some ⟨rb, 0, none⟩) W.ring.length W.ring.length) := by rw [hwr.own.cell]; rfl
      have HL := hide hl
      have HA := hide ha
      clear ha hl hv O' hwr
      go_wp2
      go_quiet ((go_at_call 133; exact Calls.quiet_of (HA.out _)))
      go_wp2
      go_roundw
      case rel => exact ⟨j + 1, hj', by go_num, by rw [HL.out], fun m hm => by
                    by_cases e : m = j
                    · subst e; exact hlt
                    · exact HMM.out m (by omega), ⟨(HW.out).own, (HW.out).ring, (HW.out).ne⟩, by obtain ⟨m, hm⟩ := HD.out; exact ⟨m + nq, by rw [hm, World.drewN_drewN]⟩⟩
      case measure => simp [intOf]; omega
    · clear O'
      go_wp2
      go_ret2
      exact ⟨j, hj, by omega, HMM.out, rfl, HD.out⟩

end Go.Proofs.YtpilmkipbbengaaGreatDoor
