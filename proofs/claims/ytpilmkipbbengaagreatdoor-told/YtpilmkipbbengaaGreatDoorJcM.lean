/- dripref: Digits, line. -/
import Derived.Test.YtpilmkipbbengaaGreatDoorJaM
import Derived.Test.YtpilmkipbbengaaGreatDoorBase
import Derived.Laws.IdiomStrings
import Derived.Lib.ItoaLen
import Derived.Deep.RegionHeld3
namespace Go.Proofs.YtpilmkipbbengaaGreatDoor
open Go.RowKit Go.Lib

theorem ret_str {a b : ByteArray} (h : a = b) : Ending.returned (.string a) = .returned (.string b) := by rw [h]
theorem bs_append (l m : List UInt8) : (⟨l.toArray⟩ : ByteArray) ++ ⟨m.toArray⟩ = ⟨(l ++ m).toArray⟩ := by
  apply ByteArray.ext
  simp

theorem dig_conv (n : Nat) (w : World) : (convert 105 9 (.slice (some ⟨w.heap.size, 0, none⟩) 1 1)).run Tryz.prog (w.alloc (.cells #[.int .u8 (48 + (n : Int) % 10)] 5)) = .ok (.string ⟨#[UInt8.ofNat (48 + n % 10)]⟩) (w.alloc (.cells #[.int .u8 (48 + (n : Int) % 10)] 5)) := by
  have e := dg_byte (show n % 10 < 10 by omega)
  refine run_convert_bytes_back (P := Tryz.prog) _ 105 9 5 ⟨w.heap.size, 0, none⟩ 1 [UInt8.ofNat (48 + n % 10)] Tryz.underlying105 Tryz.underlying5 Tryz.underlying9 fun j hj => ?_
  have hj0 : j = 0 := by simp at hj; exact hj
  subst hj0
  rw [Addr.add_lit, (Blk.new w _ _).cell]
  simp only [List.getElem_cons_zero, e]
  simp

set_option maxRecDepth 100000 in
set_option maxHeartbeats 800000 in
theorem rDigits_any : ∀ (n : Nat), n ≤ 1000000 → ∀ w : World, Calls Tryz.prog 87 #[I n] w fun e w' => e = .returned (.string ⟨(decDigits n).toArray⟩) ∧ Keep w w' := by
  intro n
  induction n using Nat.strongRecOn with
  | ind n ih =>
    intro hn w
    obtain ⟨b, hb, hcv⟩ : ∃ b, b = UInt8.ofNat (48 + n % 10) ∧ (convert 105 9 (.slice (some ⟨w.heap.size, 0, none⟩) 1 1)).run Tryz.prog (w.alloc (.cells #[.int .u8 (48 + (n : Int) % 10)] 5)) = .ok (.string ⟨#[b]⟩) (w.alloc (.cells #[.int .u8 (48 + (n : Int) % 10)] 5)) := ⟨_, rfl, dig_conv n w⟩
    by_cases h : n < 10
    · have e1 : decDigits n = [b] := by rw [hb, decDigits_one h]; congr 3; omega
      have E1 := hide e1
      clear hb e1
      go_enter Tryz.func87, Tryz.ntmps87
      go_wp2_with fail
      go_ret
      exact ⟨ret_str (by rw [E1.out]), (Frm.refl _ _).alloc _⟩
    · have e1 : decDigits n = decDigits (n / 10) ++ [b] := by rw [hb]; exact decDigits_big h
      have E1 := hide e1
      clear hb e1
      have CALL : Hid (Calls Tryz.prog 87 #[I ((n / 10 : Nat) : Int)] (w.alloc (.cells #[.int .u8 (48 + (n : Int) % 10)] 5)) fun e w' => e = .returned (.string ⟨(decDigits (n / 10)).toArray⟩) ∧ Hid (Keep w w')) := by
        refine (ih (n / 10) (by omega) (by omega) _).mono ?_
        rintro e w' ⟨rfl, k⟩
        exact ⟨rfl, ((Frm.refl _ _).alloc _).trans k⟩
      clear ih
      have e2 : ((n / 10 : Nat) : Int) = (n : Int) / 10 := by omega
      rw [e2] at CALL
      have sz : (decDigits (n / 10)).length ≤ 20 := by rw [decDigits_length]; exact nDigits_le20 _ (by omega)
      generalize hl : decDigits (n / 10) = l at *
      clear e2 hl
      go_enter Tryz.func87, Tryz.ntmps87
      go_wp2_with fail
      refine (CALL.out).mono ?_
      rintro e w2 ⟨rfl, K2⟩
      go_wp2_with fail
      go_ret
      exact ⟨ret_str (by rw [E1.out]; exact bs_append l [b]), K2.out⟩

set_option maxRecDepth 100000 in
set_option maxHeartbeats 800000 in
theorem rline_any (d : Ds) (w : World) (h : 0 ≤ d.tick ∧ d.tick ≤ 1000000 ∧ 0 ≤ d.ch ∧ d.ch ≤ 1000000 ∧ 0 ≤ d.amt ∧ d.amt ≤ 1000000) : Calls Tryz.prog 86 #[.agg #[I d.tick, I d.ch, I d.amt]] w fun e w' => e = .returned (.string ⟨(jline d ++ [10]).toArray⟩) ∧ Keep w w' := by
  obtain ⟨h0, h1, h2, h3, h4, h5⟩ := h
  obtain ⟨t, ht⟩ := Int.eq_ofNat_of_zero_le h0
  obtain ⟨k, hk⟩ := Int.eq_ofNat_of_zero_le h2
  obtain ⟨m, hm⟩ := Int.eq_ofNat_of_zero_le h4
  have DG : Hid (∀ (x : Nat) (W : World), x ≤ 1000000 → Hid (Keep w W ∧ Blk W w.heap.size #[I t, I k, I m] 100) → Calls Tryz.prog 87 #[I x] W fun e w' => e = .returned (.string ⟨(decDigits x).toArray⟩) ∧ w'.cell? ⟨w.heap.size, 0, none⟩ = some (I t) ∧ w'.cell? ⟨w.heap.size, 1, none⟩ = some (I k) ∧ w'.cell? ⟨w.heap.size, 2, none⟩ = some (I m) ∧ Hid (Keep w w' ∧ Blk w' w.heap.size #[I t, I k, I m] 100)) := by
    intro x W hx hW
    refine (rDigits_any x hx W).mono ?_
    rintro e w' ⟨rfl, k'⟩
    have bl := k'.blk (hW.out).2
    exact ⟨rfl, by rw [bl.cell]; rfl, by rw [bl.cell]; rfl, by rw [bl.cell]; rfl, (hW.out).1.trans k', bl⟩
  have START : Hid (Keep w (w.alloc (.cells #[I t, I k, I m] 100)).drew ∧ Blk (w.alloc (.cells #[I t, I k, I m] 100)).drew w.heap.size #[I t, I k, I m] 100) := ⟨((Frm.refl _ _).alloc _).drew, Blk.new _ _ _⟩
  have ht' : t ≤ 1000000 := by omega
  have hk' : k ≤ 1000000 := by omega
  have hm' : m ≤ 1000000 := by omega
  have s1 : (decDigits t).length ≤ 20 := by rw [decDigits_length]; exact nDigits_le20 _ (by omega)
  have s2 : (decDigits k).length ≤ 20 := by rw [decDigits_length]; exact nDigits_le20 _ (by omega)
  have s3 : (decDigits m).length ≤ 20 := by rw [decDigits_length]; exact nDigits_le20 _ (by omega)
  have q1 : ¬ 9223372036854775807 < (decDigits t).length + 1 := by omega
  have q2 : ¬ 9223372036854775807 < (decDigits t).length + 1 + (decDigits k).length := by omega
  have q3 : ¬ 9223372036854775807 < (decDigits t).length + 1 + (decDigits k).length + 1 := by omega
  have q4 : ¬ 9223372036854775807 < (decDigits t).length + 1 + (decDigits k).length + 1 + (decDigits m).length := by omega
  have q5 : ¬ 9223372036854775807 < (decDigits t).length + 1 + (decDigits k).length + 1 + (decDigits m).length + 1 := by omega
  have EQ : Hid (jline d ++ [10] = decDigits t ++ [32] ++ decDigits k ++ [32] ++ decDigits m ++ [10]) := by
    show jline d ++ [10] = _
    simp only [jline, jdig, ht, hk, hm, Int.toNat_natCast]
  rw [ht, hk, hm]
  clear h0 h1 h2 h3 h4 h5
  clear ht hk hm
  go_enter Tryz.func86, Tryz.ntmps86
  go_wp2_with fail
  go_region_held3 (fun w' => w'.cell? ⟨w.heap.size, 0, none⟩ = some (I t) ∧ w'.cell? ⟨w.heap.size, 1, none⟩ = some (I k) ∧ w'.cell? ⟨w.heap.size, 2, none⟩ = some (I m)) (((try dsimp only); (repeat' apply And.intro) <;> (go_keep; done))) (first | (go_at_call_of 87 (t : Int); refine (DG.out t _ ht' START).mono ?_; rintro e w2 ⟨rfl, y0, y1, y2, K2⟩) | (go_at_call_of 87 (k : Int); refine (DG.out k _ hk' K2).mono ?_; rintro e w3 ⟨rfl, y0, y1, y2, K3⟩) | (go_at_call_of 87 (m : Int); refine (DG.out m _ hm' K3).mono ?_; rintro e w4 ⟨rfl, y0, y1, y2, K4⟩))
  go_wp2_with fail
  go_ret
  refine ⟨ret_str ?_, (K4.out).1⟩
  rw [EQ.out]
  have e1 := bs_append (decDigits t) [32]
  have e2 := bs_append (decDigits t ++ [32]) (decDigits k)
  have e3 := bs_append (decDigits t ++ [32] ++ decDigits k) [32]
  have e4 := bs_append (decDigits t ++ [32] ++ decDigits k ++ [32]) (decDigits m)
  have e5 := bs_append (decDigits t ++ [32] ++ decDigits k ++ [32] ++ decDigits m) [10]
  rw [← e5, ← e4, ← e3, ← e2, ← e1]

end Go.Proofs.YtpilmkipbbengaaGreatDoor

/- dripref: numbers. -/
namespace Go.Proofs.YtpilmkipbbengaaGreatDoor
open Go.RowKit Go.Lib

/-- the numbers of a line, as dripref goes through it -/
def jnm : List UInt8 → Nat → Nat → List Nat → Option (List Nat)
  | [], n, k, out => if k = 0 then none else some (out ++ [n])
  | c :: r, n, k, out => if c = 32 then (if k = 0 then none else jnm r 0 0 (out ++ [n]))
    else if c.toNat < 48 ∨ 57 < c.toNat ∨ k = 4 ∨ (0 < k ∧ n = 0) then none else jnm r (10 * n + (c.toNat - 48)) (k + 1) out

structure NSt (w wr : World) (s : List UInt8) (j n k : Nat) (out : List Nat) (v : Value) : Prop where
  keep : Keep w wr
  row : wr.ownsRow 0 3 1 v out.length (out.map fun x => I ((x : Nat) : Int))
  new : ∀ x, v.ownBlock = some x → w.heap.size ≤ x
  len : out.length ≤ j
  rel : if j ≤ s.length then jnm s 0 0 [] = jnm (s.drop j) n k out else jnm s 0 0 [] = some out
  k4 : k ≤ 4
  nb : n < 10 ^ k

theorem NSt.app {w wr : World} {s : List UInt8} {j j' n k : Nat} {out : List Nat} {v v' : Value} (h : NSt w wr s j n k out v) (hj : out.length + 1 ≤ j') (hv : v = v') (rel : if j' ≤ s.length then jnm s 0 0 [] = jnm (s.drop j') 0 0 (out ++ [n]) else jnm s 0 0 [] = some (out ++ [n])) (w5 : World) (v5 : Value)
    (hown : w5.ownsRow 0 3 1 v5 (out.length + 1) ((out.map fun x => I ((x : Nat) : Int)) ++ [I n])) (hg : (wr.alloc (.cells #[I n] 3)).grownBy w5 v'.ownBlock) (hnew : v5.ownBlock = v'.ownBlock ∨ (v5.ownBlock = some (wr.alloc (.cells #[I n] 3)).heap.size ∧ (wr.alloc (.cells #[I n] 3)).grownBy w5 none)) : NSt w w5 s j' 0 0 (out ++ [n]) v5 := by
  subst hv
  have ka : Keep w (wr.alloc (.cells #[I n] 3)) := h.keep.alloc _
  refine ⟨ka.trans2 (grown_frm hg) fun x hx e => by have := h.new x e; omega, by simpa using hown, ?_, by simpa using hj, rel, by omega, by simp⟩
  intro x hx
  rcases hnew with e | ⟨e, -⟩
  · rw [e] at hx; exact h.new x hx
  · rw [e] at hx; injection hx with hx
    rw [← hx]; exact ka.size

theorem jinfoI : (Tryz.prog.info? 3).map (fun i => (i.zero, i.size, i.bytes)) = some (some (I 0), 1, 8) := by kernel_rfl

set_option maxRecDepth 100000 in
set_option maxHeartbeats 800000 in
theorem rnumbers_any (s : List UInt8) (w : World) (hs : s.length ≤ 1000000000000) : Calls Tryz.prog 127 #[.string ⟨s.toArray⟩] w fun e w' => Keep w w' ∧ ((jnm s 0 0 [] = none ∧ e = .returned (.tuple #[.slice none 0 0, .bool false])) ∨ ∃ ns v, jnm s 0 0 [] = some ns ∧ e = .returned (.tuple #[v, .bool true]) ∧ w'.ownsRow 0 3 1 v ns.length (ns.map fun x => I ((x : Nat) : Int))) := by
  obtain ⟨iI, hiI, hz0, hz1, hz2⟩ := info_parts jinfoI
  go_enter Tryz.func127, Tryz.ntmps127
  go_wp2_with fail
  go_loopg [4, 5, 6, 7] (s.length + 2) (fun q out n k i wr => ∃ (j nn kk : Nat) (l : List Nat), q + j = s.length + 2 ∧ j ≤ s.length + 1 ∧ i = I j ∧ n = I nn ∧ k = I kk ∧ Hid (NSt w wr s j nn kk l out))
  case atStart => exact ⟨0, 0, 0, [], by omega, by omega, rfl, rfl, rfl, Frm.refl _ _, World.ownsRow_nil .., fun x hx => by simp [Value.ownBlock] at hx, by simp, by simp, by omega, by simp⟩
  case round =>
    obtain ⟨j, nn, kk, l, hq, hjs, rfl, rfl, rfl, hst⟩ := hrel
    obtain ⟨ad, cd, hvd⟩ := row_slice (hst.out).row
    by_cases hj : j < s.length
    · obtain ⟨c, hc⟩ : ∃ c, s[j]? = some c := ⟨_, List.getElem?_eq_getElem hj⟩
      have hd : s.drop j = c :: s.drop (j + 1) := by
        have := List.drop_eq_getElem_cons hj
        rw [(List.getElem?_eq_some_iff.1 hc).2] at this
        exact this
      have hrel := (hst.out).rel
      rw [if_pos (by omega), hd] at hrel
      have hk4 := (hst.out).k4
      have hnb := (hst.out).nb
      have hlt : j < (⟨s.toArray⟩ : ByteArray).size := hj
      have hby : (⟨s.toArray⟩ : ByteArray)[j]'hlt = c := (List.getElem?_eq_some_iff.1 hc).2
      have hn4 : nn < 10000 := Nat.lt_of_lt_of_le hnb (by have : 10 ^ kk ≤ 10 ^ 4 := Nat.pow_le_pow_right (by omega) hk4; omega)
      have hne : (j == s.length) = false := by simp; omega
      by_cases h32 : c = 32
      · subst h32
        have hcn : (((32 : UInt8).toNat : Int) == 32) = true := rfl
        rw [jnm, if_pos rfl] at hrel
        have KP := hide (hst.out).keep
        by_cases hk0 : kk = 0
        · rw [if_pos hk0] at hrel
          have E := hide hrel
          subst hk0
          clear hrel hd hc hst
          subst hvd
          go_wp2_with fail
          go_ret2
          exact ⟨KP.out, Or.inl ⟨E.out, rfl⟩⟩
        · rw [if_neg hk0] at hrel
          have hk0' : ((kk : Int) == 0) = false := by simp; omega
          have hl := (hst.out).len
          have APP := hide ((hst.out).app (j' := j + 1) (by omega) hvd (by rw [if_pos (by omega)]; exact hrel))
          have ROW := hide (hst.out).row
          rw [hvd] at ROW
          have NX : Hid (∀ w5 v5, NSt w w5 s (j + 1) 0 0 (l ++ [nn]) v5 → ∃ (j' nn' kk' : Nat) (l' : List Nat), gk - 1 + j' = s.length + 2 ∧ j' ≤ s.length + 1 ∧ I ((j : Int) + 1) = I j' ∧ I 0 = I nn' ∧ I 0 = I kk' ∧ Hid (NSt w w5 s j' nn' kk' l' v5)) := fun w5 v5 h => ⟨j + 1, 0, 0, _, by omega, by omega, by simp, rfl, rfl, h⟩
          have MS : Hid (gk - 1 < gk) := by unfold Hid; omega
          clear hrel hd hc hst hq hnb hn4
          subst hvd
          go_wp2_with (at_builtin; refine wpList_append_row _ rfl (.tmp 26) (.tmp 28) 55 rfl 3 iI (I 0) 1 8 Tryz.underlying55 hiI hz0 hz1 hz2 rfl (by decide) (.slice ad l.length cd) l.length (l.map fun x => I ((x : Nat) : Int)) rfl (by exact row_frm ROW.out (show Keep wr _ from (Frm.refl _ _).alloc _) (fun _ _ e => e)) ⟨wr.heap.size, 0, none⟩ 1 1 [I nn] rfl rfl (by exact cell_news _ [I nn] _ _ rfl) (by intro u hu; simp at hu; subst hu; rfl) (by unfold maxLen; omega) (by omega) ?_; intro v5 w5 hown5 hgr5 hnew5; have FIVE := hide (APP.out w5 v5 hown5 hgr5 hnew5); obtain ⟨a5, cp5, hv5⟩ := row_slice hown5; subst hv5; clear hown5 hgr5 hnew5)
          go_roundg (gk - 1)
          case measure => exact MS.out
          case rel => exact NX.out _ _ FIVE.out
      · have hcn : ((c.toNat : Int) == 32) = false := by
          simp only [beq_eq_false_iff_ne]
          intro e
          exact h32 (UInt8.toNat_inj.1 (show c.toNat = 32 by omega))
        rw [jnm, if_neg h32] at hrel
        have KP := hide (hst.out).keep
        by_cases hbad : c.toNat < 48 ∨ 57 < c.toNat ∨ kk = 4 ∨ (0 < kk ∧ nn = 0)
        · rw [if_pos hbad] at hrel
          have E := hide hrel
          clear hrel hd hc hst
          subst hvd
          have b1 : ¬ c.toNat < 48 → decide ((c.toNat : Int) < 48) = false := fun h => decide_eq_false (by omega)
          have b2 : ¬ 57 < c.toNat → decide (57 < (c.toNat : Int)) = false := fun h => decide_eq_false (by omega)
          by_cases h1 : c.toNat < 48
          · clear b1 b2 hbad
            go_wp2_with fail
            go_ret2
            exact ⟨KP.out, Or.inl ⟨E.out, rfl⟩⟩
          · have b1 := b1 h1
            by_cases h2 : 57 < c.toNat
            · clear b2 hbad
              go_wp2_with fail
              go_ret2
              exact ⟨KP.out, Or.inl ⟨E.out, rfl⟩⟩
            · have b2 := b2 h2
              by_cases h3 : kk = 4
              · subst h3
                clear hbad
                go_wp2_with fail
                go_ret2
                exact ⟨KP.out, Or.inl ⟨E.out, rfl⟩⟩
              · have b3 : ((kk : Int) == 4) = false := by simp; omega
                have hk : 0 < kk := by omega
                have hn : nn = 0 := by omega
                subst hn
                clear hbad
                go_wp2_with fail
                go_ret2
                exact ⟨KP.out, Or.inl ⟨E.out, rfl⟩⟩
        · rw [if_neg hbad] at hrel
          have b1 : decide ((c.toNat : Int) < 48) = false := decide_eq_false (by omega)
          have b2 : decide (57 < (c.toNat : Int)) = false := decide_eq_false (by omega)
          have b3 : ((kk : Int) == 4) = false := by simp; omega
          have NX : Hid (∀ x : Int, x = 10 * nn + ((c.toNat : Int) - 48) → ∃ (j' nn' kk' : Nat) (l' : List Nat), gk - 1 + j' = s.length + 2 ∧ j' ≤ s.length + 1 ∧ I ((j : Int) + 1) = I j' ∧ I x = I nn' ∧ I ((kk : Int) + 1) = I kk' ∧ Hid (NSt w wr s j' nn' kk' l' (.slice ad l.length cd))) := by
            intro x hx
            refine ⟨j + 1, 10 * nn + (c.toNat - 48), kk + 1, l, by omega, by omega, by simp, by congr 1; omega, by simp, ?_⟩
            rw [← hvd]
            exact ⟨(hst.out).keep, (hst.out).row, (hst.out).new, by have := (hst.out).len; omega, by rw [if_pos (by omega)]; exact hrel, by omega, by rw [Nat.pow_succ]; have := hnb; omega⟩
          have MS : Hid (gk - 1 < gk) := by unfold Hid; omega
          clear hrel hd hc hst hq hnb
          subst hvd
          go_wp2_with fail
          all_goals first
            | (exfalso; omega)
            | skip
          all_goals go_roundg (gk - 1)
          all_goals first
            | exact MS.out
            | exact NX.out _ rfl
    · by_cases hje : j = s.length
      · have hrel := (hst.out).rel
        have hd : s.drop j = [] := List.drop_eq_nil_of_le (by omega)
        rw [if_pos (by omega), hd, jnm] at hrel
        have KP := hide (hst.out).keep
        have hl := (hst.out).len
        subst hje
        by_cases hk0 : kk = 0
        · rw [if_pos hk0] at hrel
          have E := hide hrel
          subst hk0
          clear hrel hd hst
          subst hvd
          go_wp2_with fail
          go_ret2
          exact ⟨KP.out, Or.inl ⟨E.out, rfl⟩⟩
        · rw [if_neg hk0] at hrel
          have hk0' : ((kk : Int) == 0) = false := by simp; omega
          have APP := hide ((hst.out).app (j' := s.length + 1) (by omega) hvd (by rw [if_neg (by omega)]; exact hrel))
          have ROW := hide (hst.out).row
          rw [hvd] at ROW
          have NX : Hid (∀ w5 v5, NSt w w5 s (s.length + 1) 0 0 (l ++ [nn]) v5 → ∃ (j' nn' kk' : Nat) (l' : List Nat), gk - 1 + j' = s.length + 2 ∧ j' ≤ s.length + 1 ∧ I ((s.length : Int) + 1) = I j' ∧ I 0 = I nn' ∧ I 0 = I kk' ∧ Hid (NSt w w5 s j' nn' kk' l' v5)) := fun w5 v5 h => ⟨s.length + 1, 0, 0, _, by omega, by omega, by simp, rfl, rfl, h⟩
          have MS : Hid (gk - 1 < gk) := by unfold Hid; omega
          clear hrel hd hst hq
          subst hvd
          go_wp2_with (at_builtin; refine wpList_append_row _ rfl (.tmp 26) (.tmp 28) 55 rfl 3 iI (I 0) 1 8 Tryz.underlying55 hiI hz0 hz1 hz2 rfl (by decide) (.slice ad l.length cd) l.length (l.map fun x => I ((x : Nat) : Int)) rfl (by exact row_frm ROW.out (show Keep wr _ from (Frm.refl _ _).alloc _) (fun _ _ e => e)) ⟨wr.heap.size, 0, none⟩ 1 1 [I nn] rfl rfl (by exact cell_news _ [I nn] _ _ rfl) (by intro u hu; simp at hu; subst hu; rfl) (by unfold maxLen; omega) (by omega) ?_; intro v5 w5 hown5 hgr5 hnew5; have FIVE := hide (APP.out w5 v5 hown5 hgr5 hnew5); obtain ⟨a5, cp5, hv5⟩ := row_slice hown5; subst hv5; clear hown5 hgr5 hnew5)
          go_roundg (gk - 1)
          case measure => exact MS.out
          case rel => exact NX.out _ _ FIVE.out
      · have hj1 : j = s.length + 1 := by omega
        have hrel := (hst.out).rel
        rw [if_neg (by omega)] at hrel
        have KP := hide (And.intro (hst.out).keep (And.intro hrel (hst.out).row))
        have hle : decide (j ≤ s.length) = false := decide_eq_false (by omega)
        clear hst hrel hq
        subst hvd
        clear hj1 hj hje hjs
        go_wp2_with fail
        go_ret2
        exact ⟨(KP.out).1, Or.inr ⟨l, _, (KP.out).2.1, rfl, (KP.out).2.2⟩⟩

end Go.Proofs.YtpilmkipbbengaaGreatDoor

/- What dripref's numbers tells of a line. -/
namespace Go.Proofs.YtpilmkipbbengaaGreatDoor
open Go.Lib

def jfin (t : List UInt8) (n : Nat) (out : List Nat) : Option (List Nat) := match t with
  | [] => some (out ++ [n])
  | _ :: r => jnm r 0 0 (out ++ [n])

theorem jok_iff (l : List UInt8) : jok l = true ↔ 1 ≤ l.length ∧ l.all jdg = true ∧ (l.length = 1 ∨ l.head? ≠ some 48) := by
  simp only [jok, Bool.and_eq_true, Bool.or_eq_true, decide_eq_true_eq]
  exact ⟨fun h => ⟨h.1.1, h.1.2, h.2⟩, fun h => ⟨⟨h.1, h.2.1⟩, h.2.2⟩⟩

theorem jdg_iff (c : UInt8) : jdg c = true ↔ ¬ (c.toNat < 48 ∨ 57 < c.toNat) := by
  simp only [jdg, Bool.and_eq_true, decide_eq_true_eq]
  omega

/-- one digit more -/
theorem jok_snoc {q : List UInt8} {c : UInt8} (hq : q = [] ∨ jok q = true) (hc : jdg c = true) (hz : ¬ (0 < q.length ∧ jval q = 0)) : jok (q ++ [c]) = true := by
  rw [jok_iff]
  rcases hq with rfl | hq
  · simp [hc]
  · have h := (jok_iff q).1 hq
    refine ⟨by simp, by rw [List.all_append, h.2.1]; simp [hc], Or.inr ?_⟩
    have hne : q ≠ [] := fun e => by rw [e] at h; simp at h
    have hh : q.head? ≠ some 48 := by
      rcases h.2.2 with h1 | h1
      · intro e
        obtain ⟨b, rfl⟩ := List.length_eq_one_iff.1 h1
        simp only [List.head?_cons, Option.some.injEq] at e
        subst e
        exact hz ⟨by simp, rfl⟩
      · exact h1
    cases q with
    | nil => exact absurd rfl hne
    | cons a r => simpa using hh

/-- nothing stands behind a 0 -/
theorem jok_zero {q p : List UInt8} {c : UInt8} (hq : jok q = true) (hz : jval q = 0) : jok (q ++ c :: p) = false := by
  have e := jok_eq _ q rfl hq
  rw [hz, decDigits_one (by omega)] at e
  subst e
  cases h : jok ([UInt8.ofNat (48 + 0)] ++ c :: p) with
  | false => rfl
  | true =>
    have := (jok_iff _).1 h
    rcases this.2.2 with h1 | h1
    · simp at h1
    · exact absurd rfl h1

theorem jnm_piece (t : List UInt8) (ht : t = [] ∨ ∃ r, t = 32 :: r) (out : List Nat) : ∀ (p q : List UInt8), 32 ∉ p → (q = [] ∨ jok q = true) → q.length ≤ 4 →
    jnm (p ++ t) (jval q) q.length out = if jok (q ++ p) = true ∧ (q ++ p).length ≤ 4 then jfin t (jval (q ++ p)) out else none := by
  intro p
  induction p with
  | nil =>
    intro q _ hq hl
    rw [List.append_nil, List.nil_append]
    rcases hq with rfl | hq
    · have e : jok ([] : List UInt8) = false := rfl
      rw [e]
      rcases ht with rfl | ⟨r, rfl⟩ <;> simp [jnm]
    · have h := (jok_iff q).1 hq
      rw [if_pos ⟨hq, hl⟩]
      have hne : ¬ q.length = 0 := by omega
      rcases ht with rfl | ⟨r, rfl⟩
      · simp only [jnm, jfin]; rw [if_neg hne]
      · simp only [jnm, jfin]; rw [if_pos trivial, if_neg hne]
  | cons c p ih =>
    intro q hp hq hl
    simp only [List.mem_cons, not_or] at hp
    rw [List.cons_append, jnm, if_neg fun e => hp.1 e.symm]
    by_cases hc : jdg c = true
    · by_cases h4 : q.length = 4
      · rw [if_pos (Or.inr (Or.inr (Or.inl h4))), if_neg]
        intro h
        have := h.2
        simp at this
        omega
      · by_cases hz : 0 < q.length ∧ jval q = 0
        · rw [if_pos (Or.inr (Or.inr (Or.inr hz))), if_neg]
          intro h
          rcases hq with rfl | hq
          · simp at hz
          · rw [jok_zero hq hz.2] at h
            exact absurd h.1 (by decide)
        · have hc' := (jdg_iff c).1 hc
          rw [if_neg (by omega)]
          have := ih (q ++ [c]) hp.2 (Or.inr (jok_snoc hq hc hz)) (by simp; omega)
          rw [jval_snoc, List.length_append, List.length_singleton, List.append_assoc] at this
          exact this
    · rw [if_pos (by have := mt (jdg_iff c).2 hc; omega), if_neg]
      intro h
      have := ((jok_iff _).1 h.1).2.1
      rw [List.all_append, List.all_cons] at this
      simp only [Bool.and_eq_true] at this
      exact hc this.2.1

theorem jnm_first {p t : List UInt8} (ht : t = [] ∨ ∃ r, t = 32 :: r) (hp : 32 ∉ p) (out : List Nat) : jnm (p ++ t) 0 0 out = if jok p = true ∧ p.length ≤ 4 then jfin t (jval p) out else none :=
  jnm_piece t ht out p [] hp (Or.inl rfl) (by simp)

end Go.Proofs.YtpilmkipbbengaaGreatDoor

/- record: readNumber. -/
namespace Go.Proofs.YtpilmkipbbengaaGreatDoor
open Go.RowKit Go.Lib

theorem jval_mono (a b : List UInt8) : jval a ≤ jval (a ++ b) := by
  induction b generalizing a with
  | nil => simp
  | cons c b ih =>
    have h1 := ih (a ++ [c])
    rw [jval_snoc, List.append_assoc] at h1
    simp only [List.singleton_append] at h1
    omega

theorem take_snoc_of {s : List UInt8} {j : Nat} {c : UInt8} (h : s[j]? = some c) : s.take (j + 1) = s.take j ++ [c] := by
  rw [List.take_add_one, h]; rfl

theorem jnum_iff2 {l : List UInt8} {n : Nat} : jnum l = some n ↔ jok l = true ∧ jval l = n := by
  unfold jnum
  constructor
  · intro h
    split at h
    · rename_i hk
      injection h with h
      exact ⟨hk, h⟩
    · cases h
  · rintro ⟨h1, h2⟩
    rw [if_pos h1, h2]

/-- what readNumber answers -/
def RNum (s : List UInt8) (least most : Int) (x : Int) (b : Bool) : Prop := (b = true ∧ ∃ n : Nat, jnum s = some n ∧ x = n ∧ least ≤ n ∧ (n : Int) ≤ most) ∨ (b = false ∧ ∀ n : Nat, jnum s = some n → ¬ (least ≤ n ∧ (n : Int) ≤ most))

set_option maxRecDepth 100000 in
set_option maxHeartbeats 1600000 in
theorem readNumber_loop (s : List UInt8) (least most : Int) (w : World) (hs : s.length ≤ 9223372036854775807) (h0 : 0 ≤ most) (h1 : most ≤ 1000) (hb0 : ∀ c, s[0]? = some c → 1 < s.length → c ≠ 48) (hne : s ≠ []) : Calls Tryz.prog 95 #[.string ⟨s.toArray⟩, I least, I most] w fun e w' => w' = w ∧ ∃ x b, e = .returned (.tuple #[I x, .bool b]) ∧ RNum s least most x b := by
  have hem : s.isEmpty = false := by cases s with
    | nil => exact absurd rfl hne
    | cons a r => rfl
  have hl0 : 0 < s.length := List.length_pos_iff.2 hne
  obtain ⟨c0, hc0⟩ : ∃ c, s[0]? = some c := ⟨_, List.getElem?_eq_getElem hl0⟩
  have hby0 : (⟨s.toArray⟩ : ByteArray)[0]'hl0 = c0 := (List.getElem?_eq_some_iff.1 hc0).2
  have hz : 1 < s.length → ((c0.toNat : Int) == 48) = false := by
    intro h
    simp only [beq_eq_false_iff_ne]
    intro e
    exact hb0 c0 hc0 h (UInt8.toNat_inj.1 (show c0.toNat = 48 by omega))
  have hok : s.all jdg = true → jok s = true := fun ha => by
    rw [jok_iff]
    refine ⟨hl0, ha, ?_⟩
    rcases Nat.lt_or_ge 1 s.length with h | h
    · right
      intro e
      rw [List.head?_eq_getElem?, hc0] at e
      injection e with e
      exact hb0 c0 hc0 h e
    · left; omega
  have HOK := hide hok
  have HC := hide hc0
  clear hok hc0 hb0
  rcases Nat.lt_or_ge 1 s.length with hlen | hlen
  · have hz := hz hlen
    have hl1 : (1 : Int) < s.length := by omega
    go_enter Tryz.func95, Tryz.ntmps95
    go_wp2_with fail
    go_loopg [8, 9, 24] s.length (fun q n _ i wr => ∃ j : Nat, q + j = s.length ∧ i = I j ∧ n = I (jval (s.take j) : Nat) ∧ wr = w ∧ Hid ((s.take j).all jdg = true ∧ (jval (s.take j) : Int) ≤ most))
    case atStart => exact ⟨0, by omega, rfl, rfl, rfl, by simp, by simpa [jval] using h0⟩
    case round =>
      obtain ⟨j, hq, rfl, rfl, hw, hst⟩ := hrel
      subst hw
      have hv := (hst.out).2
      by_cases hj : j < s.length
      · obtain ⟨c, hc⟩ : ∃ c, s[j]? = some c := ⟨_, List.getElem?_eq_getElem hj⟩
        have hby : (⟨s.toArray⟩ : ByteArray)[j]'hj = c := (List.getElem?_eq_some_iff.1 hc).2
        have hts := take_snoc_of hc
        have hmem := List.mem_of_getElem? hc
        have hval : jval (s.take (j + 1)) = 10 * jval (s.take j) + (c.toNat - 48) := by rw [hts, jval_snoc]
        have hmono : jval (s.take (j + 1)) ≤ jval s := by
          have := jval_mono (s.take (j + 1)) (s.drop (j + 1))
          rwa [List.take_append_drop] at this
        have hall := (hst.out).1
        have MS : Hid (gk - 1 < gk) := by unfold Hid; omega
        by_cases hd : jdg c = true
        · have hd' := jdg_of hd
          have b1 : decide ((c.toNat : Int) < 48) = false := decide_eq_false (by omega)
          have b2 : decide (57 < (c.toNat : Int)) = false := decide_eq_false (by omega)
          have ev : 10 * (jval (s.take j) : Int) + ((c.toNat : Int) - 48) = (jval (s.take (j + 1)) : Nat) := by omega
          by_cases hbig : most < 10 * (jval (s.take j) : Int) + ((c.toNat : Int) - 48)
          · have BAD : Hid (∀ n : Nat, jnum s = some n → ¬ (least ≤ n ∧ (n : Int) ≤ most)) := by
              intro n hn hb
              have := (jnum_iff2.1 hn)
              omega
            clear hq hst hts hval hmono hall ev hc hmem
            generalize jval (s.take j) = v at *
            go_wp2_with fail
            go_ret2
            exact ⟨rfl, 0, false, rfl, Or.inr ⟨rfl, BAD.out⟩⟩
          · have NX : Hid (∃ j' : Nat, gk - 1 + j' = s.length ∧ I ((j : Int) + 1) = I j' ∧ I (10 * (jval (s.take j) : Int) + ((c.toNat : Int) - 48)) = I (jval (s.take j') : Nat) ∧ wr = wr ∧ Hid ((s.take j').all jdg = true ∧ (jval (s.take j') : Int) ≤ most)) := ⟨j + 1, by omega, by simp, by rw [ev], rfl, by rw [hts, List.all_append, hall]; simp [hd], by omega⟩
            have hb' : decide (most < 10 * (jval (s.take j) : Int) + ((c.toNat : Int) - 48)) = false := decide_eq_false hbig
            clear hq hst hts hval hmono hall ev hc hmem
            generalize jval (s.take j) = v at *
            go_wp2_with fail
            go_roundg (gk - 1)
            case measure => exact MS.out
            case rel =>
              obtain ⟨j', e1, e2, e3, -, e5⟩ := NX.out
              exact ⟨j', e1, e2, e3, rfl, e5⟩
        · have hd' := mt (jdg_iff c).2 hd
          have BAD : Hid (∀ n : Nat, jnum s = some n → ¬ (least ≤ n ∧ (n : Int) ≤ most)) := by
            intro n hn _
            exact hd (List.all_eq_true.1 ((jok_iff s).1 (jnum_iff2.1 hn).1).2.1 c hmem)
          clear hq hst hts hval hmono hall hc hmem
          generalize jval (s.take j) = v at *
          by_cases h48 : c.toNat < 48
          · have h48' : (c.toNat : Int) < 48 := by omega
            go_wp2_with fail
            go_ret2
            exact ⟨rfl, 0, false, rfl, Or.inr ⟨rfl, BAD.out⟩⟩
          · have h57 : 57 < (c.toNat : Int) := by omega
            have b1 : decide ((c.toNat : Int) < 48) = false := decide_eq_false (by omega)
            go_wp2_with fail
            go_ret2
            exact ⟨rfl, 0, false, rfl, Or.inr ⟨rfl, BAD.out⟩⟩
      · have hje : s.take j = s := List.take_of_length_le (by omega)
        have FIN : Hid (RNum s least most (jval s : Nat) (decide (least ≤ (jval s : Nat)))) := by
          have hall := (hst.out).1
          rw [hje] at hall hv
          have hn : jnum s = some (jval s) := jnum_iff2.2 ⟨HOK.out hall, rfl⟩
          by_cases hle : least ≤ (jval s : Nat)
          · exact Or.inl ⟨decide_eq_true hle, _, hn, rfl, hle, hv⟩
          · refine Or.inr ⟨decide_eq_false hle, fun n h hb => ?_⟩
            rw [hn] at h
            injection h with h
            omega
        rw [hje]
        have hj' : decide (j < s.length) = false := decide_eq_false hj
        clear hq hst hje hv
        generalize jval s = v at *
        go_wp2_with fail
        go_ret2
        exact ⟨rfl, _, _, rfl, FIN.out⟩
  · clear hz
    have hl1 : decide (1 < s.length) = false := decide_eq_false (by omega)
    have hl2 : s.length = 1 := by omega
    have HL := hide hl2
    clear hl2
    go_enter Tryz.func95, Tryz.ntmps95
    go_wp2_with fail
    go_loopg [8, 9, 24] s.length (fun q n _ i wr => ∃ j : Nat, q + j = s.length ∧ i = I j ∧ n = I (jval (s.take j) : Nat) ∧ wr = w ∧ Hid ((s.take j).all jdg = true ∧ (jval (s.take j) : Int) ≤ most))
    case atStart => exact ⟨0, by omega, rfl, rfl, rfl, by simp, by simpa [jval] using h0⟩
    case round =>
      obtain ⟨j, hq, rfl, rfl, hw, hst⟩ := hrel
      subst hw
      have hv := (hst.out).2
      by_cases hj : j < s.length
      · obtain ⟨c, hc⟩ : ∃ c, s[j]? = some c := ⟨_, List.getElem?_eq_getElem hj⟩
        have hby : (⟨s.toArray⟩ : ByteArray)[j]'hj = c := (List.getElem?_eq_some_iff.1 hc).2
        have hts := take_snoc_of hc
        have hmem := List.mem_of_getElem? hc
        have hval : jval (s.take (j + 1)) = 10 * jval (s.take j) + (c.toNat - 48) := by rw [hts, jval_snoc]
        have hmono : jval (s.take (j + 1)) ≤ jval s := by
          have := jval_mono (s.take (j + 1)) (s.drop (j + 1))
          rwa [List.take_append_drop] at this
        have hall := (hst.out).1
        have MS : Hid (gk - 1 < gk) := by unfold Hid; omega
        by_cases hd : jdg c = true
        · have hd' := jdg_of hd
          have b1 : decide ((c.toNat : Int) < 48) = false := decide_eq_false (by omega)
          have b2 : decide (57 < (c.toNat : Int)) = false := decide_eq_false (by omega)
          have ev : 10 * (jval (s.take j) : Int) + ((c.toNat : Int) - 48) = (jval (s.take (j + 1)) : Nat) := by omega
          by_cases hbig : most < 10 * (jval (s.take j) : Int) + ((c.toNat : Int) - 48)
          · have BAD : Hid (∀ n : Nat, jnum s = some n → ¬ (least ≤ n ∧ (n : Int) ≤ most)) := by
              intro n hn hb
              have := (jnum_iff2.1 hn)
              omega
            clear hq hst hts hval hmono hall ev hc hmem
            generalize jval (s.take j) = v at *
            go_wp2_with fail
            go_ret2
            exact ⟨rfl, 0, false, rfl, Or.inr ⟨rfl, BAD.out⟩⟩
          · have NX : Hid (∃ j' : Nat, gk - 1 + j' = s.length ∧ I ((j : Int) + 1) = I j' ∧ I (10 * (jval (s.take j) : Int) + ((c.toNat : Int) - 48)) = I (jval (s.take j') : Nat) ∧ wr = wr ∧ Hid ((s.take j').all jdg = true ∧ (jval (s.take j') : Int) ≤ most)) := ⟨j + 1, by omega, by simp, by rw [ev], rfl, by rw [hts, List.all_append, hall]; simp [hd], by omega⟩
            have hb' : decide (most < 10 * (jval (s.take j) : Int) + ((c.toNat : Int) - 48)) = false := decide_eq_false hbig
            clear hq hst hts hval hmono hall ev hc hmem
            generalize jval (s.take j) = v at *
            go_wp2_with fail
            go_roundg (gk - 1)
            case measure => exact MS.out
            case rel =>
              obtain ⟨j', e1, e2, e3, -, e5⟩ := NX.out
              exact ⟨j', e1, e2, e3, rfl, e5⟩
        · have hd' := mt (jdg_iff c).2 hd
          have BAD : Hid (∀ n : Nat, jnum s = some n → ¬ (least ≤ n ∧ (n : Int) ≤ most)) := by
            intro n hn _
            exact hd (List.all_eq_true.1 ((jok_iff s).1 (jnum_iff2.1 hn).1).2.1 c hmem)
          clear hq hst hts hval hmono hall hc hmem
          generalize jval (s.take j) = v at *
          by_cases h48 : c.toNat < 48
          · have h48' : (c.toNat : Int) < 48 := by omega
            go_wp2_with fail
            go_ret2
            exact ⟨rfl, 0, false, rfl, Or.inr ⟨rfl, BAD.out⟩⟩
          · have h57 : 57 < (c.toNat : Int) := by omega
            have b1 : decide ((c.toNat : Int) < 48) = false := decide_eq_false (by omega)
            go_wp2_with fail
            go_ret2
            exact ⟨rfl, 0, false, rfl, Or.inr ⟨rfl, BAD.out⟩⟩
      · have hje : s.take j = s := List.take_of_length_le (by omega)
        have FIN : Hid (RNum s least most (jval s : Nat) (decide (least ≤ (jval s : Nat)))) := by
          have hall := (hst.out).1
          rw [hje] at hall hv
          have hn : jnum s = some (jval s) := jnum_iff2.2 ⟨HOK.out hall, rfl⟩
          by_cases hle : least ≤ (jval s : Nat)
          · exact Or.inl ⟨decide_eq_true hle, _, hn, rfl, hle, hv⟩
          · refine Or.inr ⟨decide_eq_false hle, fun n h hb => ?_⟩
            rw [hn] at h
            injection h with h
            omega
        rw [hje]
        have hj' : decide (j < s.length) = false := decide_eq_false hj
        clear hq hst hje hv
        generalize jval s = v at *
        go_wp2_with fail
        go_ret2
        exact ⟨rfl, _, _, rfl, FIN.out⟩

set_option maxRecDepth 100000 in
set_option maxHeartbeats 1600000 in
theorem readNumber_any (s : List UInt8) (least most : Int) (w : World) (hs : s.length ≤ 9223372036854775807) (h0 : 0 ≤ most) (h1 : most ≤ 1000) : Calls Tryz.prog 95 #[.string ⟨s.toArray⟩, I least, I most] w fun e w' => w' = w ∧ ∃ x b, e = .returned (.tuple #[I x, .bool b]) ∧ RNum s least most x b := by
  by_cases hne : s = []
  · subst hne
    have BAD : Hid (∀ n : Nat, jnum [] = some n → ¬ (least ≤ n ∧ (n : Int) ≤ most)) := by
      intro n hn
      cases hn
    go_enter Tryz.func95, Tryz.ntmps95
    go_wp2_with fail
    go_ret2
    exact ⟨rfl, 0, false, rfl, Or.inr ⟨rfl, BAD.out⟩⟩
  · by_cases hb : ∀ c, s[0]? = some c → 1 < s.length → c ≠ 48
    · exact readNumber_loop s least most w hs h0 h1 hb hne
    · have hl0 : 0 < s.length := List.length_pos_iff.2 hne
      obtain ⟨c0, hc0⟩ : ∃ c, s[0]? = some c := ⟨_, List.getElem?_eq_getElem hl0⟩
      have hby0 : (⟨s.toArray⟩ : ByteArray)[0]'hl0 = c0 := (List.getElem?_eq_some_iff.1 hc0).2
      have hlen : 1 < s.length ∧ c0 = 48 := by
        refine Classical.byContradiction fun hx => hb fun c hc hl e => ?_
        rw [hc0] at hc
        injection hc with hc
        exact hx ⟨hl, by rw [hc]; exact e⟩
      obtain ⟨hlen, rfl⟩ := hlen
      have hem : s.isEmpty = false := by cases s with
        | nil => exact absurd rfl hne
        | cons a r => rfl
      have hl1 : (1 : Int) < s.length := by omega
      have BAD : Hid (∀ n : Nat, jnum s = some n → ¬ (least ≤ n ∧ (n : Int) ≤ most)) := by
        intro n hn
        have hk := ((jok_iff s).1 (jnum_iff2.1 hn).1).2.2
        rcases hk with hk | hk
        · omega
        · exact absurd (by rw [List.head?_eq_getElem?, hc0]) hk
      clear hb hc0
      go_enter Tryz.func95, Tryz.ntmps95
      go_wp2_with fail
      go_ret2
      exact ⟨rfl, 0, false, rfl, Or.inr ⟨rfl, BAD.out⟩⟩

end Go.Proofs.YtpilmkipbbengaaGreatDoor
