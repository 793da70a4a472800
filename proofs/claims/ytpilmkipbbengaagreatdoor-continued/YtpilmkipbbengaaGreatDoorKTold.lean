/- Told: the law. -/
import Derived.Test.YtpilmkipbbengaaGreatDoorKeM
import Derived.Test.YtpilmkipbbengaaGreatDoorKcfg
import Derived.Test.YtpilmkipbbengaaGreatDoorJcM
namespace Go.Proofs.YtpilmkipbbengaaGreatDoor
open Go.RowKit Go.Lib

theorem pk010 : pk 0 10 = 0 := by decide

theorem lims_fine (caps : List Lim) : fineB 3 (limsOf caps) 0 = true := by
  have h1 : (limsOf caps).length ≤ 4 := by simp [limsOf]; omega
  simp only [fineB, Bool.and_eq_true, Bool.not_eq_true', List.all_eq_true]
  refine ⟨by simp [badHead]; omega, ?_⟩
  intro l hl
  obtain ⟨x, -, rfl⟩ := List.mem_map.1 hl
  obtain ⟨ho, h7⟩ := foldL_ok x
  obtain ⟨a1, a2, a3, a4, a5, a6⟩ := ho
  have hp : (2 : Int) ^ (3 : Int).toNat = 8 := rfl
  simp only [badLim, hp]
  simp
  omega

theorem extr_take (s : List UInt8) (n : Nat) : ({ data := s.toArray } : ByteArray).extract 0 n = ⟨(s.take n).toArray⟩ := by
  apply ByteArray.ext
  simp [ByteArray.data_extract]

theorem JPos.again {s : List UInt8} {i line a : Nat} (h : JPos s i line a) : JPos s a line a := ⟨Nat.le_refl _, Nat.le_trans h.le h.len, h.one, h.head, by simp⟩

set_option maxRecDepth 100000 in
set_option maxHeartbeats 3200000 in
theorem told_any {pa : Rep} {tab : World → Prop} (P : Pumpy 25 32 46 14 78 pa) (O : Orderly 34 35 47 21 15 pa) (T : Telly 12 13 pa tab) (tk : ∀ {w w' : World}, tab w → Keep w w' → tab w') (CF : ConfigSpec)
    (ac : Option Addr) (caps : List Lim) (cpc : Nat) (s more : List UInt8) (w : World) (tb : tab w) (hs : SeeL w ac caps) (hin : ∀ x ∈ caps, x.In) (hsl : s.length ≤ 140737488355328) (hml : more.length ≤ 140737488355328) :
    Calls Tryz.prog 6 #[.slice ac caps.length cpc, .string ⟨s.toArray⟩, .string ⟨more.toArray⟩] w fun e w' => e = .returned (.bool true) ∧ Keep w w' := by
  have OR : Hid (Calls Tryz.prog 9 #[] w fun e w' => e = .returned (.bool true) ∧ Hid (Keep w w')) := (kopened_any P O T tk w tb).mono fun e w' q => q
  have CG : Hid (∀ w0, Keep w w0 → Calls Tryz.prog 10 #[.slice ac caps.length cpc, I 0] w0 fun e w1 => ∃ a cap, e = .returned (.agg #[I 3, .slice a (limsOf caps).length cap, I 0]) ∧ Hid (Keep w w1 ∧ CfgAt w1 (.slice a (limsOf caps).length cap) (limsOf caps) 0)) := by
    intro w0 k0
    refine (CF ac caps cpc 0 w0 (hs.frm k0 fun _ _ _ e => e) hin (by unfold In64; omega)).mono ?_
    rintro e w1 ⟨v, rfl, k1, hr, hn⟩
    have hc := cfg_at (lockout := 0) hr
    rw [pk010] at hc ⊢
    obtain ⟨a, cap, rfl, -⟩ := hc.see
    exact ⟨a, cap, rfl, k0.trans k1, hc⟩
  have OP : Hid (∀ w2 a cap (u : List UInt8), u.length ≤ 2000000000000000000 → Hid (Keep w w2 ∧ CfgAt w2 (.slice a (limsOf caps).length cap) (limsOf caps) 0) → Calls Tryz.prog 13 #[.agg #[I 3, .slice a (limsOf caps).length cap, I 0], .string ⟨u.toArray⟩] w2 fun e w3 => OpenOut pa w2 3 (limsOf caps) 0 u e w3) := by
    intro w2 a cap u hu hh
    obtain ⟨k2, hc⟩ := hh.out
    obtain ⟨a', cap', e, h1, h2⟩ := hc.see
    injection e with e1 e2 e3
    subst e1; subst e3
    have nl := hc.nl
    exact T.opens 3 a (limsOf caps) cap 0 u w2 (tk tb k2) h1 h2 (by omega) hu
  have hfine := lims_fine caps
  have KP : Hid (∀ {w2 w3 : World} {v : Value}, Hid (Keep w w2 ∧ CfgAt w2 v (limsOf caps) 0) → Keep w2 w3 → Hid (Keep w w3 ∧ CfgAt w3 v (limsOf caps) 0)) := fun hh k => ⟨(hh.out).1.trans k, (hh.out).2.keep k⟩
  have TB := hide (And.intro tb (@tk))
  generalize limsOf caps = lims at *
  clear hs hin tb CF
  cases ho : opened 3 lims 0 s with
  | ok R =>
    obtain ⟨okR, fullR, ds, now, hR, hst, -⟩ := opened_ok ho
    have hjt : jtext R.doses R.now = s := by rw [hR, hst]; rfl
    have OP1 : Hid (∀ w2 a cap, Hid (Keep w w2 ∧ CfgAt w2 (.slice a lims.length cap) lims 0) → Calls Tryz.prog 13 #[.agg #[I 3, .slice a lims.length cap, I 0], .string ⟨s.toArray⟩] w2 fun e w3 => ∃ b, e = .returned (.tuple #[.pointer (some ⟨b, 0, none⟩), I 0, I 0]) ∧ Hid (Keep w w3 ∧ ∃ F, pa w3 F b R)) := by
      intro w2 a cap hh
      refine (OP.out w2 a cap s (by omega) hh).mono ?_
      rintro e w3 ⟨k3, h3⟩
      rw [ho] at h3
      obtain ⟨b, F, rfl, h4, -⟩ := h3
      exact ⟨b, rfl, (hh.out).1.trans k3, F, h4⟩
    have JN : Hid (∀ w3 b, Hid (Keep w w3 ∧ ∃ F, pa w3 F b R) → Calls Tryz.prog 12 #[.pointer (some ⟨b, 0, none⟩)] w3 fun e w4 => e = .returned (.string ⟨s.toArray⟩) ∧ Hid (Keep w w4)) := by
      intro w3 b hh
      obtain ⟨k3, F, h3⟩ := hh.out
      refine (T.tell w3 F b R ((TB.out).2 (TB.out).1 k3) h3 okR fullR).mono ?_
      rintro e w4 ⟨rfl, k4⟩
      rw [hjt]
      exact ⟨rfl, k3.trans k4⟩
    clear ho hst hR hjt
    go_enter Tryz.func6, Tryz.ntmps6
    go_wp2_with fail
    refine (OR.out).mono ?_
    rintro e w0 ⟨rfl, K0⟩
    go_wp2_with fail
    refine (CG.out w0 K0.out).mono ?_
    rintro e w1 ⟨a, cap, rfl, K1⟩
    have K2 := KP.out K1 ((Frm.refl _ w1).alloc (.cells #[I 3, .slice a lims.length cap, I 0] 30))
    go_wp2_with fail
    refine (OP1.out _ a cap K2).mono ?_
    rintro e w3 ⟨b, rfl, K3⟩
    go_wp2_with fail
    refine (JN.out w3 b K3).mono ?_
    rintro e w4 ⟨rfl, K4⟩
    go_wp2_with fail
    go_ret
    exact ⟨rfl, K4.out⟩
  | error p =>
    obtain ⟨n, x⟩ := p
    obtain ⟨k, rfl, k1, kc, hx⟩ := opened_err hfine ho
    have OP1 : Hid (∀ w1 a cap, Hid (Keep w w1 ∧ CfgAt w1 (.slice a lims.length cap) lims 0) → Calls Tryz.prog 13 #[.agg #[I 3, .slice a lims.length cap, I 0], .string ⟨s.toArray⟩] (w1.alloc (.cells #[I 3, .slice a lims.length cap, I 0] 30)) fun e w3 => e = .returned (.tuple #[.pointer none, I k, I x]) ∧ w3.cell? ⟨w1.heap.size, 0, none⟩ = some (I 3) ∧ w3.cell? ⟨w1.heap.size, 1, none⟩ = some (.slice a lims.length cap) ∧ w3.cell? ⟨w1.heap.size, 2, none⟩ = some (I 0) ∧ w1.heap.size < w3.heap.size ∧ Hid (Keep w w3 ∧ CfgAt w3 (.slice a lims.length cap) lims 0)) := by
      intro w1 a cap hh
      have h2 := KP.out hh ((Frm.refl _ w1).alloc (.cells #[I 3, .slice a lims.length cap, I 0] 30))
      refine (OP.out _ a cap s (by omega) h2).mono ?_
      rintro e w3 ⟨k3, h3⟩
      rw [ho] at h3
      have bx := k3.blk (Blk.new w1 #[I 3, .slice a lims.length cap, I 0] 30)
      exact ⟨h3, by rw [bx.cell]; rfl, by rw [bx.cell]; rfl, by rw [bx.cell]; rfl, bx.lt, KP.out h2 k3⟩
    have kb : k ≤ 140737488355329 := by
      have := List.count_le_length (l := s) (a := 10)
      omega
    have EX : Hid (∀ j ln at_, ln ≤ k → JPos s j ln at_ → (j = s.length ∨ ln = k) → ln = k) := by
      intro j ln at_ h1 h2 h3
      rcases h3 with rfl | h3
      · have := h2.over; omega
      · exact h3
    rcases hx with ⟨rfl, hj⟩ | rfl
    · have OP2 : Hid (∀ w3 W a cap j at_, Hid (Keep w w3 ∧ CfgAt w3 (.slice a lims.length cap) lims 0) → Keep w3 W → Hid (JPos s j k at_) → s[j]? = some 10 → Calls Tryz.prog 13 #[.agg #[I 3, .slice a lims.length cap, I 0], .string ⟨(s.take (j + 1) ++ more).toArray⟩] W fun e w4 => e = .returned (.tuple #[.pointer none, I k, I 5]) ∧ Keep w3 w4) := by
        intro w3 W a cap j at_ hh kW hp hc
        have hl : (s.take (j + 1) ++ more).length ≤ 2000000000000000000 := by simp; omega
        refine (OP.out W a cap _ hl (KP.out hh kW)).mono ?_
        rintro e w4 ⟨k4, h4⟩
        rw [opened_more hfine hj (hp.out) hc more] at h4
        exact ⟨h4, kW.trans k4⟩
      clear ho hj OP kc
      go_enter Tryz.func6, Tryz.ntmps6
      go_wp2_with fail
      refine (OR.out).mono ?_
      rintro e w0 ⟨rfl, K0⟩
      go_wp2_with fail
      refine (CG.out w0 K0.out).mono ?_
      rintro e w1 ⟨a, cap, rfl, K1⟩
      go_wp2_with fail
      refine (OP1.out w1 a cap K1).mono ?_
      rintro e w3 ⟨rfl, z0, z1, z2, zl, K3⟩
      have kp : (1 : Int) ≤ k := by omega
      go_wp2_with fail
      go_loopg [12, 13, 14] s.length (fun q l a i wr => ∃ (ln at_ j : Nat), q + j = s.length ∧ l = I ln ∧ a = I at_ ∧ i = I j ∧ wr = w3 ∧ ln ≤ k ∧ at_ ≤ s.length ∧ Hid (JPos s j ln at_))
      case atStart => exact ⟨1, 0, 0, by omega, rfl, rfl, rfl, rfl, by omega, by omega, JPos.start s⟩
      case round =>
        obtain ⟨ln, at_, j, hq, rfl, rfl, rfl, hw, hlk, hal, hp⟩ := hrel
        have hw := hw.symm
        subst hw
        by_cases hjl : j < s.length ∧ ln < k
        · obtain ⟨hj1, hj2⟩ := hjl
          obtain ⟨c, hc⟩ : ∃ c, s[j]? = some c := ⟨_, List.getElem?_eq_getElem hj1⟩
          have hby : (⟨s.toArray⟩ : ByteArray)[j]'hj1 = c := (List.getElem?_eq_some_iff.1 hc).2
          by_cases h10 : c = 10
          · have N : Hid (JPos s (j + 1) (ln + 1) (j + 1)) := (hp.out).line (by rw [hc, h10])
            subst h10
            clear hc
            have hl1 : (j : Int) < s.length := by omega
            have hl2 : (ln : Int) < k := by omega
            go_wp2_with fail
            go_roundg (gk - 1)
            case measure => omega
            case rel => exact ⟨ln + 1, j + 1, j + 1, by omega, by simp, by simp, by simp, rfl, by omega, by omega, N.out⟩
          · have N : Hid (JPos s (j + 1) ln at_) := (hp.out).skip hc h10
            have hz : ((c.toNat : Int) == 10) = false := by
              simp only [beq_eq_false_iff_ne]
              intro e
              exact h10 (UInt8.toNat_inj.1 (show c.toNat = 10 by omega))
            clear hc h10
            have hl1 : (j : Int) < s.length := by omega
            have hl2 : (ln : Int) < k := by omega
            go_wp2_with fail
            go_roundg (gk - 1)
            case measure => omega
            case rel => exact ⟨ln, at_, j + 1, by omega, rfl, rfl, by simp, rfl, by omega, by omega, N.out⟩
        · have hlk2 : ln = k := EX.out j ln at_ hlk hp.out (by have := (hp.out).len; omega)
          have hp2 := hide (hp.out).again
          subst hlk2
          have hcase : decide (j < s.length) = false ∨ ((j : Int) < s.length ∧ decide ((ln : Int) < ln) = false) := by
            by_cases q : j < s.length
            · exact Or.inr ⟨by omega, by simp⟩
            · exact Or.inl (by simpa using q)
          clear hjl hq hp hlk
          rcases hcase with h1 | ⟨h1, h2⟩
          all_goals
            go_wp2_with fail
            go_loopg [15] (s.length - at_) (fun q e wr => ∃ j : Nat, q + j = s.length ∧ e = I j ∧ wr = w3 ∧ at_ ≤ j ∧ Hid (JPos s j ln at_))
            case atStart => exact ⟨at_, by omega, rfl, rfl, by omega, hp2⟩
            case round =>
              obtain ⟨e, hq, rfl, hw, hae, hpe⟩ := hrel
              have hw := hw.symm
              subst hw
              by_cases hel : e < s.length
              · obtain ⟨c, hc⟩ : ∃ c, s[e]? = some c := ⟨_, List.getElem?_eq_getElem hel⟩
                have hby : (⟨s.toArray⟩ : ByteArray)[e]'hel = c := (List.getElem?_eq_some_iff.1 hc).2
                have hl1 : (e : Int) < s.length := by omega
                by_cases h10 : c = 10
                · subst h10
                  have hne : ((e : Int) == s.length) = false := by simp; omega
                  have hs1 : (0 : Int) ≤ (e : Int) + 1 := by omega
                  have hs2 : (e : Int) + 1 ≤ (s.length : Int) := by omega
                  have hs3 : IntKind.i64.wrap ((e : Int) + 1) = (e : Int) + 1 := by rw [IntKind.wrap_i64]; omega
                  have hs4 : ¬ 9223372036854775807 < min (e + 1) s.length + more.length := by omega
                  have e1 : ({ data := s.toArray } : ByteArray).extract 0 (e + 1) ++ ({ data := more.toArray } : ByteArray) = ⟨(s.take (e + 1) ++ more).toArray⟩ := by
                    rw [← bs_append (s.take (e + 1)) more, extr_take]
                  have OP3 : Hid (Calls Tryz.prog 13 #[.agg #[I 3, .slice a lims.length cap, I 0], .string (({ data := s.toArray } : ByteArray).extract 0 (e + 1) ++ ({ data := more.toArray } : ByteArray))] w3.drew fun e w4 => e = .returned (.tuple #[.pointer none, I ln, I 5]) ∧ w4.cell? ⟨w1.heap.size, 0, none⟩ = some (I 3) ∧ w4.cell? ⟨w1.heap.size, 1, none⟩ = some (.slice a lims.length cap) ∧ w4.cell? ⟨w1.heap.size, 2, none⟩ = some (I 0) ∧ Hid (Keep w w4)) := by
                    rw [e1]
                    refine (OP2.out w3 w3.drew a cap e at_ K3 ((Frm.refl _ _).drew) hpe hc).mono ?_
                    rintro e w4 ⟨rfl, k4⟩
                    exact ⟨rfl, k4.cell z0 (fun e => e), k4.cell z1 (fun e => e), k4.cell z2 (fun e => e), (K3.out).1.trans k4⟩
                  have hne2 : ((e : Int) == s.length) = false := hne
                  clear e1 hc hpe hp2 OP2 EX T
                  go_wp2_with fail
                  go_region_held3 (fun w' => w'.cell? ⟨w1.heap.size, 0, none⟩ = some (I 3) ∧ w'.cell? ⟨w1.heap.size, 1, none⟩ = some (.slice a lims.length cap) ∧ w'.cell? ⟨w1.heap.size, 2, none⟩ = some (I 0)) (((try dsimp only); (repeat' apply And.intro) <;> (go_keep; done))) (first | (go_at_call 13; refine (OP3.out).mono ?_; rintro e w4 ⟨rfl, y0, y1, y2, K4⟩))
                  go_wp2_with fail
                  go_ret
                  exact ⟨rfl, K4.out⟩
                · have N : Hid (JPos s (e + 1) ln at_) := (hpe.out).skip hc h10
                  have hz : ((c.toNat : Int) == 10) = false := by
                    simp only [beq_eq_false_iff_ne]
                    intro e
                    exact h10 (UInt8.toNat_inj.1 (show c.toNat = 10 by omega))
                  clear hc h10 hpe
                  go_wp2_with fail
                  go_roundg (gk - 1)
                  case measure => omega
                  case rel => exact ⟨e + 1, by omega, by simp, rfl, by omega, N.out⟩
              · have hee : e = s.length := by have := (hpe.out).len; omega
                subst hee
                clear hpe hp2
                go_wp2_with fail
                go_ret
                exact ⟨rfl, (K3.out).1⟩
    · clear ho OP kc
      go_enter Tryz.func6, Tryz.ntmps6
      go_wp2_with fail
      refine (OR.out).mono ?_
      rintro e w0 ⟨rfl, K0⟩
      go_wp2_with fail
      refine (CG.out w0 K0.out).mono ?_
      rintro e w1 ⟨a, cap, rfl, K1⟩
      go_wp2_with fail
      refine (OP1.out w1 a cap K1).mono ?_
      rintro e w3 ⟨rfl, z0, z1, z2, zl, K3⟩
      have kp : (1 : Int) ≤ k := by omega
      go_wp2_with fail
      go_loopg [12, 13, 14] s.length (fun q l a i wr => ∃ (ln at_ j : Nat), q + j = s.length ∧ l = I ln ∧ a = I at_ ∧ i = I j ∧ wr = w3 ∧ ln ≤ k ∧ at_ ≤ s.length ∧ Hid (JPos s j ln at_))
      case atStart => exact ⟨1, 0, 0, by omega, rfl, rfl, rfl, rfl, by omega, by omega, JPos.start s⟩
      case round =>
        obtain ⟨ln, at_, j, hq, rfl, rfl, rfl, hw, hlk, hal, hp⟩ := hrel
        have hw := hw.symm
        subst hw
        by_cases hjl : j < s.length ∧ ln < k
        · obtain ⟨hj1, hj2⟩ := hjl
          obtain ⟨c, hc⟩ : ∃ c, s[j]? = some c := ⟨_, List.getElem?_eq_getElem hj1⟩
          have hby : (⟨s.toArray⟩ : ByteArray)[j]'hj1 = c := (List.getElem?_eq_some_iff.1 hc).2
          by_cases h10 : c = 10
          · have N : Hid (JPos s (j + 1) (ln + 1) (j + 1)) := (hp.out).line (by rw [hc, h10])
            subst h10
            clear hc
            have hl1 : (j : Int) < s.length := by omega
            have hl2 : (ln : Int) < k := by omega
            go_wp2_with fail
            go_roundg (gk - 1)
            case measure => omega
            case rel => exact ⟨ln + 1, j + 1, j + 1, by omega, by simp, by simp, by simp, rfl, by omega, by omega, N.out⟩
          · have N : Hid (JPos s (j + 1) ln at_) := (hp.out).skip hc h10
            have hz : ((c.toNat : Int) == 10) = false := by
              simp only [beq_eq_false_iff_ne]
              intro e
              exact h10 (UInt8.toNat_inj.1 (show c.toNat = 10 by omega))
            clear hc h10
            have hl1 : (j : Int) < s.length := by omega
            have hl2 : (ln : Int) < k := by omega
            go_wp2_with fail
            go_roundg (gk - 1)
            case measure => omega
            case rel => exact ⟨ln, at_, j + 1, by omega, rfl, rfl, by simp, rfl, by omega, by omega, N.out⟩
        · have hlk2 : ln = k := EX.out j ln at_ hlk hp.out (by have := (hp.out).len; omega)
          have hp2 := hide (hp.out).again
          subst hlk2
          have hcase : decide (j < s.length) = false ∨ ((j : Int) < s.length ∧ decide ((ln : Int) < ln) = false) := by
            by_cases q : j < s.length
            · exact Or.inr ⟨by omega, by simp⟩
            · exact Or.inl (by simpa using q)
          clear hjl hq hp hlk
          rcases hcase with h1 | ⟨h1, h2⟩
          all_goals
            go_wp2_with fail
            go_loopg [15] (s.length - at_) (fun q e wr => ∃ j : Nat, q + j = s.length ∧ e = I j ∧ wr = w3 ∧ at_ ≤ j ∧ Hid (JPos s j ln at_))
            case atStart => exact ⟨at_, by omega, rfl, rfl, by omega, hp2⟩
            case round =>
              obtain ⟨e, hq, rfl, hw, hae, hpe⟩ := hrel
              have hw := hw.symm
              subst hw
              by_cases hel : e < s.length
              · obtain ⟨c, hc⟩ : ∃ c, s[e]? = some c := ⟨_, List.getElem?_eq_getElem hel⟩
                have hby : (⟨s.toArray⟩ : ByteArray)[e]'hel = c := (List.getElem?_eq_some_iff.1 hc).2
                have hl1 : (e : Int) < s.length := by omega
                by_cases h10 : c = 10
                · subst h10
                  clear hc hpe hp2 EX T
                  go_wp2_with fail
                  go_ret
                  exact ⟨rfl, (K3.out).1⟩
                · have N : Hid (JPos s (e + 1) ln at_) := (hpe.out).skip hc h10
                  have hz : ((c.toNat : Int) == 10) = false := by
                    simp only [beq_eq_false_iff_ne]
                    intro e
                    exact h10 (UInt8.toNat_inj.1 (show c.toNat = 10 by omega))
                  clear hc h10 hpe
                  go_wp2_with fail
                  go_roundg (gk - 1)
                  case measure => omega
                  case rel => exact ⟨e + 1, by omega, by simp, rfl, by omega, N.out⟩
              · have hee : e = s.length := by have := (hpe.out).len; omega
                subst hee
                clear hpe hp2
                go_wp2_with fail
                go_ret
                exact ⟨rfl, (K3.out).1⟩

end Go.Proofs.YtpilmkipbbengaaGreatDoor
