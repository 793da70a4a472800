/- record: doseLine, Write. -/
import Derived.Test.YtpilmkipbbengaaGreatDoorJbM
import Derived.Test.YtpilmkipbbengaaGreatDoorJref
namespace Go.Proofs.YtpilmkipbbengaaGreatDoor
open Go.RowKit Go.Lib

set_option maxRecDepth 100000 in
set_option maxHeartbeats 800000 in
theorem doseLine_any (d : Ds) (w : World) (tb : Tab w) (h : 0 ≤ d.tick ∧ d.tick ≤ 1000000 ∧ 0 ≤ d.ch ∧ d.ch ≤ 1000000 ∧ 0 ≤ d.amt ∧ d.amt ≤ 1000000) : Calls Tryz.prog 49 #[.agg #[I d.tick, I d.ch, I d.amt]] w fun e w' => e = .returned (.string ⟨(jline d ++ [10]).toArray⟩) ∧ Keep w w' := by
  obtain ⟨h0, h1, h2, h3, h4, h5⟩ := h
  obtain ⟨t, ht⟩ := Int.eq_ofNat_of_zero_le h0
  obtain ⟨k, hk⟩ := Int.eq_ofNat_of_zero_le h2
  obtain ⟨m, hm⟩ := Int.eq_ofNat_of_zero_le h4
  have DG : Hid (∀ (x : Nat) (W : World), x ≤ 1000000 → Hid (Keep w W ∧ Blk W w.heap.size #[I t, I k, I m] 100) → Calls Tryz.prog 50 #[I x] W fun e w' => e = .returned (.string ⟨(decDigits x).toArray⟩) ∧ w'.cell? ⟨w.heap.size, 0, none⟩ = some (I t) ∧ w'.cell? ⟨w.heap.size, 1, none⟩ = some (I k) ∧ w'.cell? ⟨w.heap.size, 2, none⟩ = some (I m) ∧ Hid (Keep w w' ∧ Blk w' w.heap.size #[I t, I k, I m] 100)) := by
    intro x W hx hW
    refine (itoa_any x hx W (tb.keep (hW.out).1)).mono ?_
    rintro e w' ⟨rfl, k'⟩
    have bl := k'.blk (hW.out).2
    exact ⟨rfl, by rw [bl.cell]; rfl, by rw [bl.cell]; rfl, by rw [bl.cell]; rfl, (hW.out).1.trans k', bl⟩
  have START : Hid (Keep w (w.alloc (.cells #[I t, I k, I m] 100)).drew ∧ Blk (w.alloc (.cells #[I t, I k, I m] 100)).drew w.heap.size #[I t, I k, I m] 100) := ⟨((Frm.refl _ _).alloc _).drew, Blk.new _ _ _⟩
  have ht' : t ≤ 1000000 := by omega
  have hk' : k ≤ 1000000 := by omega
  have hm' : m ≤ 1000000 := by omega
  have s1 : (decDigits t).length ≤ 20 := by rw [decDigits_length]; exact nDigits_le20 _ (by omega)
  have s2 : (decDigits k).length ≤ 20 := by rw [decDigits_length]; exact nDigits_le20 _ (by omega)
  have s3 : (decDigits m).length ≤ 20 := by rw [decDigits_length]; exact nDigits_le20 _ (by omega)
  have q1 : ¬ 9223372036854775807 < (decDigits t).length + 1 := by omega
  have q2 : ¬ 9223372036854775807 < (decDigits t).length + 1 + (decDigits k).length := by omega
  have q3 : ¬ 9223372036854775807 < (decDigits t).length + 1 + (decDigits k).length + 1 := by omega
  have q4 : ¬ 9223372036854775807 < (decDigits t).length + 1 + (decDigits k).length + 1 + (decDigits m).length := by omega
  have q5 : ¬ 9223372036854775807 < (decDigits t).length + 1 + (decDigits k).length + 1 + (decDigits m).length + 1 := by omega
  have EQ : Hid (jline d ++ [10] = decDigits t ++ [32] ++ decDigits k ++ [32] ++ decDigits m ++ [10]) := by
    show jline d ++ [10] = _
    simp only [jline, jdig, ht, hk, hm, Int.toNat_natCast]
  rw [ht, hk, hm]
  clear h0 h1 h2 h3 h4 h5 tb
  clear ht hk hm
  go_enter Tryz.func49, Tryz.ntmps49
  go_wp2_with fail
  go_region_held3 (fun w' => w'.cell? ⟨w.heap.size, 0, none⟩ = some (I t) ∧ w'.cell? ⟨w.heap.size, 1, none⟩ = some (I k) ∧ w'.cell? ⟨w.heap.size, 2, none⟩ = some (I m)) (((try dsimp only); (repeat' apply And.intro) <;> (go_keep; done))) (first | (go_at_call_of 50 (t : Int); refine (DG.out t _ ht' START).mono ?_; rintro e w2 ⟨rfl, y0, y1, y2, K2⟩) | (go_at_call_of 50 (k : Int); refine (DG.out k _ hk' K2).mono ?_; rintro e w3 ⟨rfl, y0, y1, y2, K3⟩) | (go_at_call_of 50 (m : Int); refine (DG.out m _ hm' K3).mono ?_; rintro e w4 ⟨rfl, y0, y1, y2, K4⟩))
  go_wp2_with fail
  go_ret
  refine ⟨ret_str ?_, (K4.out).1⟩
  rw [EQ.out]
  have e1 := bs_append (decDigits t) [32]
  have e2 := bs_append (decDigits t ++ [32]) (decDigits k)
  have e3 := bs_append (decDigits t ++ [32] ++ decDigits k) [32]
  have e4 := bs_append (decDigits t ++ [32] ++ decDigits k ++ [32]) (decDigits m)
  have e5 := bs_append (decDigits t ++ [32] ++ decDigits k ++ [32] ++ decDigits m) [10]
  rw [← e5, ← e4, ← e3, ← e2, ← e1]

theorem below_keep {w w' : World} (h : Below w.heap.size w w') : Keep w w' := ⟨h.os, h.tape, h.output, h.size, fun k hk _ => h.block k hk⟩
theorem keep_below {w w' : World} {B : Nat} (h : Keep w w') (hB : B ≤ w.heap.size) : Below B w w' := ⟨h.os, h.tape, h.output, h.size, fun k hk => h.block k (by omega) (fun e => e)⟩

theorem below_tr {B : Nat} {a b c : World} (h : Below B a b) (k : Below B b c) : Below B a c := ⟨k.os.trans h.os, k.tape.trans h.tape, k.output.trans h.output, Nat.le_trans h.size k.size, fun i hi => (k.block i hi).trans (h.block i hi)⟩

theorem bld_keep {w w' : World} {B b : Nat} {bs : List Value} (h : IsBuilder 107 5 B b bs w) (k : Keep w w') : IsBuilder 107 5 B b bs w' := by
  have key : ∀ p, BuilderAt 107 5 B b p bs w → BuilderAt 107 5 B b p bs w' := by
    rintro p ⟨h1, v, h2, h3, h4⟩
    have hlt : b < w.heap.size := by
      rcases Nat.lt_or_ge b w.heap.size with h' | h'
      · exact h'
      · simp [Array.getElem?_eq_none h'] at h2
    refine ⟨h1, v, by rw [k.block b hlt (fun e => e)]; exact h2, ⟨h3.1, ?_⟩, h4⟩
    rcases h3.2 with q | ⟨g, cap, cur, q1, q2, q3, q4, q5, q6, q7⟩
    · exact Or.inl q
    · refine Or.inr ⟨g, cap, cur, q1, q2, ?_, q4, q5, q6, q7⟩
      have hg : g < w.heap.size := by
        rcases Nat.lt_or_ge g w.heap.size with h' | h'
        · exact h'
        · simp [Array.getElem?_eq_none h'] at q3
      rw [k.block g hg (fun e => e)]; exact q3
  rcases h with h | h
  · exact Or.inl (key _ h)
  · exact Or.inr (key _ h)

theorem bld_new (w : World) : IsBuilder 107 5 w.heap.size w.heap.size (byteCells []) (w.alloc (.cells #[.pointer none, .slice none 0 0] 107)) := by
  refine Or.inl ⟨Nat.le_refl _, .slice none 0 0, ?_, World.ownsRow_nil .., by simp [Value.ownBlock]⟩
  show (w.heap.push _)[w.heap.size]? = _
  simp

theorem byteCells_app (a b : List UInt8) : byteCells a ++ strCells ⟨b.toArray⟩ = byteCells (a ++ b) := by simp [byteCells, strCells]

theorem write_line (B b : Nat) (l s : List UInt8) (W : World) (h : IsBuilder 107 5 B b (byteCells l) W) (hl : l.length + s.length ≤ 1000000000) (hB : B ≤ W.heap.size) :
    Calls Tryz.prog 48 #[.pointer (some ⟨b, 0, none⟩), .string ⟨s.toArray⟩] W fun e w' => (∃ n, e = .returned (.tuple #[n, .nilIface])) ∧ IsBuilder 107 5 B b (byteCells (l ++ s)) w' ∧ Below B W w' := by
  have hlen : (byteCells l).length + (ByteArray.mk s.toArray).size ≤ 140737488355328 := by
    have e : (ByteArray.mk s.toArray).size = s.length := by show s.toArray.size = _; simp
    rw [byteCells_length, e]
    omega
  refine (writeString_any B b (byteCells l) ⟨s.toArray⟩ W h hlen hB).mono ?_
  rintro e w' ⟨rfl, h1, h2⟩
  rw [byteCells_app] at h1
  exact ⟨⟨_, rfl⟩, Or.inr h1, h2⟩

set_option maxRecDepth 100000 in
set_option maxHeartbeats 1600000 in
theorem write_any (v : Value) (ds : List Ds) (now : Int) (w : World) (tb : Tab w) (hv : w.ownsRow 0 100 3 v ds.length (ds.flatMap dsC)) (hd : ∀ d ∈ ds, d.Ok) (hn : ds.length ≤ 100000) (n0 : 0 ≤ now) (n1 : now ≤ 400) :
    Calls Tryz.prog 24 #[v, I now] w fun e w' => e = .returned (.string ⟨(jtext ds now).toArray⟩) ∧ Keep w w' := by
  obtain ⟨ad, cpd, hvv⟩ := row_slice hv
  subst hvv
  have H := hide (And.intro tb (And.intro hv hd))
  clear tb hv hd
  go_enter Tryz.func24, Tryz.ntmps24
  go_wp2_with fail
  go_loopg [7, 10] ds.length (fun q _ i wr => ∃ j : Nat, q + j = ds.length ∧ i = I j ∧ Hid (IsBuilder 107 5 w.heap.size w.heap.size (byteCells (jbody (ds.take j))) wr ∧ Below w.heap.size w wr))
  case atStart => exact ⟨0, by omega, rfl, bld_new w, keep_below ((Frm.refl _ _).alloc _) (Nat.le_refl _)⟩
  case round =>
    obtain ⟨j, hq, rfl, hst⟩ := hrel
    have kw := below_keep (hst.out).2
    have sz := kw.size
    have hr := row_frm (H.out).2.1 kw (fun _ _ e => e)
    by_cases hj : j < ds.length
    · obtain ⟨d, hd⟩ : ∃ d, ds[j]? = some d := ⟨_, List.getElem?_eq_getElem hj⟩
      obtain ⟨g, cap, hv, -, hcell, -⟩ := row_at hr (fun _ => rfl) hd (by decide)
      injection hv with hv1 hv2 hv3
      subst hv1
      have d0 := hcell 0 (by decide)
      have d1 := hcell 1 (by decide)
      have d2 := hcell 2 (by decide)
      simp only [Nat.add_zero, dsC, List.getElem?_cons_zero, List.getElem?_cons_succ] at d0 d1 d2
      have okd := (H.out).2.2 d (List.mem_of_getElem? hd)
      have hbl := jbody_len (ds := ds.take j) fun d hd => (H.out).2.2 d (List.mem_of_mem_take hd)
      have htl : (ds.take j).length ≤ ds.length := by simp; omega
      have hll := jline_len okd
      have hsu := jbody_succ hd
      have CALL : Hid (∀ W, Keep wr W → Calls Tryz.prog 49 #[.agg #[I d.tick, I d.ch, I d.amt]] W fun e w' => e = .returned (.string ⟨(jline d ++ [10]).toArray⟩) ∧ Hid (Keep wr w')) := by
        intro W kW
        refine (doseLine_any d W ((H.out).1.keep (kw.trans kW)) ⟨okd.t0, by have := okd.t1; omega, okd.c0, by have := okd.c1; omega, by have := okd.a0; omega, by have := okd.a1; omega⟩).mono ?_
        rintro e w' ⟨rfl, k'⟩
        exact ⟨rfl, kW.trans k'⟩
      have CALL2 : Hid (∀ W, Hid (Keep wr W) → Calls Tryz.prog 48 #[.pointer (some ⟨w.heap.size, 0, none⟩), .string ⟨(jline d ++ [10]).toArray⟩] W fun e w' => ∃ n, e = .returned (.tuple #[n, .nilIface]) ∧ ∃ k' : Nat, k' < gk ∧ ∃ j' : Nat, k' + j' = ds.length ∧ I ((j : Int) + 1) = I j' ∧ Hid (IsBuilder 107 5 w.heap.size w.heap.size (byteCells (jbody (ds.take j'))) w' ∧ Below w.heap.size w w')) := by
        intro W kW
        have hB := bld_keep (hst.out).1 kW.out
        have hsz := (kW.out).size
        have hbb := keep_below (B := w.heap.size) kW.out (by omega)
        have hst2 := (hst.out).2
        refine (write_line w.heap.size w.heap.size (jbody (ds.take j)) (jline d ++ [10]) W hB (by omega) (by omega)).mono ?_
        rintro e w' ⟨⟨n, rfl⟩, h1, h2⟩
        refine ⟨n, rfl, gk - 1, by omega, j + 1, by omega, by simp, ?_, ?_⟩
        · rw [hsu]; exact h1
        · exact below_tr (below_tr hst2 hbb) h2
      clear hcell hsu hll htl hbl okd hd hst kw hr hv2 hv3
      go_wp2_with fail
      refine (CALL.out _ (by exact (Frm.refl _ _).alloc _)).mono ?_
      rintro e w2 ⟨rfl, K2⟩
      go_wp2_with fail
      refine (CALL2.out _ K2).mono ?_
      rintro e w3 ⟨n, rfl, k', m1, m2⟩
      have M1 := hide m1
      have M2 := hide m2
      clear m1 m2
      go_wp2_with fail
      go_roundg k'
      case measure => exact M1.out
      case rel => exact M2.out
    · have hje : j = ds.length := by omega
      subst hje
      obtain ⟨nw, rfl⟩ := Int.eq_ofNat_of_zero_le n0
      have hbl := jbody_len (ds := ds) (H.out).2.2
      have hl20 : (decDigits nw).length ≤ 20 := by rw [decDigits_length]; exact nDigits_le20 _ (by omega)
      have IT : Hid (Calls Tryz.prog 50 #[I nw] wr fun e w' => e = .returned (.string ⟨(decDigits nw).toArray⟩) ∧ Hid (Keep wr w')) := by
        refine (itoa_any nw (by omega) wr ((H.out).1.keep kw)).mono ?_
        rintro e w' ⟨rfl, k'⟩
        exact ⟨rfl, k'⟩
      have CALL2 : Hid (∀ W, Hid (Keep wr W) → Calls Tryz.prog 48 #[.pointer (some ⟨w.heap.size, 0, none⟩), .string ⟨([61, 32] ++ decDigits nw ++ [10]).toArray⟩] W fun e w' => ∃ n, e = .returned (.tuple #[n, .nilIface]) ∧ Hid (IsBuilder 107 5 w.heap.size w.heap.size (byteCells (jtext ds nw)) w' ∧ Below w.heap.size w w')) := by
        intro W kW
        have hB := bld_keep (hst.out).1 kW.out
        have hsz := (kW.out).size
        have hbb := keep_below (B := w.heap.size) kW.out (by omega)
        have hst2 := (hst.out).2
        rw [List.take_length] at hB
        refine (write_line w.heap.size w.heap.size (jbody ds) ([61, 32] ++ decDigits nw ++ [10]) W hB (by simp; omega) (by omega)).mono ?_
        rintro e w' ⟨⟨n, rfl⟩, h1, h2⟩
        refine ⟨n, rfl, ?_, below_tr (below_tr hst2 hbb) h2⟩
        have e : jtext ds nw = jbody ds ++ ([61, 32] ++ decDigits nw ++ [10]) := by simp [jtext, jbody, jlast, jdig]
        rw [e]; exact h1
      have CALL3 : Hid (∀ W, Hid (IsBuilder 107 5 w.heap.size w.heap.size (byteCells (jtext ds nw)) W ∧ Below w.heap.size w W) → Calls Tryz.prog 51 #[.pointer (some ⟨w.heap.size, 0, none⟩)] W fun e w' => e = .returned (.string ⟨(jtext ds nw).toArray⟩) ∧ Hid (Keep w w')) := by
        intro W hW
        refine (bString_any w.heap.size w.heap.size (jtext ds nw) W (hW.out).1 ?_).mono ?_
        · simp [jtext, jlast]
        · rintro e w' ⟨rfl, h2⟩
          exact ⟨rfl, below_keep (below_tr (hW.out).2 h2)⟩
      have e1 : ∀ l : List UInt8, (ByteArray.mk #[61, 32] ++ ByteArray.mk l.toArray) ++ ByteArray.mk #[10] = ByteArray.mk ([61, 32] ++ l ++ [10]).toArray := by
        intro l
        rw [← bs_append ([61, 32] ++ l) [10], ← bs_append [61, 32] l]
      have E1 := hide (e1 (decDigits nw))
      have q1 : ¬ 9223372036854775807 < 2 + (decDigits nw).length := by omega
      have q2 : ¬ 9223372036854775807 < 2 + (decDigits nw).length + 1 := by omega
      clear hst kw hr hbl e1
      generalize decDigits nw = l at *
      go_wp2_with fail
      refine (IT.out).mono ?_
      rintro e w2 ⟨rfl, K2⟩
      go_wp2_with fail
      rw [E1.out]
      refine (CALL2.out _ K2).mono ?_
      rintro e w3 ⟨n, rfl, K3⟩
      go_wp2_with fail
      refine (CALL3.out _ K3).mono ?_
      rintro e w4 ⟨rfl, K4⟩
      go_wp2_with fail
      go_ret
      exact ⟨rfl, K4.out⟩

end Go.Proofs.YtpilmkipbbengaaGreatDoor
