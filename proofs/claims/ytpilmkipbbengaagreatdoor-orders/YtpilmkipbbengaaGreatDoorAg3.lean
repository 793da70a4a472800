/- heap.Pop, heap.Remove. -/
import Derived.Test.YtpilmkipbbengaaGreatDoorAg2
namespace Go.Proofs.YtpilmkipbbengaaGreatDoor
open Go.RowKit

/-- what heap.Pop and heap.Remove leave: x is out -/
def PopEnd (w : World) (hb ho : Nat) (c : Array Value) (T : TypeId) (eb : Option Nat) (es : List Ent) (x : Ent) (e : Ending) (w' : World) : Prop :=
  e = .returned (.iface 125 (ptr x.blk 0)) ∧ ∃ sl es' p, AgAt w' hb ho (c.setIfInBounds ho sl) T eb es' ∧ es.Perm (x :: es') ∧ HeapN es'.length es' ∧ Blk w' x.blk (entCells x p) 162 ∧ es'.length ≤ p ∧ Frm (AgF hb eb es) w w'

theorem snoc_of_ix (es : List Ent) (n : Nat) (h : es.length = n + 1) : es = es.take n ++ [ix es n] := by
  have h1 := List.take_append_drop n es
  have h2 : es.drop n = [ix es n] := by
    rw [List.drop_eq_getElem_cons (by omega), List.drop_eq_nil_of_le (by omega)]
    simp [ix, List.getElem?_eq_getElem (show n < es.length by omega)]
  rw [h2] at h1
  exact h1.symm

theorem popLast (w0 w : World) (hb ho b cap n : Nat) (c : Array Value) (T : TypeId) (sp : List Value) (es es' : List Ent) (hc : Blk w0 hb c T) (h1 : c[ho]? = some (.slice (some ⟨b, 0, none⟩) es.length cap))
    (h : HSt w0 w hb ho b cap n sp es es') (hcap : cap ≤ maxLen) (hcs : cap = es.length + sp.length) (hh : ¬ EsF b es hb) (hn : es.length = n + 1) (hp : HeapN n es') (hn2 : n < 1000000) :
    Calls Tryz.prog 178 #[ptr hb ho] w fun e w' => PopEnd w0 hb ho c T (some b) es (ix es n) e w' := by
  have hl : es'.length = n + 1 := by rw [h.perm.length_eq, hn]
  have hx : ix es' n = ix es n := h.far n (Nat.le_refl _)
  have hs := snoc_of_ix es' n hl
  rw [hx] at hs
  generalize hll : es'.take n = l at hs
  have hln : l.length = n := by rw [← hll]; simp; omega
  have hmap : ∀ k, k < n → ix es' k = ix l k := fun k hk => by rw [hs]; simp [ix, List.getElem?_append, hln, hk]
  have hlie := h.lie
  rw [hs] at hlie
  have hcw : Blk w hb c T := hc.frm h.frm hh
  have hne : hb ≠ b := fun e => hh (Or.inl e)
  have hlo : ho < c.size := (Array.getElem?_eq_some_iff.1 h1).1
  have hperm := h.perm
  rw [hs] at hperm
  have hperm2 : (ix es n :: l).Perm es := (List.perm_append_comm (l₁ := [ix es n])).trans hperm
  have hxm : ix es n ∈ es := hperm2.mem_iff.1 (by simp)
  have hxb : (ix es n).blk ≠ b := hlie.out _ (by simp)
  have hxh : (ix es n).blk ≠ hb := fun e => hh (Or.inr ⟨_, hxm, e.symm⟩)
  refine (ePop_any hb ho b cap c T l (ix es n) sp w hcw (by rw [hln, ← hn]; exact h1) hlie hne (by omega) (by omega)).mono ?_
  rintro e w' ⟨rfl, rfl⟩
  refine ⟨rfl, .slice (some ⟨b, 0, none⟩) l.length cap, l, n, ?_, hperm2.symm, ?_, ?_, by omega, ?_⟩
  · refine AgAt.ofEs (sp := .pointer none :: sp) ((hcw.other (p := ⟨b, l.length, none⟩) hne _).set ho _) (by simp [hlo]) ⟨?_, ?_, ?_, ?_⟩ hcap (by simp; omega) hne ?_
    · have := (hlie.arr.set l.length (.pointer none)).other (p := ⟨hb, ho, none⟩) (Ne.symm hne) (.slice (some ⟨b, 0, none⟩) l.length cap)
      have e1 : (ptrCells (l ++ [ix es n]) sp).setIfInBounds l.length (.pointer none) = ptrCells l (.pointer none :: sp) := by
        simp [ptrCells]
      rwa [e1] at this
    · intro i e hi
      have hil : i < l.length := (List.getElem?_eq_some_iff.1 hi).1
      have he := List.mem_of_getElem? hi
      have n1 : e.blk ≠ b := hlie.out e (by simp [he])
      have n2 : e.blk ≠ hb := fun e' => hh (Or.inr ⟨e, hperm2.mem_iff.1 (by simp [he]), e'.symm⟩)
      exact ((hlie.ent i e (by rw [List.getElem?_append_left hil]; exact hi)).other (p := ⟨b, l.length, none⟩) n1 _).other (p := ⟨hb, ho, none⟩) n2 _
    · have := hlie.nodup
      rw [List.map_append, List.nodup_append] at this
      exact this.1
    · exact fun e he => hlie.out e (by simp [he])
    · exact fun e he e' => hh (Or.inr ⟨e, hperm2.mem_iff.1 (by simp [he]), e'.symm⟩)
  · intro k k0 hk
    rw [hln] at hk
    rw [← hmap k hk, ← hmap _ (by omega)]
    exact hp k k0 hk
  · have := hlie.ent n (ix es n) (by rw [List.getElem?_append_right (by omega)]; simp [hln])
    exact (this.other (p := ⟨b, l.length, none⟩) hxb _).other (p := ⟨hb, ho, none⟩) hxh _
  · refine ((h.frm.mono ?_).setCell (p := ⟨b, l.length, none⟩) (Or.inr (Or.inl rfl)) _).setCell (p := ⟨hb, ho, none⟩) (Or.inl rfl) _
    rintro k - (e | ⟨e, he, e'⟩)
    · exact Or.inr (Or.inl (by rw [e]))
    · exact Or.inr (Or.inr ⟨e, he, e'⟩)

set_option maxRecDepth 100000 in
set_option maxHeartbeats 1600000 in
theorem hPop_any (hb ho : Nat) (c : Array Value) (T : TypeId) (eb : Option Nat) (es : List Ent) (w : World) (h : AgAt w hb ho c T eb es) (hp : HeapN es.length es) (h0 : es ≠ []) (hn : es.length < 1000000) :
    Calls Tryz.prog 126 #[hv hb ho] w fun e w' => PopEnd w hb ho c T eb es (ix es 0) e w' := by
  obtain ⟨n, hlen⟩ : ∃ n, es.length = n + 1 := ⟨es.length - 1, by have := List.length_pos_iff.2 h0; omega⟩
  obtain ⟨b, sp, cap, hb1, hb2, hst, hcap, hcs, hnf⟩ := h.hst h0 (n + 1)
  have m1 := meth_len hb ho w _ hst.head
  have m2 := meth_swap hb ho w _ hst.head
  have sa := swap_at b cap sp es 0 (n : Int) w hst.lie (by omega) (by omega) (by simp; omega) (by simp; omega)
  have mp := meth_pop hb ho
  rw [hlen] at m1 m2 sa
  have SA := hide sa
  have HX := hide (And.intro h (And.intro hp (And.intro hb1 (And.intro hb2 (And.intro hst (And.intro hcap (And.intro hcs hnf)))))))
  have HL := hide hlen
  have hnb : n < 1000000 := by omega
  clear sa hst hp h hb1 hb2 hcap hcs hnf h0 hn hlen
  go_enter Tryz.func126, Tryz.ntmps126
  go_wp2_with fail
  refine (len_any _ _ _ _).mono ?_
  rintro e w1 ⟨rfl, rfl⟩
  go_wp2_with fail
  refine (SA.out).mono ?_
  rintro e w2 ⟨rfl, hf, hs⟩
  obtain ⟨h, hp, hb1, hb2, hst, hcap, hcs, hnf⟩ := HX.out
  have hlen := HL.out
  simp only [Int.toNat_natCast, Int.toNat_zero] at hs
  have hn1 : (sw es 0 n).length = n + 1 := by rw [sw_len, hlen]
  have hpm := sw_perm es 0 n (by omega) (by omega)
  have hnf2 : ¬ EsF b (sw es 0 n) hb := fun e => hnf ((EsF_perm hpm hb).1 e)
  have hst2 : HSt w2 w2 hb ho b cap n sp (sw es 0 n) (sw es 0 n) := ⟨hs, List.Perm.refl _, fun _ _ => rfl, Frm.refl _ _, by rw [hn1, ← hlen]; exact hf.cell hst.head hnf⟩
  have hdn : DnInv n (sw es 0 n) 0 0 := by
    by_cases hn0 : n = 0
    · subst hn0; exact ⟨fun k _ hk => by omega, fun k hk => by omega⟩
    · rw [hlen] at hp; exact DnInv.start hp hlen.symm (by omega)
  have dn := down_any hb ho b cap n sp (sw es 0 n) (sw es 0 n) 0 (n : Int) w2 w2 hst2 hnf2 (by omega) rfl hdn (by omega) (by decide) (by omega)
  have DN := hide dn
  have HS := hide (And.intro hf (And.intro hs (And.intro hn1 (And.intro hpm (And.intro hnf2 hst2)))))
  clear dn hdn hst2 hnf2 hpm hn1 hf hs h hp hb1 hb2 hst hcap hcs hnf hlen
  go_wp2_with fail
  refine (DN.out).mono ?_
  rintro e w3 ⟨r, rfl, es', hst3, ht, hff⟩
  obtain ⟨h, hp, hb1, hb2, hst, hcap, hcs, hnf⟩ := HX.out
  obtain ⟨hf, hs, hn1, hpm, hnf2, hst2⟩ := HS.out
  have hlen := HL.out
  have hheap : HeapN n es' := by
    cases r with
    | true => exact ht rfl
    | false => exact (hff rfl).heap (Or.inl rfl)
  have hx : ix (sw es 0 n) n = ix es 0 := by rw [sw_ix es 0 n (by omega) (by omega)]; simp
  have pl := popLast w2 w3 hb ho b cap n c T sp (sw es 0 n) es' (h.head.frm hf hnf) (by rw [hn1, ← hlen]; exact hb2) hst3 hcap (by omega) hnf2 hn1 hheap (by omega)
  rw [hx] at pl
  have PL := hide pl
  clear pl hx hheap hf hs hn1 hnf2 hst2 h hp hb2 hst hcap hcs hnf hst3 ht hff hlen
  go_wp2_with fail
  refine (PL.out).mono ?_
  rintro e w4 ⟨rfl, sl, l, p, ag, pm, hpp, hbx, hlp, fr⟩
  go_wp2_with fail
  go_ret
  obtain ⟨hf, hs, hn1, hpm, hnf2, hst2⟩ := HS.out
  subst hb1
  refine ⟨rfl, sl, l, p, ag, hpm.symm.trans pm, hpp, hbx, hlp, (hf.mono ?_).trans (fr.mono ?_)⟩
  · rintro k - (e | ⟨e, he, e'⟩)
    · exact Or.inr (Or.inl (by rw [e]))
    · exact Or.inr (Or.inr ⟨e, he, e'⟩)
  · rintro k - (e | e | ⟨e, he, e'⟩)
    · exact Or.inl e
    · exact Or.inr (Or.inl e)
    · exact Or.inr (Or.inr ⟨e, hpm.mem_iff.1 he, e'⟩)

set_option maxRecDepth 100000 in
set_option maxHeartbeats 1600000 in
theorem hRemove_last (hb ho : Nat) (c : Array Value) (T : TypeId) (eb : Option Nat) (es : List Ent) (n : Nat) (w : World) (h : AgAt w hb ho c T eb es) (hp : HeapN es.length es) (hlen : es.length = n + 1) (hn : n < 1000000) :
    Calls Tryz.prog 99 #[hv hb ho, I n] w fun e w' => PopEnd w hb ho c T eb es (ix es n) e w' := by
  have h0 : es ≠ [] := by intro e; rw [e] at hlen; simp at hlen
  obtain ⟨b, sp, cap, hb1, hb2, hst, hcap, hcs, hnf⟩ := h.hst h0 n
  have m1 := meth_len hb ho w _ hst.head
  have mp := meth_pop hb ho
  have pl := popLast w w hb ho b cap n c T sp es es h.head hb2 hst hcap hcs hnf hlen (fun k k0 hk => hp k k0 (by omega)) hn
  rw [hlen] at m1
  have hx : (((n : Int)) != (n : Int)) = false := by simp
  rw [← hb1] at pl
  have PL := hide pl
  clear pl hst hp h hb1 hb2 hcap hcs hnf h0 hlen
  go_enter Tryz.func99, Tryz.ntmps99
  go_wp2_with fail
  refine (len_any _ _ _ _).mono ?_
  rintro e w1 ⟨rfl, rfl⟩
  go_wp2_with fail
  refine (PL.out).mono ?_
  rintro e w4 ⟨rfl, he⟩
  go_wp2_with fail
  go_ret
  exact ⟨rfl, he⟩

set_option maxRecDepth 100000 in
set_option maxHeartbeats 1600000 in
theorem hRemove_in (hb ho : Nat) (c : Array Value) (T : TypeId) (eb : Option Nat) (es : List Ent) (i n : Nat) (w : World) (h : AgAt w hb ho c T eb es) (hp : HeapN es.length es) (hlen : es.length = n + 1) (hi : i < n) (hn : n < 1000000) :
    Calls Tryz.prog 99 #[hv hb ho, I i] w fun e w' => PopEnd w hb ho c T eb es (ix es i) e w' := by
  have h0 : es ≠ [] := by intro e; rw [e] at hlen; simp at hlen
  obtain ⟨b, sp, cap, hb1, hb2, hst, hcap, hcs, hnf⟩ := h.hst h0 (n + 1)
  have m1 := meth_len hb ho w _ hst.head
  have m2 := meth_swap hb ho w _ hst.head
  have sa := swap_at b cap sp es (i : Int) (n : Int) w hst.lie (by omega) (by omega) (by simp; omega) (by simp; omega)
  have mp := meth_pop hb ho
  rw [hlen] at m1 m2 sa
  have hx : (((n : Int)) != (i : Int)) = true := by simp; omega
  have SA := hide sa
  have HX := hide (And.intro h (And.intro hp (And.intro hb1 (And.intro hb2 (And.intro hst (And.intro hcap (And.intro hcs hnf)))))))
  have HL := hide hlen
  clear sa hst hp h hb1 hb2 hcap hcs hnf h0 hlen
  go_enter Tryz.func99, Tryz.ntmps99
  go_wp2_with fail
  refine (len_any _ _ _ _).mono ?_
  rintro e w1 ⟨rfl, rfl⟩
  go_wp2_with fail
  refine (SA.out).mono ?_
  rintro e w2 ⟨rfl, hf, hs⟩
  obtain ⟨h, hp, hb1, hb2, hst, hcap, hcs, hnf⟩ := HX.out
  have hlen := HL.out
  simp only [Int.toNat_natCast] at hs
  have hn1 : (sw es i n).length = n + 1 := by rw [sw_len, hlen]
  have hpm := sw_perm es i n (by omega) (by omega)
  have hnf2 : ¬ EsF b (sw es i n) hb := fun e => hnf ((EsF_perm hpm hb).1 e)
  have hst2 : HSt w2 w2 hb ho b cap n sp (sw es i n) (sw es i n) := ⟨hs, List.Perm.refl _, fun _ _ => rfl, Frm.refl _ _, by rw [hn1, ← hlen]; exact hf.cell hst.head hnf⟩
  have hdn : DnInv n (sw es i n) i i := by
    rw [hlen] at hp; exact DnInv.start hp hlen.symm (by omega)
  have dn := down_any hb ho b cap n sp (sw es i n) (sw es i n) (i : Int) (n : Int) w2 w2 hst2 hnf2 (by omega) rfl (by simpa using hdn) (by omega) (by simp; omega) (by omega)
  have hx : ix (sw es i n) n = ix es i := by rw [sw_ix es i n (by omega) (by omega)]; simp
  have fin : ∀ w3 es', HSt w2 w3 hb ho b cap n sp (sw es i n) es' → HeapN n es' → Calls Tryz.prog 178 #[ptr hb ho] w3 fun e w' => PopEnd w1 hb ho c T eb es (ix es i) e w' := by
    intro w3 es' hst3 hheap
    have pl := popLast w2 w3 hb ho b cap n c T sp (sw es i n) es' (h.head.frm hf hnf) (by rw [hn1, ← hlen]; exact hb2) hst3 hcap (by omega) hnf2 hn1 hheap (by omega)
    rw [hx] at pl
    refine pl.mono ?_
    rintro e w4 ⟨rfl, sl, l, p, ag, pm, hpp, hbx, hlp, fr⟩
    subst hb1
    refine ⟨rfl, sl, l, p, ag, hpm.symm.trans pm, hpp, hbx, hlp, (hf.mono ?_).trans (fr.mono ?_)⟩
    · rintro k - (e | ⟨e, he, e'⟩)
      · exact Or.inr (Or.inl (by rw [e]))
      · exact Or.inr (Or.inr ⟨e, he, e'⟩)
    · rintro k - (e | e | ⟨e, he, e'⟩)
      · exact Or.inl e
      · exact Or.inr (Or.inl e)
      · exact Or.inr (Or.inr ⟨e, hpm.mem_iff.1 he, e'⟩)
  have FIN := hide fin
  have DN := hide dn
  have upp : ∀ w3 es', HSt w2 w3 hb ho b cap n sp (sw es i n) es' → UpInv n es' i → Calls Tryz.prog 122 #[hv hb ho, I i] w3 fun e w' => e = .returned (.tuple #[]) ∧ ∃ es', HSt w2 w' hb ho b cap n sp (sw es i n) es' ∧ HeapN n es' := by
    intro w3 es' hst3 hu
    have hl3 : es'.length = n + 1 := by rw [hst3.perm.length_eq, hn1]
    exact up_any hb ho b cap n sp es' (sw es i n) (i : Int) w3 w2 hst3 hnf2 (by omega) (by simpa using hu) (by omega) (by simpa using hi) (by omega)
  have UPP := hide upp
  clear dn hdn hst2 hnf2 hpm hn1 hf hs h hp hb1 hb2 hst hcap hcs hnf hlen fin upp hx
  go_wp2_with fail
  refine (DN.out).mono ?_
  rintro e w3 ⟨r, rfl, es', hst3, ht, hff⟩
  cases r with
  | true =>
    have pl := FIN.out w3 es' hst3 (ht rfl)
    have PL := hide pl
    clear pl ht hff hst3
    go_wp2_with fail
    refine (PL.out).mono ?_
    rintro e w4 ⟨rfl, he⟩
    go_wp2_with fail
    go_ret
    exact ⟨rfl, he⟩
  | false =>
    have up := UPP.out w3 es' hst3 (by simpa using hff rfl)
    have UP := hide up
    clear up ht hff hst3
    go_wp2_with fail
    refine (UP.out).mono ?_
    rintro e w4 ⟨rfl, es4, hst4, hp4⟩
    have pl := FIN.out w4 es4 hst4 hp4
    have PL := hide pl
    clear pl hst4 hp4
    go_wp2_with fail
    refine (PL.out).mono ?_
    rintro e w5 ⟨rfl, he⟩
    go_wp2_with fail
    go_ret
    exact ⟨rfl, he⟩

theorem hRemove_any (hb ho : Nat) (c : Array Value) (T : TypeId) (eb : Option Nat) (es : List Ent) (i : Nat) (w : World) (h : AgAt w hb ho c T eb es) (hp : HeapN es.length es) (hi : i < es.length) (hn : es.length < 1000000) :
    Calls Tryz.prog 99 #[hv hb ho, I i] w fun e w' => PopEnd w hb ho c T eb es (ix es i) e w' := by
  obtain ⟨n, hlen⟩ : ∃ n, es.length = n + 1 := ⟨es.length - 1, by omega⟩
  by_cases e : i = n
  · subst e; exact hRemove_last hb ho c T eb es i w h hp hlen (by omega)
  · exact hRemove_in hb ho c T eb es i n w h hp hlen (by omega) (by omega)

end Go.Proofs.YtpilmkipbbengaaGreatDoor
