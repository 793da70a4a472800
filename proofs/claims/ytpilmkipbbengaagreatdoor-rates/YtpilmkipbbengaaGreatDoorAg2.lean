/- The agenda: Push, Pop, heap.Push, heap.Pop, heap.Remove. -/
import Derived.Test.YtpilmkipbbengaaGreatDoorHp
namespace Go.Proofs.YtpilmkipbbengaaGreatDoor
open Go.RowKit

def ptrs (es : List Ent) : List Value := es.map fun e => ptr e.blk 0

/-- the entries' slice stands in cell ho of block hb (of which c are the cells), its array in block eb -/
structure AgAt (w : World) (hb ho : Nat) (c : Array Value) (T : TypeId) (eb : Option Nat) (es : List Ent) : Prop where
  head : Blk w hb c T
  row : ∃ sl, c[ho]? = some sl ∧ w.ownsRow 0 125 1 sl es.length (ptrs es) ∧ sl.ownBlock = eb
  ent : ∀ i e, es[i]? = some e → Blk w e.blk (entCells e i) 162
  nodup : (es.map (·.blk)).Nodup
  out : ∀ e ∈ es, e.blk ≠ hb ∧ some e.blk ≠ eb
  hbo : some hb ≠ eb

def AgF (hb : Nat) (eb : Option Nat) (es : List Ent) : Nat → Prop := fun x => x = hb ∨ eb = some x ∨ ∃ e ∈ es, x = e.blk

theorem infoP : (Tryz.prog.info? 125).map (fun i => (i.zero, i.size, i.bytes)) = some (some (.pointer none), 1, 8) := by kernel_rfl

set_option maxRecDepth 100000 in
set_option maxHeartbeats 1600000 in
theorem ePush_any (hb ho : Nat) (c : Array Value) (T : TypeId) (sl : Value) (xs : List Value) (n : Nat) (b : Nat) (tk nm pl act : Value) (w : World) (hc : Blk w hb c T) (hs : c[ho]? = some sl) (hr : w.ownsRow 0 125 1 sl n xs)
    (he : Blk w b #[tk, nm, pl, act] 162) (hbb : b ≠ hb) (hne : sl.ownBlock ≠ some hb) (hne2 : sl.ownBlock ≠ some b) (hn : n ≤ 1000000) :
    Calls Tryz.prog 179 #[ptr hb ho, .iface 125 (ptr b 0)] w fun e w' => e = .returned (.tuple #[]) ∧ ∃ sl', Blk w' hb (c.setIfInBounds ho sl') T ∧ w'.ownsRow 0 125 1 sl' (n + 1) (xs ++ [ptr b 0]) ∧
      Blk w' b #[tk, nm, I n, act] 162 ∧ Frm (fun x => x = hb ∨ x = b ∨ sl.ownBlock = some x) w w' ∧ (sl'.ownBlock = sl.ownBlock ∨ ∃ g, sl'.ownBlock = some g ∧ w.heap.size ≤ g) := by
  obtain ⟨i, hi, hz0, hz1, hz2⟩ := info_parts infoP
  have hsl : ∃ a cp, sl = .slice a n cp := by
    rcases hr.2 with ⟨rfl, rfl⟩ | ⟨g, cap, cur, rfl, _⟩
    · exact ⟨none, 0, rfl⟩
    · exact ⟨_, _, rfl⟩
  obtain ⟨a, cp, rfl⟩ := hsl
  have c0 : w.cell? ⟨hb, ho, none⟩ = some (.slice a n cp) := by rw [hc.cell]; exact hs
  have f0 := hc.frozen ho
  have c2 : w.cell? ⟨b, 2, none⟩ = some pl := by rw [he.cell]; rfl
  have f2 := he.frozen 2
  have HR := hide (And.intro hr (And.intro hc he))
  have hlb := hc.lt
  have hlbb := he.lt
  have ta : ∀ w, Sem.run Tryz.prog (Instr.typeAssert (.iface 125 (ptr b 0)) 20 125 false) w = .ok (ptr b 0) w := fun _ => by kernel_rfl
  have HN := hide (And.intro hbb (And.intro hne hne2))
  have h1 : hb ≠ b := Ne.symm hbb
  clear hr hc he hne hne2
  have own : ((w.setCell ⟨b, 2, none⟩ (I n)).alloc (.cells #[ptr b 0] 125)).ownsRow 0 125 1 (.slice a n cp) n xs := row_of_block (HR.out).1 fun g hg => by
    have hl := ((HR.out).1.lt g hg).2
    rw [Below.heap_alloc _ _ _ (by simpa using hl), Below.heap_setCell]
    intro e; subst e; exact (HN.out).2.2 hg
  have hW : Blk ((w.setCell ⟨b, 2, none⟩ (I n)).alloc (.cells #[ptr b 0] 125)) hb c T := ((HR.out).2.1.other (p := ⟨b, 2, none⟩) h1 (I n)).alloc _
  have hE : Blk ((w.setCell ⟨b, 2, none⟩ (I n)).alloc (.cells #[ptr b 0] 125)) b #[tk, nm, I n, act] 162 := ((HR.out).2.2.set 2 (I n)).alloc _
  have fW : Frm (fun x => x = hb ∨ x = b ∨ (Value.slice a n cp).ownBlock = some x) w ((w.setCell ⟨b, 2, none⟩ (I n)).alloc (.cells #[ptr b 0] 125)) := ((Frm.refl _ _).setCell (Or.inr (Or.inl rfl)) _).alloc _
  have OWN := hide (And.intro own (And.intro hW (And.intro hE fW)))
  clear own hW hE fW
  go_enter Tryz.func179, Tryz.ntmps179
  go_wp2_with (at_builtin; refine wpList_append_row _ rfl _ _ 70 rfl 125 i (.pointer none) 1 8 Tryz.underlying70 hi hz0 hz1 hz2 rfl (by decide) _ n xs rfl (OWN.out).1 ⟨w.heap.size, 0, none⟩ 1 1 [ptr b 0] rfl rfl (cell_news _ [ptr b 0] _ _ (by simp)) (by intro u hu; simp at hu; subst hu; rfl) (by unfold maxLen; omega) (by omega) ?_; intro v' w3 hown hgr hnew; obtain ⟨a', cp', hv'⟩ := row_slice hown; subst hv'; have b3 : Blk w3 hb c T := (OWN.out).2.1.frm (grown_frm hgr) (HN.out).2.1; have c3 : w3.cell? ⟨hb, ho, none⟩ = some (.slice a n cp) := by { rw [b3.cell]; exact hs }; have f3 := b3.frozen ho; have HG := hide (And.intro hown (And.intro hgr (And.intro hnew b3))); clear hown hgr hnew b3)
  go_end0
  obtain ⟨own, hW, hE, fW⟩ := OWN.out
  obtain ⟨hown, hgr, hnew, b3⟩ := HG.out
  obtain ⟨-, hne, hne2⟩ := HN.out
  have hnew2 : (Value.slice a' (n + 1) cp').ownBlock = (Value.slice a n cp).ownBlock ∨ ∃ g, (Value.slice a' (n + 1) cp').ownBlock = some g ∧ w.heap.size ≤ g := by
    rcases hnew with h | ⟨h, -⟩
    · exact Or.inl h
    · exact Or.inr ⟨_, h, by simp⟩
  refine ⟨rfl, .slice a' (n + 1) cp', b3.set ho _, ?_, ?_, ?_, hnew2⟩
  · refine row_of_block hown fun g hg => Below.heap_setCell _ _ _ _ fun e => ?_
    have e' : g = hb := e
    rcases hnew2 with h | ⟨g', h, hl⟩
    · rw [h, e'] at hg; exact hne hg
    · rw [h] at hg; injection hg with hg; omega
  · exact (hE.frm (grown_frm hgr) hne2).other (p := ⟨hb, ho, none⟩) hbb _
  · exact (fW.trans ((grown_frm hgr).mono fun k _ hk => Or.inr (Or.inr hk))).setCell (Or.inl rfl) _

/-- from the agenda's words to the heap's -/
theorem AgAt.toEs {w : World} {hb ho : Nat} {c : Array Value} {T : TypeId} {eb : Option Nat} {es : List Ent} (h : AgAt w hb ho c T eb es) (hne : es ≠ []) :
    ∃ b sp cap, eb = some b ∧ c[ho]? = some (.slice (some ⟨b, 0, none⟩) es.length cap) ∧ EsAt w b sp es ∧ cap ≤ maxLen ∧ cap = es.length + sp.length := by
  obtain ⟨sl, h1, h2, h3⟩ := h.row
  rcases h2.2 with ⟨rfl, hl⟩ | ⟨g, cap, cur, rfl, _, r2, r3, r4, r5, r6⟩
  · exact absurd (List.eq_nil_of_length_eq_zero hl) hne
  · have hg : eb = some g := h3.symm
    have hcur : cur = ptrCells es (cur.toList.drop es.length) := by
      apply Array.ext'
      have := List.take_append_drop es.length cur.toList
      rw [Nat.mul_one] at r6
      rw [r6] at this
      simpa [ptrCells, ptrs] using this.symm
    refine ⟨g, cur.toList.drop es.length, cap, hg, h1, ⟨?_, h.ent, h.nodup, fun e he e' => (h.out e he).2 (by rw [hg, e'])⟩, r4, ?_⟩
    · unfold Blk; rw [← hcur]; exact r2
    · simp; omega

theorem AgAt.ofEs {w : World} {hb ho : Nat} {c : Array Value} {T : TypeId} {b cap : Nat} {sp : List Value} {es : List Ent} (hc : Blk w hb c T) (h1 : c[ho]? = some (.slice (some ⟨b, 0, none⟩) es.length cap)) (h : EsAt w b sp es)
    (hcap : cap ≤ maxLen) (hcs : cap = es.length + sp.length) (hb1 : hb ≠ b) (hb2 : ∀ e ∈ es, e.blk ≠ hb) : AgAt w hb ho c T (some b) es := by
  refine ⟨hc, ⟨_, h1, ⟨by simp [ptrs], Or.inr ⟨b, cap, _, rfl, Nat.zero_le _, h.arr, by omega, hcap, by simp [ptrCells, hcs], ?_⟩⟩, rfl⟩, h.ent, h.nodup, fun e he => ⟨hb2 e he, fun e' => h.out e he (by injection e')⟩, fun e => hb1 (by injection e)⟩
  simp [ptrCells, ptrs]

theorem AgAt.hst {w : World} {hb ho : Nat} {c : Array Value} {T : TypeId} {eb : Option Nat} {es : List Ent} (h : AgAt w hb ho c T eb es) (hne : es ≠ []) (N : Nat) :
    ∃ b sp cap, eb = some b ∧ c[ho]? = some (.slice (some ⟨b, 0, none⟩) es.length cap) ∧ HSt w w hb ho b cap N sp es es ∧ cap ≤ maxLen ∧ cap = es.length + sp.length ∧ ¬ EsF b es hb := by
  obtain ⟨b, sp, cap, h1, h2, h3, h4, h5⟩ := h.toEs hne
  refine ⟨b, sp, cap, h1, h2, ⟨h3, List.Perm.refl _, fun _ _ => rfl, Frm.refl _ _, by rw [h.head.cell]; exact h2⟩, h4, h5, ?_⟩
  rintro (e | ⟨e, he, e'⟩)
  · exact h.hbo (by rw [h1, e])
  · exact (h.out e he).1 e'.symm

theorem AgAt.ofHst {w0 w : World} {hb ho : Nat} {c : Array Value} {T : TypeId} {b cap N : Nat} {sp : List Value} {es es' : List Ent} (hc : Blk w0 hb c T) (h1 : c[ho]? = some (.slice (some ⟨b, 0, none⟩) es.length cap))
    (h : HSt w0 w hb ho b cap N sp es es') (hcap : cap ≤ maxLen) (hcs : cap = es.length + sp.length) (hh : ¬ EsF b es hb) : AgAt w hb ho c T (some b) es' := by
  have hl : es'.length = es.length := h.perm.length_eq
  refine AgAt.ofEs (hc.frm h.frm hh) (by rw [hl]; exact h1) h.lie hcap (by omega) (fun e => hh (Or.inl e)) fun e he e' => hh (Or.inr ⟨e, h.perm.mem_iff.1 he, e'.symm⟩)

theorem AgAt.lt {w : World} {hb ho : Nat} {c : Array Value} {T : TypeId} {eb : Option Nat} {es : List Ent} (h : AgAt w hb ho c T eb es) : ∀ k, AgF hb eb es k → k < w.heap.size := by
  rintro k (rfl | hk | ⟨e, he, rfl⟩)
  · exact h.head.lt
  · obtain ⟨sl, _, h2, h3⟩ := h.row
    exact (h2.lt k (by rw [h3, hk])).2
  · obtain ⟨i, hi⟩ := List.getElem?_of_mem he
    exact (h.ent i e hi).lt

theorem AgAt.push {w w1 : World} {hb ho : Nat} {c : Array Value} {T : TypeId} {eb : Option Nat} {es : List Ent} {x : Ent} {sl sl' : Value} (h : AgAt w hb ho c T eb es) (hsl : c[ho]? = some sl) (hown : sl.ownBlock = eb)
    (hx : x.blk < w.heap.size) (h1 : x.blk ≠ hb) (h2 : eb ≠ some x.blk) (h3 : ∀ e ∈ es, e.blk ≠ x.blk)
    (b1 : Blk w1 hb (c.setIfInBounds ho sl') T) (r1 : w1.ownsRow 0 125 1 sl' (es.length + 1) (ptrs es ++ [ptr x.blk 0])) (e1 : Blk w1 x.blk (entCells x es.length) 162)
    (f1 : Frm (fun k => k = hb ∨ k = x.blk ∨ sl.ownBlock = some k) w w1) (n1 : sl'.ownBlock = sl.ownBlock ∨ ∃ g, sl'.ownBlock = some g ∧ w.heap.size ≤ g) :
    AgAt w1 hb ho (c.setIfInBounds ho sl') T sl'.ownBlock (es ++ [x]) := by
  have hlo : ho < c.size := (Array.getElem?_eq_some_iff.1 hsl).1
  have hltx : ∀ e ∈ es, e.blk < w.heap.size := fun e he => h.lt _ (Or.inr (Or.inr ⟨e, he, rfl⟩))
  have hhb := h.head.lt
  refine ⟨b1, ⟨sl', by simp [hlo], by simpa [ptrs] using r1, rfl⟩, ?_, ?_, ?_, ?_⟩
  · intro i e hi
    rw [List.getElem?_append] at hi
    split at hi
    · rename_i hlt
      have he := List.mem_of_getElem? hi
      refine (h.ent i e hi).frm f1 ?_
      rintro (e' | e' | e')
      · exact (h.out e he).1 e'
      · exact h3 e he e'
      · exact (h.out e he).2 (by rw [← hown, e'])
    · rename_i hlt
      have : i = es.length := by
        by_cases hc : i = es.length
        · exact hc
        · rw [List.getElem?_eq_none (by simp; omega)] at hi; cases hi
      subst this
      simp at hi; subst hi; exact e1
  · simp only [List.map_append, List.map_cons, List.map_nil]
    refine List.nodup_append.2 ⟨h.nodup, by simp, ?_⟩
    intro a ha b hb' e
    simp at ha hb'
    obtain ⟨e', he', rfl⟩ := ha
    exact h3 e' he' (by rw [e, hb'])
  · intro e he
    rcases List.mem_append.1 he with he | he
    · refine ⟨(h.out e he).1, fun e' => ?_⟩
      rcases n1 with n | ⟨g, n, hg⟩
      · rw [n, hown] at e'; exact (h.out e he).2 e'
      · rw [n] at e'; injection e' with e'; have := hltx e he; omega
    · simp at he; subst he
      refine ⟨h1, fun e' => ?_⟩
      rcases n1 with n | ⟨g, n, hg⟩
      · rw [n, hown] at e'; exact h2 e'.symm
      · rw [n] at e'; injection e' with e'; omega
  · intro e'
    rcases n1 with n | ⟨g, n, hg⟩
    · rw [n, hown] at e'; exact h.hbo e'
    · rw [n] at e'; injection e' with e'; omega

theorem Blk.heapEq {w W : World} {b : Nat} {c : Array Value} {T : TypeId} (h : Blk w b c T) (e : W.heap = w.heap) : Blk W b c T := by unfold Blk; rw [e]; exact h
theorem AgAt.heapEq {w W : World} {hb ho : Nat} {c : Array Value} {T : TypeId} {eb : Option Nat} {es : List Ent} (h : AgAt w hb ho c T eb es) (e : W.heap = w.heap) : AgAt W hb ho c T eb es := by
  obtain ⟨sl, h1, h2, h3⟩ := h.row
  exact ⟨h.head.heapEq e, ⟨sl, h1, row_of_block h2 fun g _ => by rw [e], h3⟩, fun i x hi => (h.ent i x hi).heapEq e, h.nodup, h.out, h.hbo⟩

set_option maxHeartbeats 400000 in
theorem len_any (a : Option Addr) (n c : Nat) (w : World) : Calls Tryz.prog 173 #[.slice a n c] w fun e w' => e = .returned (I n) ∧ w' = w := by
  go_enter Tryz.func173, Tryz.ntmps173
  go_wp2
  go_ret
  exact ⟨rfl, rfl⟩

/-- heap.Push's end -/
def PushEnd (w : World) (hb ho : Nat) (c : Array Value) (T : TypeId) (eb : Option Nat) (es : List Ent) (x : Ent) (e : Ending) (w' : World) : Prop :=
  e = .returned (.tuple #[]) ∧ ∃ sl eb' es', AgAt w' hb ho (c.setIfInBounds ho sl) T eb' es' ∧ es'.Perm (x :: es) ∧ HeapN es'.length es' ∧ (eb' = eb ∨ ∃ g, eb' = some g ∧ w.heap.size ≤ g) ∧
    Frm (fun k => AgF hb eb es k ∨ k = x.blk) w w'

set_option maxRecDepth 100000 in
set_option maxHeartbeats 1600000 in
theorem hPush_any (hb ho : Nat) (c : Array Value) (T : TypeId) (eb : Option Nat) (es : List Ent) (x : Ent) (p : Nat) (w : World) (h : AgAt w hb ho c T eb es) (hp : HeapN es.length es) (hx : Blk w x.blk (entCells x p) 162)
    (h1 : x.blk ≠ hb) (h2 : eb ≠ some x.blk) (h3 : ∀ e ∈ es, e.blk ≠ x.blk) (hn : es.length < 1000000) :
    Calls Tryz.prog 100 #[hv hb ho, .iface 125 (ptr x.blk 0)] w fun e w' => PushEnd w hb ho c T eb es x e w' := by
  obtain ⟨sl, hsl, hrow, hown⟩ := h.row
  have m1 := meth_push hb ho
  have cp := ePush_any hb ho c T sl (ptrs es) es.length x.blk (I x.tick) (I x.num) (I p) x.act w h.head hsl hrow hx h1 (by rw [hown]; exact fun e => h.hbo e.symm) (by rw [hown]; exact h2) (by omega)
  have CP := hide cp
  have HH := hide (And.intro h (And.intro hp (And.intro hx (And.intro h1 (And.intro h2 h3)))))
  have HS := hide (And.intro hsl (And.intro hrow hown))
  clear cp h hp hx h1 h2 h3 hsl hrow hown
  go_enter Tryz.func100, Tryz.ntmps100
  go_wp2_with fail
  refine (CP.out).mono ?_
  rintro e w1 ⟨rfl, sl', b1, r1, e1, f1, n1⟩
  obtain ⟨h, hp, hx, h1, h2, h3⟩ := HH.out
  obtain ⟨hsl, hrow, hown⟩ := HS.out
  have ag := h.push hsl hown hx.lt h1 h2 h3 b1 r1 e1 f1 n1
  obtain ⟨b, sp, cap, hb1, hb2, hst, hcap, hcs, hnf⟩ := ag.hst (by simp) (es.length + 1)
  have hlen : (es ++ [x]).length = es.length + 1 := by simp
  have m2 := meth_len hb ho w1 _ hst.head
  rw [hlen] at m2
  have up := up_any hb ho b cap (es.length + 1) sp (es ++ [x]) (es ++ [x]) (es.length : Int) w1 w1 hst hnf (by omega) (by
    rw [Int.toNat_natCast]; exact UpInv.push x hp) (by omega) (by omega) (by omega)
  have UP := hide up
  have HX := hide (And.intro ag (And.intro hb1 (And.intro hb2 (And.intro hcap (And.intro hcs hnf)))))
  have HF := hide f1
  have N1 := hide n1
  have HB := hide b1
  clear up ag hb1 hb2 hst hcap hcs hnf h hp hx h1 h2 h3 hsl hrow hown r1 e1 f1 n1 hlen b1
  go_wp2_with fail
  refine (len_any _ _ _ _).mono ?_
  rintro e w2 ⟨rfl, rfl⟩
  go_wp2_with fail
  refine (UP.out).mono ?_
  rintro e w3 ⟨rfl, es', hst', hheap⟩
  go_wp2_with fail
  go_end0
  obtain ⟨ag, hb1, hb2, hcap, hcs, hnf⟩ := HX.out
  have f1 := HF.out
  have n1 := N1.out
  obtain ⟨hsl, hrow, hown⟩ := HS.out
  have hl : es'.length = es.length + 1 := by rw [hst'.perm.length_eq]; simp
  refine ⟨rfl, sl', some b, es', AgAt.ofHst ag.head hb2 hst' hcap hcs hnf, hst'.perm.trans (List.perm_append_comm.trans (List.Perm.refl _)), by rw [hl]; exact hheap, ?_, ?_⟩
  · rw [← hb1, ← hown]; exact n1
  · refine (f1.mono ?_).trans2 hst'.frm ?_
    · rintro k - (e | e | e)
      · exact Or.inl (Or.inl e)
      · exact Or.inr e
      · exact Or.inl (Or.inr (Or.inl (by rw [← hown, e])))
    · rintro k hk (e | ⟨e, he, e'⟩)
      · rcases n1 with n | ⟨g, n, hg⟩
        · exact Or.inl (Or.inr (Or.inl (by rw [← hown, ← n, hb1, e])))
        · rw [hb1] at n; injection n with n; omega
      · rcases List.mem_append.1 he with he | he
        · exact Or.inl (Or.inr (Or.inr ⟨e, he, e'⟩))
        · simp at he; subst he; exact Or.inr e'

set_option maxRecDepth 100000 in
set_option maxHeartbeats 1600000 in
theorem ePop_any (hb ho b cap : Nat) (c : Array Value) (T : TypeId) (es : List Ent) (x : Ent) (sp : List Value) (w : World) (hc : Blk w hb c T) (hs : c[ho]? = some (.slice (some ⟨b, 0, none⟩) (es.length + 1) cap))
    (h : EsAt w b sp (es ++ [x])) (hne : hb ≠ b) (hn : es.length < 1000000) (hcap : es.length + 1 ≤ cap) :
    Calls Tryz.prog 178 #[ptr hb ho] w fun e w' => e = .returned (.iface 125 (ptr x.blk 0)) ∧ w' = (w.setCell ⟨b, es.length, none⟩ (.pointer none)).setCell ⟨hb, ho, none⟩ (.slice (some ⟨b, 0, none⟩) es.length cap) := by
  have c0 : w.cell? ⟨hb, ho, none⟩ = some (.slice (some ⟨b, 0, none⟩) (es.length + 1) cap) := by rw [hc.cell]; exact hs
  have f0 := hc.frozen ho
  have c1 := h.cell (i := es.length) (e := x) (by simp)
  have f1 := h.arr.frozen es.length
  clear hc hs h
  go_enter Tryz.func178, Tryz.ntmps178
  go_wp2
  go_ret
  exact ⟨rfl, rfl⟩

end Go.Proofs.YtpilmkipbbengaaGreatDoor
