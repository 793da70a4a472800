/- Agenda: holds, Cancel, Add, Reach. -/
import Derived.Test.YtpilmkipbbengaaGreatDoorAg3
import Derived.Laws.EntriesVeiled
import Derived.LaidEqlPtr
import Derived.Deep.RegionWith
import Derived.Deep.LoopGhost
namespace Go.Proofs.YtpilmkipbbengaaGreatDoor
open Go.RowKit

theorem infoE : (Tryz.prog.info? 162).map (fun i => (i.zero, i.size, i.bytes)) = some (some (.agg #[I 0, I 0, I 0, .nilFunc]), 4, 32) := by kernel_rfl

set_option maxRecDepth 100000 in
set_option maxHeartbeats 800000 in
theorem holds_nil (hb ho : Nat) (w : World) : Calls Tryz.prog 98 #[ptr hb ho, .pointer none] w fun e w' => e = .returned (.bool false) ∧ ∃ m, w' = w.drewN m := by
  go_enter Tryz.func98, Tryz.ntmps98
  go_wp2
  go_quiet (fail)
  go_wp2
  go_ret
  exact ⟨rfl, _, rfl⟩

set_option maxRecDepth 100000 in
set_option maxHeartbeats 800000 in
theorem cancel_nil (hb ho : Nat) (w : World) : Calls Tryz.prog 63 #[ptr hb ho, .pointer none] w fun e w' => e = .returned (.tuple #[]) ∧ ∃ m, w' = w.drewN m := by
  go_enter Tryz.func63, Tryz.ntmps63
  go_wp2_with (go_at_call 98; refine (holds_nil _ _ _).mono ?_; rintro e w' ⟨rfl, n, rfl⟩)
  go_end0
  exact ⟨rfl, _, rfl⟩

set_option maxRecDepth 100000 in
set_option maxHeartbeats 800000 in
theorem holds_in (hb ho b cap n i : Nat) (x : Nat) (w : World) (hc : w.cell? ⟨hb, ho, none⟩ = some (.slice (some ⟨b, 0, none⟩) n cap)) (hi : i < n) (hx : w.cell? ⟨x, 2, none⟩ = some (I i)) (hp : w.cell? ⟨b, i, none⟩ = some (ptr x 0)) :
    Calls Tryz.prog 98 #[ptr hb ho, ptr x 0] w fun e w' => e = .returned (.bool true) ∧ ∃ m, w' = w.drewN m := by
  have eq1 : ∀ W, Sem.run Tryz.prog (binOp .eql 125 (ptr x 0) (ptr x 0)) W = .ok (.bool true) W := fun W => by
    obtain ⟨j, hj, -⟩ := info_parts infoE
    exact run_eql_ptr_same W ⟨x, 0, none⟩ Tryz.underlying125 hj
  go_enter Tryz.func98, Tryz.ntmps98
  go_wp2
  go_quiet (fail)
  go_wp2
  go_ret
  exact ⟨rfl, _, rfl⟩

set_option maxRecDepth 100000 in
set_option maxHeartbeats 1600000 in
theorem cancel_in (hb ho : Nat) (c : Array Value) (T : TypeId) (eb : Option Nat) (es : List Ent) (i : Nat) (x : Ent) (w : World) (h : AgAt w hb ho c T eb es) (hp : HeapN es.length es) (hi : es[i]? = some x) (hn : es.length < 1000000) :
    Calls Tryz.prog 63 #[ptr hb ho, ptr x.blk 0] w fun e w' => e = .returned (.tuple #[]) ∧ ∃ e', PopEnd w hb ho c T eb es x e' w' := by
  have hil : i < es.length := (List.getElem?_eq_some_iff.1 hi).1
  have hix : ix es i = x := by simp [ix, hi]
  have h0 : es ≠ [] := by intro e; subst e; simp at hil
  obtain ⟨b, sp, cap, hb1, hb2, hst, hcap, hcs, hnf⟩ := h.hst h0 es.length
  have c2 := (hst.lie.cells hi).2.2.1
  have rm : ∀ W : World, W.heap = w.heap → Frm (AgF hb eb es) w W → Calls Tryz.prog 99 #[hv hb ho, I i] W fun e w' => PopEnd w hb ho c T eb es x e w' := by
    intro W hW hfr
    have := hRemove_any hb ho c T eb es i W (h.heapEq hW) hp hil hn
    rw [hix] at this
    refine this.mono ?_
    rintro e w' ⟨h1, sl, l, p, ag, pm, hpp, hbx, hlp, fr⟩
    exact ⟨h1, sl, l, p, ag, pm, hpp, hbx, hlp, hfr.trans fr⟩
  have hh0 := holds_in hb ho b cap es.length i x.blk w hst.head hil c2 (hst.lie.cell hi)
  have RM := hide rm
  have HH0 := hide hh0
  clear rm hh0 h hp hi hil hix h0 hst hb1 hb2 hcap hcs hnf hn
  go_enter Tryz.func63, Tryz.ntmps63
  go_wp2_with fail
  refine (HH0.out).mono ?_
  rintro e w' ⟨rfl, n, rfl⟩
  go_wp2_with fail
  go_region_with (go_at_call 99; refine (RM.out _ (by rfl) (by exact ⟨rfl, rfl, rfl, Nat.le_refl _, fun _ _ _ => rfl⟩)).mono ?_; rintro e w' ⟨rfl, he⟩)
  all_goals go_wp2_with fail
  all_goals go_end0
  all_goals exact ⟨rfl, _, rfl, he⟩

/-- what Add leaves -/
def AddEnd (w : World) (hb ho : Nat) (c : Array Value) (T : TypeId) (eb : Option Nat) (es : List Ent) (tick num : Int) (act : Value) (e : Ending) (w' : World) : Prop :=
  ∃ x : Ent, e = .returned (ptr x.blk 0) ∧ x.tick = tick ∧ x.num = num ∧ x.act = act ∧ w.heap.size ≤ x.blk ∧
    ∃ sl eb' es', AgAt w' hb ho ((c.setIfInBounds (ho + 1) (I (wrap64 (num + 1)))).setIfInBounds ho sl) T eb' es' ∧ es'.Perm (x :: es) ∧ HeapN es'.length es' ∧ (eb' = eb ∨ ∃ g, eb' = some g ∧ w.heap.size ≤ g) ∧ Frm (AgF hb eb es) w w'

theorem AgAt.frm {S : Nat → Prop} {w w' : World} {hb ho : Nat} {c : Array Value} {T : TypeId} {eb : Option Nat} {es : List Ent} (h : AgAt w hb ho c T eb es) (f : Frm S w w') (hs : ∀ k, AgF hb eb es k → ¬ S k) : AgAt w' hb ho c T eb es := by
  obtain ⟨sl, h1, h2, h3⟩ := h.row
  exact ⟨h.head.frm f (hs _ (Or.inl rfl)), ⟨sl, h1, row_frm h2 f fun g hg => hs g (Or.inr (Or.inl (by rw [← h3, hg]))), h3⟩,
    fun i x hi => (h.ent i x hi).frm f (hs _ (Or.inr (Or.inr ⟨x, List.mem_of_getElem? hi, rfl⟩))), h.nodup, h.out, h.hbo⟩

theorem AgAt.setHead {w : World} {hb ho : Nat} {c : Array Value} {T : TypeId} {eb : Option Nat} {es : List Ent} (h : AgAt w hb ho c T eb es) (k : Nat) (hk : k ≠ ho) (v : Value) : AgAt (w.setCell ⟨hb, k, none⟩ v) hb ho (c.setIfInBounds k v) T eb es := by
  obtain ⟨sl, h1, h2, h3⟩ := h.row
  refine ⟨h.head.set k v, ⟨sl, by rw [Array.getElem?_setIfInBounds]; simp [hk, h1], row_of_block h2 fun g hg => Below.heap_setCell _ _ _ _ ?_, h3⟩, fun i x hi => (h.ent i x hi).other (p := ⟨hb, k, none⟩) (h.out x (List.mem_of_getElem? hi)).1 _, h.nodup, h.out, h.hbo⟩
  intro e; exact h.hbo (by rw [← h3, hg, e])

set_option maxRecDepth 100000 in
set_option maxHeartbeats 1600000 in
theorem add_any (hb ho : Nat) (c : Array Value) (T : TypeId) (eb : Option Nat) (es : List Ent) (tick num : Int) (f : Fn) (caps : Array Value) (w : World) (h : AgAt w hb ho c T eb es) (hp : HeapN es.length es) (hn : es.length < 1000000)
    (hc : c[ho + 1]? = some (I num)) :
    Calls Tryz.prog 64 #[ptr hb ho, I tick, .func f #[] caps] w fun e w' => AddEnd w hb ho c T eb es tick num (.func f #[] caps) e w' := by
  have c1 : w.cell? ⟨hb, ho + 1, none⟩ = some (I num) := by rw [h.head.cell]; exact hc
  have f1 := h.head.frozen (ho + 1)
  have hlt := h.head.lt
  have hps : ∀ W : World, W = ((w.setCell ⟨hb, ho + 1, none⟩ (I (wrap64 (num + 1)))).alloc (.cells #[I tick, I num, I 0, .func f #[] caps] 162)) →
      Calls Tryz.prog 100 #[hv hb ho, .iface 125 (ptr w.heap.size 0)] W fun e w' => e = .returned (.tuple #[]) ∧ AddEnd w hb ho c T eb es tick num (.func f #[] caps) (.returned (ptr w.heap.size 0)) w' := by
    intro W hW
    have ha := h.setHead (ho + 1) (by omega) (I (wrap64 (num + 1)))
    have hb' : AgAt W hb ho (c.setIfInBounds (ho + 1) (I (wrap64 (num + 1)))) T eb es := by
      rw [hW]; exact ha.frm ((Frm.refl (fun _ => False) _).alloc _) (fun _ _ e => e)
    have hlts := h.lt
    have hne : w.heap.size ≠ hb := by omega
    have hbx : Blk W w.heap.size (entCells ⟨w.heap.size, tick, num, .func f #[] caps⟩ 0) 162 := by
      have := Blk.new (w.setCell ⟨hb, ho + 1, none⟩ (I (wrap64 (num + 1)))) (entCells ⟨w.heap.size, tick, num, .func f #[] caps⟩ 0) 162
      rw [World.size_setCell] at this
      rw [hW]; exact this
    refine (hPush_any hb ho _ T eb es ⟨w.heap.size, tick, num, .func f #[] caps⟩ 0 W hb' hp hbx hne ?_ ?_ hn).mono ?_
    · intro e; have := hlts w.heap.size (Or.inr (Or.inl e)); omega
    · intro e he e'; have := hlts e.blk (Or.inr (Or.inr ⟨e, he, rfl⟩)); simp at e'; omega
    · rintro e w' ⟨rfl, sl, eb', es', ag, pm, hp', hn', fr⟩
      refine ⟨rfl, ⟨w.heap.size, tick, num, .func f #[] caps⟩, rfl, rfl, rfl, rfl, Nat.le_refl _, sl, eb', es', ag, pm, hp', ?_, ?_⟩
      · rcases hn' with e | ⟨g, e, hg⟩
        · exact Or.inl e
        · refine Or.inr ⟨g, e, ?_⟩; rw [hW] at hg; simp at hg; omega
      · have f0 : Frm (AgF hb eb es) w W := by rw [hW]; exact ((Frm.refl _ _).setCell (Or.inl rfl) _).alloc _
        refine f0.trans2 fr ?_
        rintro k hk (e | e)
        · exact e
        · simp at e; omega
  have PS := hide hps
  clear hps h hp hn hc
  go_enter Tryz.func64, Tryz.ntmps64
  go_wp2_with fail
  refine (PS.out _ (by rfl)).mono ?_
  rintro e w' ⟨rfl, he⟩
  go_wp2_with fail
  go_ret
  exact he

/-- what is known of an agenda whose entries do what Inv bears -/
def Due (Inv : World → Nat → Prop) (hb ho : Nat) (t : Int) (w : World) (n : Nat) (c : Array Value) (T : TypeId) (eb : Option Nat) (es : List Ent) : Prop :=
  AgAt w hb ho c T eb es ∧ HeapN es.length es ∧ es.length < 1000000 ∧
    (es ≠ [] → (ix es 0).tick ≤ t → ∃ f caps, (ix es 0).act = .func (.func f) #[] caps ∧ (∀ args w, (callFunc f args).run Tryz.prog w = .ok (.enter f args) w) ∧
      ∀ w1, PopEnd w hb ho c T eb es (ix es 0) (.returned (.iface 125 (ptr (ix es 0).blk 0))) w1 → Calls Tryz.prog f caps w1 fun e w2 => e = .returned (.tuple #[]) ∧ ∃ n', n' < n ∧ Inv w2 n')

def ReachEnd (Inv : World → Nat → Prop) (hb ho : Nat) (t : Int) (e : Ending) (w' : World) : Prop :=
  e = .returned (.tuple #[]) ∧ ∃ n c T eb es, Inv w' n ∧ Due Inv hb ho t w' n c T eb es ∧ (es = [] ∨ t < (ix es 0).tick)

set_option maxRecDepth 100000 in
set_option maxHeartbeats 1600000 in
theorem reach_any (Inv : World → Nat → Prop) (hb ho : Nat) (t : Int) (hI : ∀ w n, Inv w n → ∃ c T eb es, Due Inv hb ho t w n c T eb es) (n : Nat) (w : World) (h : Inv w n) :
    Calls Tryz.prog 105 #[ptr hb ho, I t] w fun e w' => ReachEnd Inv hb ho t e w' := by
  have HI := hide hI
  have H0 := hide h
  clear h hI
  go_enter Tryz.func105, Tryz.ntmps105
  go_wp2_with fail
  go_loopg [4] n (fun k _ wr => Hid (Inv wr k))
  case atStart => exact H0.out
  case round =>
    have hrel' : Inv wr gk := hrel
    obtain ⟨c, T, eb, es, hdue⟩ := HI.out wr gk hrel'
    have HD := hide hdue
    obtain ⟨ag, hp, hl, hstep⟩ := hdue
    by_cases h0 : es = []
    · subst h0
      obtain ⟨sl, hs1, hs2, hs3⟩ := ag.row
      obtain ⟨a, cp, rfl⟩ := row_slice hs2
      have c0 : wr.cell? ⟨hb, ho, none⟩ = some (.slice a 0 cp) := by rw [ag.head.cell]; exact hs1
      have HR := hide hrel'
      clear ag hp hl hstep hs1 hs2 hs3 hrel' hrel
      go_wp2_with fail
      go_end0
      exact ⟨rfl, gk, c, T, eb, [], HR.out, HD.out, Or.inl rfl⟩
    · obtain ⟨b, sp, cap, hb1, hb2, hst, hcap, hcs, hnf⟩ := ag.hst h0 es.length
      have hl0 : 0 < es.length := List.length_pos_iff.2 h0
      have c0 := hst.head
      have x0 := ix_some hl0
      have c1 := hst.lie.cell x0
      have c2 := (hst.lie.cells x0).1
      have hl0' : (0 : Int) < (es.length : Int) := by omega
      have hd0 : decide ((0 : Int) < (es.length : Int)) = true := by simpa using hl0
      have HR := hide hrel'
      have PO := hide (hPop_any hb ho c T eb es wr ag hp h0 hl)
      have ST := hide hstep
      have H0' := hide h0
      clear x0 hst hp hstep hrel' hrel hb1 hb2 hcap hcs hnf ag h0
      by_cases ht : (ix es 0).tick ≤ t
      · obtain ⟨f, caps, hact, hcf, hcall⟩ := ST.out H0'.out ht
        generalize ix es 0 = x at *
        have HC := hide hcall
        have HA := hide hact
        clear hcall hact
        have ta : ∀ w, Sem.run Tryz.prog (Instr.typeAssert (.iface 125 (ptr x.blk 0)) 20 125 false) w = .ok (ptr x.blk 0) w := fun _ => by kernel_rfl
        go_wp2_with fail
        refine (PO.out).mono ?_
        rintro e w1 ⟨rfl, hpe⟩
        have cl := HC.out w1 ⟨rfl, hpe⟩
        obtain ⟨sl, l, p, -, -, -, hbx, -, -⟩ := hpe
        have c3 : w1.cell? ⟨x.blk, 3, none⟩ = some (.func (.func f) #[] caps) := by
          rw [hbx.cell, ← HA.out]; rfl
        have CL := hide cl
        clear cl hbx
        go_wp2_with fail
        refine (CL.out).mono ?_
        rintro e w2 ⟨rfl, n', hn', hI'⟩
        go_wp2_with fail
        go_roundg n'
        case measure => exact hn'
        case rel => exact hI'
      · have ht' : t < (ix es 0).tick := by omega
        generalize hx : ix es 0 = x at *
        have HX := hide hx
        clear hx
        go_wp2_with fail
        go_end0
        exact ⟨rfl, gk, c, T, eb, es, HR.out, HD.out, Or.inr (by rw [HX.out]; exact ht')⟩

end Go.Proofs.YtpilmkipbbengaaGreatDoor
