/- slices.DeleteFunc at the orders' list, of the one order that is to go. -/
import Derived.Test.YtpilmkipbbengaaGreatDoorSl
import Derived.LaidEqlPtr
import Derived.Lib.SliceRun
import Derived.Deep.LoopGhost
namespace Go.Proofs.YtpilmkipbbengaaGreatDoor
open Go.RowKit

theorem infoOrd : (Tryz.prog.info? 148).map (fun i => (i.zero, i.size, i.bytes)) = some (some (.agg #[I 0, I 0, I 0]), 3, 24) := by kernel_rfl

abbrev pt (b : Nat) : Value := .pointer (some ⟨b, 0, none⟩)

set_option maxRecDepth 100000 in
set_option maxHeartbeats 800000 in
theorem dropEq_same (ob box : Nat) (w : World) (hb : w.cell? ⟨box, 0, none⟩ = some (pt ob)) :
    Calls Tryz.prog 125 #[pt ob, pt box] w fun e w' => e = .returned (.bool true) ∧ w' = w := by
  have eq1 : ∀ W, Sem.run Tryz.prog (binOp .eql 149 (pt ob) (pt ob)) W = .ok (.bool true) W := fun W => by
    obtain ⟨j, hj, -⟩ := info_parts infoOrd
    exact run_eql_ptr_same W ⟨ob, 0, none⟩ Tryz.underlying149 hj
  go_enter Tryz.func125, Tryz.ntmps125
  go_wp2
  go_ret
  exact ⟨rfl, rfl⟩

set_option maxRecDepth 100000 in
set_option maxHeartbeats 800000 in
theorem dropEq_other (x ob box : Nat) (cx co : Array Value) (tx ty : TypeId) (w : World) (hb : w.cell? ⟨box, 0, none⟩ = some (pt ob)) (hne : x ≠ ob) (hx : Blk w x cx tx) (ho : Blk w ob co ty) :
    Calls Tryz.prog 125 #[pt x, pt box] w fun e w' => e = .returned (.bool false) ∧ w' = w := by
  have eq1 : Sem.run Tryz.prog (binOp .eql 149 (pt x) (pt ob)) w = .ok (.bool false) w := by
    obtain ⟨j, hj, -, hs, -⟩ := info_parts infoOrd
    exact run_eql_ptr_other w Tryz.underlying149 hj (by rw [hs]; decide) (by intro e; injection e with e; exact hne e) hx ho
  clear hx ho
  go_enter Tryz.func125, Tryz.ntmps125
  go_wp2
  go_ret
  exact ⟨rfl, rfl⟩

/-- the list, its orders, the box of the one that is to go -/
structure DelIn (w : World) (g : Nat) (cur : Array Value) (ids : List Nat) (q ob box : Nat) : Prop where
  arr : Blk w g cur 149
  at_ : ∀ (k x : Nat), ids[k]? = some x → cur[k]? = some (pt x)
  ords : ∀ (k x : Nat), ids[k]? = some x → ∃ c, Blk w x c 148
  here : ids[q]? = some ob
  only : ∀ k : Nat, ids[k]? = some ob → k = q
  bx : Blk w box #[pt ob] 149

set_option maxRecDepth 100000 in
set_option maxHeartbeats 1600000 in
theorem index_any (g cap : Nat) (cur : Array Value) (ids : List Nat) (q ob box : Nat) (w : World) (h : DelIn w g cur ids q ob box) (hn : ids.length ≤ 100000) :
    Calls Tryz.prog 145 #[.slice (some ⟨g, 0, none⟩) ids.length cap, .func (.func 125) #[] #[pt box]] w fun e w' => e = .returned (I q) ∧ w' = w := by
  have hq : q < ids.length := (List.getElem?_eq_some_iff.1 h.here).1
  have H := hide h
  clear h
  go_enter Tryz.func145, Tryz.ntmps145
  go_wp2_with fail
  go_loopg [5, 8] ids.length (fun m _ i wr => ∃ j : Nat, m + j = ids.length ∧ i = I j ∧ j ≤ q ∧ wr = w)
  case atStart => exact ⟨0, by omega, rfl, by omega, rfl⟩
  case round =>
    obtain ⟨j, hm, rfl, hjq, rfl⟩ := hrel
    obtain ⟨x, hx⟩ : ∃ x, ids[j]? = some x := ⟨_, List.getElem?_eq_getElem (by omega)⟩
    have c0 : wr.cell? ⟨g, j, none⟩ = some (pt x) := by rw [(H.out).arr.cell]; exact (H.out).at_ j x hx
    have cb : wr.cell? ⟨box, 0, none⟩ = some (pt ob) := by rw [(H.out).bx.cell]; rfl
    have hjl : j < ids.length := by omega
    by_cases e : j = q
    · have hxo : x = ob := by
        have := (H.out).here
        rw [e] at hx; rw [hx] at this; injection this
      subst hxo
      subst e
      have DE := hide (dropEq_same x box wr cb)
      clear hx
      go_wp2_with fail
      refine (DE.out).mono ?_
      rintro e w1 ⟨rfl, hw⟩
      have hw' := hw.symm
      subst hw'
      go_wp2_with fail
      go_ret
      exact ⟨rfl, rfl⟩
    · have hne : x ≠ ob := fun e' => e ((H.out).only j (by rw [hx, e']))
      obtain ⟨cx, bx⟩ := (H.out).ords j x hx
      obtain ⟨co, bo⟩ := (H.out).ords q ob (H.out).here
      have DE := hide (dropEq_other x ob box cx co _ _ wr cb hne bx bo)
      clear hx bx bo
      go_wp2_with fail
      refine (DE.out).mono ?_
      rintro e' w1 ⟨rfl, hw⟩
      have hw' := hw.symm
      subst hw'
      go_wp2_with fail
      go_roundg (gk - 1)
      case measure => omega
      case rel => exact ⟨j + 1, by omega, by simp, by omega, rfl⟩

/-- what DeleteFunc leaves -/
def DelEnd (w : World) (g cap : Nat) (ids : List Nat) (q : Nat) (e : Ending) (w' : World) : Prop :=
  e = .returned (.slice (some ⟨g, 0, none⟩) (ids.length - 1) cap) ∧ w'.ownsRow 0 149 1 (.slice (some ⟨g, 0, none⟩) (ids.length - 1) cap) (ids.length - 1) ((ids.eraseIdx q).map pt) ∧ Frm (fun x => x = g) w w'

set_option maxRecDepth 100000 in
set_option maxHeartbeats 1600000 in
theorem delete_any (g cap : Nat) (cur : Array Value) (ids : List Nat) (q ob box : Nat) (w : World) (h : DelIn w g cur ids q ob box) (hn : ids.length ≤ 100000) (hcap : ids.length ≤ cap) (hcm : cap ≤ maxLen) (hcs : cur.size = cap) (hbg : box ≠ g) (hog : ∀ x ∈ ids, x ≠ g) :
    Calls Tryz.prog 124 #[.slice (some ⟨g, 0, none⟩) ids.length cap, .func (.func 125) #[] #[pt box]] w fun e w' => DelEnd w g cap ids q e w' := by
  have hq : q < ids.length := (List.getElem?_eq_some_iff.1 h.here).1
  have IX := hide (index_any g cap cur ids q ob box w h hn)
  have H := hide (And.intro h hog)
  have hc63 : cap ≤ 9223372036854775807 := by unfold maxLen at hcm; omega
  clear h hog
  go_enter Tryz.func124, Tryz.ntmps124
  go_wp2_with fail
  refine (IX.out).mono ?_
  rintro e w1 ⟨rfl, hw⟩
  have hw' := hw.symm
  subst hw'
  go_wp2_with fail
  go_loopg [5, 6, 7] (ids.length - (q + 1)) (fun m i j _ wr => ∃ k : Nat, m + k + 1 = ids.length ∧ q ≤ k ∧ i = I k ∧ j = I ((k : Int) + 1) ∧ Hid (∃ cur' : Array Value, Blk wr g cur' 149 ∧ cur'.size = cap ∧ Frm (fun x => x = g) w wr ∧ ∀ l, l < cap → cur'[l]? = if q ≤ l ∧ l < k then cur[l + 1]? else cur[l]?))
  case atStart => exact ⟨q, by omega, Nat.le_refl _, rfl, rfl, cur, (H.out).1.arr, hcs, Frm.refl _ _, fun l _ => by rw [if_neg (by omega)]⟩
  case round =>
    obtain ⟨k, hm, hqk, rfl, rfl, hst⟩ := hrel
    obtain ⟨cur', bw, sz, fr, hcur⟩ := hst.out
    by_cases hj : k + 1 < ids.length
    · obtain ⟨x, hx⟩ : ∃ x, ids[k + 1]? = some x := ⟨_, List.getElem?_eq_getElem hj⟩
      have hcx : cur'[k + 1]? = some (pt x) := by
        rw [hcur (k + 1) (by omega), if_neg (by omega)]
        exact (H.out).1.at_ (k + 1) x hx
      have c0 : wr.cell? ⟨g, k + 1, none⟩ = some (pt x) := by rw [bw.cell]; exact hcx
      have ck : ∃ u, wr.cell? ⟨g, k, none⟩ = some u := ⟨_, by rw [bw.cell]; exact Array.getElem?_eq_getElem (by omega)⟩
      obtain ⟨u, ck⟩ := ck
      have fk := bw.frozen k
      have bbx : Blk wr box #[pt ob] 149 := (H.out).1.bx.frm fr hbg
      have cb : wr.cell? ⟨box, 0, none⟩ = some (pt ob) := by rw [bbx.cell]; rfl
      have hne : x ≠ ob := fun e' => by have := (H.out).1.only (k + 1) (by rw [hx, e']); omega
      obtain ⟨cx, bx⟩ := (H.out).1.ords (k + 1) x hx
      obtain ⟨co, bo⟩ := (H.out).1.ords q ob (H.out).1.here
      have DE := hide (dropEq_other x ob box cx co _ _ wr cb hne (bx.frm fr ((H.out).2 x (List.mem_of_getElem? hx))) (bo.frm fr ((H.out).2 ob (List.mem_of_getElem? (H.out).1.here))))
      have NX : Hid (∃ cur2 : Array Value, Blk (wr.setCell ⟨g, k, none⟩ (pt x)) g cur2 149 ∧ cur2.size = cap ∧ Frm (fun x => x = g) w (wr.setCell ⟨g, k, none⟩ (pt x)) ∧ ∀ l, l < cap → cur2[l]? = if q ≤ l ∧ l < k + 1 then cur[l + 1]? else cur[l]?) := by
        refine ⟨_, bw.set k (pt x), by simpa using sz, fr.setCell (p := ⟨g, k, none⟩) (S := fun x => x = g) rfl (pt x), fun l hl => ?_⟩
        rw [Array.getElem?_setIfInBounds]
        by_cases e : k = l
        · subst e
          rw [if_pos rfl, if_pos (by omega), if_pos (by omega)]
          exact ((H.out).1.at_ (k + 1) x hx).symm
        · rw [if_neg e, hcur l hl]
          by_cases e2 : q ≤ l ∧ l < k
          · rw [if_pos e2, if_pos (by omega)]
          · rw [if_neg e2, if_neg (by omega)]
      clear hx hcx bw sz fr hcur bbx bx bo hst
      go_wp2_with fail
      refine (DE.out).mono ?_
      rintro e' w1 ⟨rfl, hw⟩
      have hw' := hw.symm
      subst hw'
      go_wp2_with fail
      go_roundg (gk - 1)
      case measure => omega
      case rel => exact ⟨k + 1, by omega, by omega, by simp, by simp, NX.out⟩
    · have hk : ids.length = k + 1 := by omega
      have hzv : ∀ w, (zeroValue 149).run Tryz.prog w = .ok (.pointer none) w := fun w => by kernel_rfl
      have hcl : ∀ ty c, (Builtin.clear_ #[73] ty #[.slice (some ⟨g, k, none⟩) 1 c]).run Tryz.prog wr = .ok (.tuple #[]) (wr.setCells g k (List.replicate 1 (.pointer none))) := fun ty c =>
        Lib.run_clear_slice wr 73 149 ty (.pointer none) Tryz.underlying73 hzv rfl rfl g k 1 c (by decide) (fun j hj => isSome_setCells' bw (by omega)) (fun j _ => bw.frozen _)
      obtain ⟨c2, b2, s2, e2⟩ := Blk.setCells g (List.replicate 1 (.pointer none)) k wr cur' bw
      have f2 : Frm (fun x => x = g) w (wr.setCells g k (List.replicate 1 (.pointer none))) := Frm.setCells (S := fun x => x = g) (g := g) rfl _ _ _ fr
      have FI : Hid (DelEnd w g cap ids q (.returned (.slice (some ⟨g, 0, none⟩) k cap)) (wr.setCells g k (List.replicate 1 (.pointer none)))) := by
        have hk' : ids.length - 1 = k := by omega
        have hrow := row_mk (n := k) (cap := cap) (xs := (ids.eraseIdx q).map pt) b2 (by omega) hcm (by omega) (by rw [List.length_map, List.length_eraseIdx_of_lt hq]; omega) (by
          intro l hl
          rw [e2 l (by omega), if_neg (by simp; omega), hcur l (by omega), List.getElem?_map, List.getElem?_eraseIdx]
          by_cases e : l < q
          · rw [if_neg (by omega), if_pos e]
            have hil : l < ids.length := by omega
            have hg := List.getElem?_eq_getElem hil
            rw [(H.out).1.at_ l _ hg, hg]; rfl
          · rw [if_pos (by omega), if_neg e]
            have hil : l + 1 < ids.length := by omega
            have hg := List.getElem?_eq_getElem hil
            rw [(H.out).1.at_ (l + 1) _ hg, hg]; rfl)
        exact ⟨by rw [hk'], by rw [hk']; exact hrow, f2⟩
      have HCL := hide hcl
      clear bw sz fr hcur hst hcl b2 s2 e2 f2 hm hzv
      have hck : ¬ (cap = k) := by omega
      rw [hk]
      go_wp2_with fail
      rw [HCL.out]
      go_wp2_with fail
      go_ret
      exact FI.out

end Go.Proofs.YtpilmkipbbengaaGreatDoor
