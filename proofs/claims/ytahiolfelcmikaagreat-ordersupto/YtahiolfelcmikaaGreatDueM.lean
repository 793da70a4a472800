/- An order begins, an order ends: the channel's list. -/
import Derived.Test.YtahiolfelcmikaaGreatSlM
import Derived.Test.YtahiolfelcmikaaGreatDgive
import Derived.Test.YtahiolfelcmikaaGreatDpass2
namespace Go.Proofs.YtahiolfelcmikaaGreat
open Go.RowKit

/-- where an order comes in -/
def place (ods : List OrdD) (k j : Nat) : Nat := (going (ods.take j) k).length

theorem going_split (ods : List OrdD) (k j : Nat) (o : OrdD) (hj : ods[j]? = some o) : going ods k = going (ods.take j) k ++ (going [o] k ++ going (ods.drop (j + 1)) k) := by
  have hl : j < ods.length := (List.getElem?_eq_some_iff.1 hj).1
  have hv : ods[j] = o := (List.getElem?_eq_some_iff.1 hj).2
  have e : ods = ods.take j ++ ([o] ++ ods.drop (j + 1)) := by
    have := List.take_append_drop j ods
    rw [List.drop_eq_getElem_cons hl, hv] at this
    exact this.symm
  have := congrArg (fun l => going l k) e
  simp only [going_append] at this
  exact this

theorem going_take {ods : List OrdD} {k j i : Nat} {p : OrdD} (h : (going (ods.take j) k)[i]? = some p) : ∃ i', i' < j ∧ ods[i']? = some p := by
  have hm := (going_mem (List.mem_of_getElem? h)).1
  obtain ⟨i', hi'⟩ := List.getElem?_of_mem hm
  rw [List.getElem?_take] at hi'
  split at hi'
  · exact ⟨i', by omega, hi'⟩
  · cases hi'
theorem going_drop {ods : List OrdD} {k j i : Nat} {p : OrdD} (h : (going (ods.drop (j + 1)) k)[i]? = some p) : ∃ i', j < i' ∧ ods[i']? = some p := by
  have hm := (going_mem (List.mem_of_getElem? h)).1
  obtain ⟨i', hi'⟩ := List.getElem?_of_mem hm
  rw [List.getElem?_drop] at hi'
  exact ⟨j + 1 + i', by omega, hi'⟩

def BegEnd (w : World) (g k : Nat) (s : Value) (n : Nat) (xs : List Value) (pl : Nat) (p : Value) (e : Ending) (w' : World) : Prop :=
  e = .returned (.tuple #[]) ∧ ∃ w1 v', w1.ownsRow 0 110 1 v' (n + 1) (ins xs pl p) ∧ (v'.ownBlock = s.ownBlock ∨ ∃ q, v'.ownBlock = some q ∧ w.heap.size ≤ q) ∧ Frm (fun x => s.ownBlock = some x) w w1 ∧ w' = w1.setCell ⟨g, k * 5 + 2, none⟩ v'

set_option maxRecDepth 100000 in
set_option maxHeartbeats 3200000 in
theorem begin_any (b : Nat) (vc : Value) (sos : List Value) (vo : Value) (xt : List Ent) (nv : Int) (ods : List OrdD) (g k j : Nat) (o : OrdD) (s : Value) (w : World) (h : OAt w b vc sos vo xt nv ods) (hlen : ods.length ≤ 3300) (hj : ods[j]? = some o) (hon : o.on k = false) (hs : sos[k]? = some s)
    (c2 : w.cell? ⟨g, k * 5 + 2, none⟩ = some s) (f2 : w.frozen? ⟨g, k * 5 + 2, none⟩ = false) (hg : HasT w g 116) :
    Calls Tryz.prog 84 #[ptr g (k * 5), pt o.blk] w fun e w' => BegEnd w g k s (going ods k).length ((going ods k).flatMap fun o => [pt o.blk]) (place ods k j) (pt o.blk) e w' := by
  have hso := h.so k s hs
  obtain ⟨sa, sc, rfl⟩ := row_slice hso
  have hgl : (going ods k).length ≤ 3300 := Nat.le_trans (going_le ods k) hlen
  have hsp := going_split ods k j o hj
  have hsp' : going ods k = going (ods.take j) k ++ going (ods.drop (j + 1)) k := by
    rw [hsp]; congr 1; simp [going, hon]
  have hpl : place ods k j ≤ (going ods k).length := by rw [hsp']; simp [place]
  have hlg := hg.lt
  have hb0 := h.ords j o hj
  have n0 : w.cell? ⟨o.blk, 0, none⟩ = some (I ((j : Int) + 1)) := by rw [hb0.cell]; rfl
  have hjl : j < ods.length := (List.getElem?_eq_some_iff.1 hj).1
  have INS : Hid (∀ m : Nat, Calls Tryz.prog 94 #[.slice sa (going ods k).length sc, I (place ods k j), .slice (some ⟨w.heap.size, 0, none⟩) 1 1] ((w.drewN m).alloc (.cells #[pt o.blk] 110)) fun e w1 => ∃ v', e = .returned v' ∧
      (∃ u, w1.cell? ⟨g, k * 5 + 2, none⟩ = some u) ∧ w1.frozen? ⟨g, k * 5 + 2, none⟩ = false ∧ (∃ a c, v' = .slice a ((going ods k).length + 1) c) ∧ BegEnd w g k (.slice sa (going ods k).length sc) (going ods k).length ((going ods k).flatMap fun o => [pt o.blk]) (place ods k j) (pt o.blk) (.returned (.tuple #[])) (w1.setCell ⟨g, k * 5 + 2, none⟩ v')) := by
    intro m
    have km : Keep w ((w.drewN m).alloc (.cells #[pt o.blk] 110)) := ((Frm.refl _ _).drewN m).alloc _
    have bn : Blk ((w.drewN m).alloc (.cells #[pt o.blk] 110)) w.heap.size #[pt o.blk] 110 := Blk.new (w.drewN m) _ _
    refine (insert_any (.slice sa (going ods k).length sc) (going ods k).length ((going ods k).flatMap fun o => [pt o.blk]) (place ods k j) w.heap.size (pt o.blk) _ (row_frm hso km fun _ _ e => e) ?_ rfl hpl (by omega) bn ?_).mono ?_
    · intro u hu
      obtain ⟨p, -, hp⟩ := List.mem_flatMap.1 hu
      simp at hp; subst hp; rfl
    · intro e; have := (hso.lt _ e).2; omega
    · rintro e w1 ⟨v', rfl, r1, r2, r3⟩
      have hng : (Value.slice sa (going ods k).length sc).ownBlock ≠ some g := fun e => by
        have := (row_ty hso e).uniq hg; revert this; decide
      have fr : Frm (fun x => (Value.slice sa (going ods k).length sc).ownBlock = some x) w w1 := (km.mono fun _ _ e => e.elim).trans r3
      refine ⟨v', rfl, ⟨_, fr.cell (p := ⟨g, k * 5 + 2, none⟩) c2 hng⟩, fr.frozen (p := ⟨g, k * 5 + 2, none⟩) hlg f2 hng, row_slice r1, rfl, w1, v', r1, ?_, fr, rfl⟩
      rcases r2 with e | ⟨q, e, hq⟩
      · exact Or.inl e
      · exact Or.inr ⟨q, e, Nat.le_trans km.size hq⟩
  have GET : Hid (∀ i p, (going ods k)[i]? = some p → ∃ i' : Nat, w.cell? ⟨p.blk, 0, none⟩ = some (I ((i' : Int) + 1)) ∧ i' < ods.length ∧ (i < place ods k j → i' < j) ∧ (place ods k j ≤ i → j < i')) := by
    intro i p hp
    have hp' := hp
    rw [hsp', List.getElem?_append] at hp'
    split at hp'
    · obtain ⟨i', h1, h2⟩ := going_take hp'
      refine ⟨i', by rw [(h.ords i' p h2).cell]; rfl, (List.getElem?_eq_some_iff.1 h2).1, fun _ => h1, fun h3 => ?_⟩
      rename_i hlt
      unfold place at h3; omega
    · obtain ⟨i', h1, h2⟩ := going_drop hp'
      refine ⟨i', by rw [(h.ords i' p h2).cell]; rfl, (List.getElem?_eq_some_iff.1 h2).1, fun h3 => ?_, fun _ => h1⟩
      rename_i hlt
      unfold place at h3; omega
  have HR := hide hso
  clear h hs hso hsp hsp' hb0 hj hg
  generalize place ods k j = pl at *
  go_enter Tryz.func84, Tryz.ntmps84
  go_wp2_with fail
  go_loopg [4] pl (fun q i wr => ∃ x : Nat, q + x = pl ∧ i = I x ∧ Hid (∃ m, wr = w.drewN m))
  case atStart => exact ⟨0, by omega, rfl, 0, rfl⟩
  case round =>
    obtain ⟨x, hq, rfl, hd⟩ := hrel
    by_cases hx : x < (going ods k).length
    · obtain ⟨p, hp⟩ : ∃ p, (going ods k)[x]? = some p := ⟨_, List.getElem?_eq_getElem hx⟩
      obtain ⟨i', z1, z2, z3, z4⟩ := GET.out x p hp
      obtain ⟨g', cap', hv, -, hcell, -⟩ := row_at HR.out (fun _ => rfl) hp (by decide)
      injection hv with hv1 hv2 hv3
      subst hv1
      have d0 := hcell 0 (by decide)
      simp at d0
      obtain ⟨m, rfl⟩ := hd.out
      have HQ := hide hq
      clear hcell hv2 hv3 hp hq GET HR hd
      have y1 : (w.drewN m).cell? ⟨p.blk, 0, none⟩ = some (I ((i' : Int) + 1)) := z1
      have y2 : (w.drewN m).cell? ⟨g', x, none⟩ = some (pt p.blk) := d0
      have y3 : (w.drewN m).cell? ⟨g, k * 5 + 2, none⟩ = some (.slice (some ⟨g', 0, none⟩) (going ods k).length sc) := c2
      have y4 : (w.drewN m).cell? ⟨o.blk, 0, none⟩ = some (I ((j : Int) + 1)) := n0
      generalize hwm : w.drewN m = wm at *
      have HM := hide hwm
      clear hwm z1 d0
      by_cases hlt : x < pl
      · have h3 : (i' : Int) + 1 < (j : Int) + 1 := by have := z3 hlt; omega
        clear z3 z4
        go_wp2_with fail
        go_quiet (fail)
        go_wp2_with fail
        go_roundg (gk - 1)
        case measure => have := HQ.out; omega
        case rel => exact ⟨x + 1, by have := HQ.out; omega, by simp, m + nq, by rw [← HM.out, World.drewN_drewN]⟩
      · have h3 : ¬ (i' : Int) + 1 < (j : Int) + 1 := by have := z4 (by omega); omega
        have h3' : decide ((i' : Int) + 1 < (j : Int) + 1) = false := by simpa using h3
        have hxp : x = pl := by have := HQ.out; omega
        subst hxp
        clear z3 z4
        go_wp2_with fail
        go_quiet (fail)
        have hwq : wm.drewN nq = w.drewN (m + nq) := by rw [← HM.out, World.drewN_drewN]
        rw [hwq]
        go_wp2_with fail
        refine (INS.out _).mono ?_
        rintro e w1 ⟨v', rfl, ⟨u, q1⟩, q2, ⟨av, cv, rfl⟩, q4⟩
        have FF := hide q4
        clear q4
        go_wp2_with fail
        go_end0
        exact FF.out
    · have hxp : x = pl := by omega
      subst hxp
      obtain ⟨m, rfl⟩ := hd.out
      have y3 : (w.drewN m).cell? ⟨g, k * 5 + 2, none⟩ = some (.slice sa (going ods k).length sc) := c2
      generalize hwm : w.drewN m = wm at *
      have HM := hide hwm
      clear hwm hd GET HR
      go_wp2_with fail
      go_quiet (fail)
      have hwq : wm.drewN nq = w.drewN (m + nq) := by rw [← HM.out, World.drewN_drewN]
      rw [hwq]
      go_wp2_with fail
      refine (INS.out _).mono ?_
      rintro e w1 ⟨v', rfl, ⟨u, q1⟩, q2, ⟨av, cv, rfl⟩, q4⟩
      have FF := hide q4
      clear q4
      go_wp2_with fail
      go_end0
      exact FF.out

end Go.Proofs.YtahiolfelcmikaaGreat

/- drop; what begins and ends leaves of the orders. -/
namespace Go.Proofs.YtahiolfelcmikaaGreat
open Go.RowKit

def DropEnd (w : World) (g k : Nat) (s : Value) (n : Nat) (ids : List Nat) (q : Nat) (e : Ending) (w' : World) : Prop :=
  e = .returned (.tuple #[]) ∧ ∃ w1 v', w1.ownsRow 0 110 1 v' (n - 1) ((ids.eraseIdx q).map pt) ∧ v'.ownBlock = s.ownBlock ∧ Frm (fun x => s.ownBlock = some x) w w1 ∧ w' = w1.setCell ⟨g, k * 5 + 2, none⟩ v'

theorem going_at (ods : List OrdD) (k j : Nat) (o : OrdD) (hj : ods[j]? = some o) (hon : o.on k = true) : (going ods k)[place ods k j]? = some o := by
  rw [going_split ods k j o hj, List.getElem?_append_right (by simp [place])]
  simp [place, going, hon]

theorem going_inj {w : World} {b : Nat} {vc : Value} {sos : List Value} {vo : Value} {xt : List Ent} {nv : Int} {ods : List OrdD} (h : OAt w b vc sos vo xt nv ods) {k j : Nat} {o : OrdD} (hj : ods[j]? = some o) (hon : o.on k = true) {i : Nat} {p : OrdD} (hp : (going ods k)[i]? = some p) (he : p.blk = o.blk) : i = place ods k j := by
  have hs := going_split ods k j o hj
  have ho : going [o] k = [o] := by simp [going, hon]
  rw [ho] at hs
  rw [hs, List.getElem?_append] at hp
  split at hp
  · obtain ⟨i', h1, h2⟩ := going_take hp
    have := h.dup i' j p o h2 hj he
    omega
  · rename_i hlt
    rw [List.getElem?_append] at hp
    split at hp
    · rename_i h2
      simp at h2
      unfold place; omega
    · rename_i h2
      obtain ⟨i', h1, h3⟩ := going_drop hp
      have := h.dup i' j p o h3 hj he
      omega

set_option maxRecDepth 100000 in
set_option maxHeartbeats 1600000 in
theorem drop_any (b : Nat) (vc : Value) (sos : List Value) (vo : Value) (xt : List Ent) (nv : Int) (ods : List OrdD) (g k j : Nat) (o : OrdD) (s : Value) (w : World) (h : OAt w b vc sos vo xt nv ods) (hlen : ods.length ≤ 3300) (hj : ods[j]? = some o) (hon : o.on k = true) (hs : sos[k]? = some s)
    (c2 : w.cell? ⟨g, k * 5 + 2, none⟩ = some s) (f2 : w.frozen? ⟨g, k * 5 + 2, none⟩ = false) (hg : HasT w g 116) :
    Calls Tryz.prog 86 #[ptr g (k * 5), pt o.blk] w fun e w' => DropEnd w g k s (going ods k).length ((going ods k).map (·.blk)) (place ods k j) e w' := by
  have hso := h.so k s hs
  have hgl : (going ods k).length ≤ 3300 := Nat.le_trans (going_le ods k) hlen
  have hat := going_at ods k j o hj hon
  have hpl : place ods k j < (going ods k).length := (List.getElem?_eq_some_iff.1 hat).1
  have hlg := hg.lt
  rcases hso.2 with ⟨-, h0⟩ | ⟨g', cap, cur, rfl, -, hblk, hnc, hcm, hcsz, htk⟩
  · omega
  have hb' : Blk w g' cur 110 := hblk
  have idl : ((going ods k).map (·.blk)).length = (going ods k).length := by simp
  have kb : Keep w (w.alloc (.cells #[pt o.blk] 110)) := (Frm.refl _ _).alloc _
  have hgb := hb'.lt
  have DI : DelIn (w.alloc (.cells #[pt o.blk] 110)) g' cur ((going ods k).map (·.blk)) (place ods k j) o.blk w.heap.size := by
    refine ⟨hb'.alloc _, ?_, ?_, ?_, ?_, Blk.new _ _ _⟩
    · intro i x hx
      rw [List.getElem?_map] at hx
      cases hp : (going ods k)[i]? with
      | none => rw [hp] at hx; simp at hx
      | some p =>
        rw [hp] at hx; simp at hx; subst hx
        have hil : i < (going ods k).length := (List.getElem?_eq_some_iff.1 hp).1
        have := flat_get (fun o : OrdD => [pt o.blk]) 1 (fun _ => rfl) (going ods k) i 0 p hp (by decide)
        rw [← htk, List.getElem?_take_of_lt (by omega)] at this
        simpa using this
    · intro i x hx
      rw [List.getElem?_map] at hx
      cases hp : (going ods k)[i]? with
      | none => rw [hp] at hx; simp at hx
      | some p =>
        rw [hp] at hx; simp at hx; subst hx
        obtain ⟨i', hi'⟩ := List.getElem?_of_mem (going_mem (List.mem_of_getElem? hp)).1
        exact ⟨_, (h.ords i' p hi').alloc _⟩
    · rw [List.getElem?_map, hat]; rfl
    · intro i hi
      rw [List.getElem?_map] at hi
      cases hp : (going ods k)[i]? with
      | none => rw [hp] at hi; simp at hi
      | some p =>
        rw [hp] at hi; simp at hi
        exact going_inj h hj hon hp hi
  have ng : ∀ x ∈ (going ods k).map (·.blk), x ≠ g' := by
    intro x hx e
    obtain ⟨p, hp, rfl⟩ := List.mem_map.1 hx
    obtain ⟨i', hi'⟩ := List.getElem?_of_mem (going_mem hp).1
    have := (HasT.uniq ⟨_, h.ords i' p hi'⟩ (e ▸ ⟨_, hb'⟩ : HasT w p.blk 110))
    revert this; decide
  have DE := delete_any g' cap cur ((going ods k).map (·.blk)) (place ods k j) o.blk w.heap.size _ DI (by omega) (by omega) hcm (by omega) (by omega) ng
  rw [idl] at DE
  have FI : Hid (∀ (e : Ending) (w1 : World), DelEnd (w.alloc (.cells #[pt o.blk] 110)) g' cap ((going ods k).map (·.blk)) (place ods k j) e w1 → e = .returned (.slice (some ⟨g', 0, none⟩) ((going ods k).length - 1) cap) ∧
      (∃ u, w1.cell? ⟨g, k * 5 + 2, none⟩ = some u) ∧ w1.frozen? ⟨g, k * 5 + 2, none⟩ = false ∧ DropEnd w g k (.slice (some ⟨g', 0, none⟩) (going ods k).length cap) (going ods k).length ((going ods k).map (·.blk)) (place ods k j) (.returned (.tuple #[])) (w1.setCell ⟨g, k * 5 + 2, none⟩ (.slice (some ⟨g', 0, none⟩) ((going ods k).length - 1) cap))) := by
    rintro e w1 ⟨r1, r2, r3⟩
    rw [idl] at r1 r2
    have hng : g ≠ g' := fun e => by
      have := hg.uniq (e ▸ ⟨_, hb'⟩ : HasT w g 110)
      revert this; decide
    have fr : Frm (fun x => (Value.slice (some ⟨g', 0, none⟩) (going ods k).length cap).ownBlock = some x) w w1 := (kb.mono fun _ _ e => e.elim).trans (r3.mono fun x _ e => by rw [e]; rfl)
    have hng' : (Value.slice (some ⟨g', 0, none⟩) (going ods k).length cap).ownBlock ≠ some g := fun e => hng (by injection e with e; exact e.symm)
    exact ⟨r1, ⟨_, fr.cell (p := ⟨g, k * 5 + 2, none⟩) c2 hng'⟩, fr.frozen (p := ⟨g, k * 5 + 2, none⟩) hlg f2 hng', rfl, w1, _, r2, rfl, fr, rfl⟩
  have HD := hide DE
  clear DE DI ng h hs hj hon hat htk hcsz hblk hb' hso hg kb
  go_enter Tryz.func86, Tryz.ntmps86
  go_wp2_with fail
  refine (HD.out).mono ?_
  intro e w1 he
  obtain ⟨rfl, ⟨u, q1⟩, q2, q3⟩ := FI.out e w1 he
  have FF := hide q3
  clear q3 he
  go_wp2_with fail
  go_end0
  exact FF.out

/-- an order has begun, or is over -/
theorem OAt.turn {S : Nat → Prop} {w w' : World} {b : Nat} {vc : Value} {sos : List Value} {vo : Value} {xt xt' : List Ent} {nv nv' : Int} {ods : List OrdD} (h : OAt w b vc sos vo xt nv ods) {j k : Nat} {o o' : OrdD} {s v' : Value} (hj : ods[j]? = some o) (hk : o.ch = k) (hs : sos[k]? = some s)
    (e1 : o'.blk = o.blk) (e2 : o'.rest = o.rest) (e3 : o'.start = o.start) (e4 : o'.stop = o.stop) (e5 : o'.ch = o.ch) (hb : o'.beg = o.beg ∨ o'.beg = none) (hf : o'.fin = o.fin ∨ o'.fin = none) (hbf : o'.beg ≠ none → o'.fin ≠ none)
    (f : Frm S w w') (hS : ∀ x T, HasT w x T → OTy T → S x → s.ownBlock = some x) (hr : w'.ownsRow 0 110 1 v' (going (ods.set j o') k).length ((going (ods.set j o') k).flatMap fun o => [pt o.blk])) (hn : v'.ownBlock = s.ownBlock ∨ ∃ q, v'.ownBlock = some q ∧ w.heap.size ≤ q)
    (hxt : xt'.Perm (begsOf (ods.set j o') ++ finsOf (ods.set j o'))) (hcnt : nv' = ((finsOf (ods.set j o')).length : Int)) : OAt w' b vc (sos.set k v') vo xt' nv' (ods.set j o') := by
  have hl : j < ods.length := (List.getElem?_eq_some_iff.1 hj).1
  have hkl : k < sos.length := (List.getElem?_eq_some_iff.1 hs).1
  have hso := h.so k s hs
  have bl : ∀ {x : Nat} {c : Array Value} {T : TypeId}, Blk w x c T → OTy T → s.ownBlock ≠ some x → Blk w' x c T := fun hx ht hne => hx.frm f fun e => hne (hS _ _ ⟨_, hx⟩ ht e)
  have bl' : ∀ {x : Nat} {c : Array Value} {T : TypeId}, Blk w x c T → OTy T → T ≠ 110 → Blk w' x c T := fun hx ht hne => bl hx ht fun e => hne (HasT.uniq ⟨_, hx⟩ (row_ty hso e))
  have rl : ∀ {v : Value} {n : Nat} {xs : List Value}, w.ownsRow 0 110 1 v n xs → Dis v s → w'.ownsRow 0 110 1 v n xs := fun hq hd => row_frm hq f fun g hg e => hd g hg (hS _ _ (row_ty hq hg) (Or.inr (Or.inl rfl)) e)
  have key : ∀ (i : Nat) (p : OrdD), (ods.set j o')[i]? = some p → ∃ p0, ods[i]? = some p0 ∧ p.blk = p0.blk ∧ p.rest = p0.rest ∧ p.start = p0.start ∧ p.stop = p0.stop ∧ p.ch = p0.ch ∧ (p.beg = p0.beg ∨ p.beg = none) ∧ (p.fin = p0.fin ∨ p.fin = none) ∧ (p.beg ≠ none → p.fin ≠ none) := by
    intro i p hp
    by_cases q : j = i
    · subst q; rw [List.getElem?_set_self hl] at hp; simp at hp; subst hp; exact ⟨o, hj, e1, e2, e3, e4, e5, hb, hf, hbf⟩
    · rw [List.getElem?_set_ne q] at hp; exact ⟨p, hp, rfl, rfl, rfl, rfl, rfl, Or.inl rfl, Or.inl rfl, h.bf i p hp⟩
  have skey : ∀ (l : Nat) (t : Value), (sos.set k v')[l]? = some t → (l = k ∧ t = v') ∨ (l ≠ k ∧ sos[l]? = some t) := by
    intro l t ht
    by_cases q : k = l
    · subst q; rw [List.getElem?_set_self hkl] at ht; simp at ht; exact Or.inl ⟨rfl, ht.symm⟩
    · rw [List.getElem?_set_ne q] at ht; exact Or.inr ⟨fun e => q e.symm, ht⟩
  have vnew : ∀ x, v'.ownBlock = some x → s.ownBlock = some x ∨ w.heap.size ≤ x := by
    intro x hx
    rcases hn with e | ⟨q, e, hq⟩
    · exact Or.inl (by rw [← e]; exact hx)
    · rw [e] at hx; injection hx with hx; exact Or.inr (by omega)
  refine ⟨?_, ?_, ?_, ?_, ?_, ?_, hxt, ?_, ?_, ?_, ?_, ?_, ?_, ?_, hcnt⟩
  · intro i p hp
    obtain ⟨p0, a1, a2, a3, a4, a5, -⟩ := key i p hp
    rw [a2, a3, a5]
    exact bl' (h.ords i p0 a1) (Or.inl rfl) (by decide)
  · intro i i' p p' hp hp' e
    obtain ⟨p0, a1, a2, -⟩ := key i p hp
    obtain ⟨p0', b1, b2, -⟩ := key i' p' hp'
    exact h.dup i i' p0 p0' a1 b1 (by rw [← a2, ← b2]; exact e)
  · have e6 : (ods.set j o').flatMap (fun o => [pt o.blk]) = ods.flatMap fun o => [pt o.blk] := by
      simp only [← List.map_eq_flatMap]
      rw [List.map_set]
      apply List.ext_getElem?
      intro i
      rw [List.getElem?_set]
      split
      · rename_i q; subst q
        have := (List.getElem?_eq_some_iff.1 hj).2
        simp [hl, this, e1]
      · rfl
    rw [e6, List.length_set]
    exact rl h.vor (Dis.symm (h.sv k s hs))
  · intro l t ht
    rcases skey l t ht with ⟨rfl, rfl⟩ | ⟨hne, ht'⟩
    · exact hr
    · have ho : o'.on l = o.on l := by
        have q1 : (o'.ch == l) = false := by rw [e5, hk]; exact beq_eq_false_iff_ne.2 fun e => hne e.symm
        have q2 : (o.ch == l) = false := by rw [hk]; exact beq_eq_false_iff_ne.2 fun e => hne e.symm
        simp [OrdD.on, q1, q2]
      rw [going_set ods j l o o' hj e1 ho, going_len_set ods j l o o' hj e1 ho]
      exact rl (h.so l t ht') (h.ss l k t s ht' hs hne)
  · intro i p e cc oc hp he
    obtain ⟨p0, a1, a2, a3, a4, a5, a6, a7, -⟩ := key i p hp
    rcases a7 with a7 | a7
    · obtain ⟨q1, q2, ⟨g, n, cap, q3, q3'⟩, q4⟩ := h.begs i p0 e cc oc a1 (by rw [← a7]; exact he)
      exact ⟨by rw [a4]; exact q1, q2, ⟨g, n, cap, q3, by rw [a6]; exact bl' q3' (Or.inr (Or.inr (Or.inl rfl))) (by decide)⟩, by rw [a2]; exact bl q4 (Or.inr (Or.inl rfl)) ((h.bo i p0 e cc oc a1 (by rw [← a7]; exact he)).1 k s hs)⟩
    · rw [a7] at he; cases he
  · intro i p e cc oc pc hp he
    obtain ⟨p0, a1, a2, a3, a4, a5, a6, -, a8, -⟩ := key i p hp
    rcases a8 with a8 | a8
    · obtain ⟨q1, q2, ⟨g, n, cap, q3, q3'⟩, q4, q5⟩ := h.fins i p0 e cc oc pc a1 (by rw [← a8]; exact he)
      exact ⟨by rw [a5]; exact q1, q2, ⟨g, n, cap, q3, by rw [a6]; exact bl' q3' (Or.inr (Or.inr (Or.inl rfl))) (by decide)⟩, by rw [a2]; exact bl q4 (Or.inr (Or.inl rfl)) ((h.fo i p0 e cc oc pc a1 (by rw [← a8]; exact he)).1 k s hs), bl' q5 (Or.inr (Or.inr (Or.inr rfl))) (by decide)⟩
    · rw [a8] at he; cases he
  · intro l l' t t' ht ht' hne
    rcases skey l t ht with ⟨rfl, rfl⟩ | ⟨h1, h2⟩
    · rcases skey l' t' ht' with ⟨rfl, -⟩ | ⟨h3, h4⟩
      · exact absurd rfl hne
      · intro x hx e
        rcases vnew x hx with q | q
        · exact h.ss l l' s t' hs h4 hne x q e
        · have := ((h.so l' t' h4).lt x e).2; omega
    · rcases skey l' t' ht' with ⟨rfl, rfl⟩ | ⟨h3, h4⟩
      · intro x hx e
        rcases vnew x e with q | q
        · exact h.ss l l' t s h2 hs hne x hx q
        · have := ((h.so l t h2).lt x hx).2; omega
      · exact h.ss l l' t t' h2 h4 hne
  · intro l t ht x hx e
    rcases skey l t ht with ⟨rfl, rfl⟩ | ⟨h1, h2⟩
    · rcases vnew x hx with q | q
      · exact h.sv l s hs x q e
      · have := (h.vor.lt x e).2; omega
    · exact h.sv l t h2 x hx e
  · intro i p e cc oc hp he
    obtain ⟨p0, a1, -, -, -, -, -, a7, -⟩ := key i p hp
    rcases a7 with a7 | a7
    · obtain ⟨q1, q2⟩ := h.bo i p0 e cc oc a1 (by rw [← a7]; exact he)
      have hlt := (h.begs i p0 e cc oc a1 (by rw [← a7]; exact he)).2.2.2.lt
      refine ⟨fun l t ht e' => ?_, q2⟩
      rcases skey l t ht with ⟨rfl, rfl⟩ | ⟨h1, h2⟩
      · rcases vnew oc e' with q | q
        · exact q1 l s hs q
        · omega
      · exact q1 l t h2 e'
    · rw [a7] at he; cases he
  · intro i p e cc oc pc hp he
    obtain ⟨p0, a1, -, -, -, -, -, -, a8, -⟩ := key i p hp
    rcases a8 with a8 | a8
    · obtain ⟨q1, q2⟩ := h.fo i p0 e cc oc pc a1 (by rw [← a8]; exact he)
      have hlt := (h.fins i p0 e cc oc pc a1 (by rw [← a8]; exact he)).2.2.2.1.lt
      refine ⟨fun l t ht e' => ?_, q2⟩
      rcases skey l t ht with ⟨rfl, rfl⟩ | ⟨h1, h2⟩
      · rcases vnew oc e' with q | q
        · exact q1 l s hs q
        · omega
      · exact q1 l t h2 e'
    · rw [a8] at he; cases he
  · intro i p hp
    obtain ⟨p0, a1, -, -, -, -, a6, -⟩ := key i p hp
    rw [a6, List.length_set]; exact h.chn i p0 a1
  · intro i p hp
    obtain ⟨p0, a1, -, -, -, -, -, -, -, a9⟩ := key i p hp
    exact a9
  · intro i p hp
    obtain ⟨p0, a1, -, -, a4, a5, -⟩ := key i p hp
    rw [a4, a5]; exact h.lt i p0 a1

end Go.Proofs.YtahiolfelcmikaaGreat

/- The whole pump in memory; an order begins, is over, a rate ends: what the closures leave. -/
namespace Go.Proofs.YtahiolfelcmikaaGreat
open Go.RowKit

def sosOf (chs : List GCh) : List Value := chs.map (·.so)

structure PAt (w : World) (b : Nat) (D : GSt) (vc vw : Value) (ods : List OrdD) : Prop where
  g : GAt w b D vc vw
  o : OAt w b vc (sosOf D.chs) D.vo D.xt D.nv ods

def PF (b : Nat) (D : GSt) (vc vw : Value) (ods : List OrdD) : Nat → Prop := fun x => GF b D vc vw x ∨ OF (sosOf D.chs) D.vo ods x

theorem GAt.tyF {w : World} {b : Nat} {D : GSt} {vc vw : Value} (h : GAt w b D vc vw) {x : Nat} (hx : GF b D vc vw x) : ∃ T, HasT w x T ∧ (GTy T ∨ T = 113) := by
  rcases hx with e | e | e | ⟨k, c, e, h1, h2⟩
  · obtain ⟨T, q1, q2⟩ := h.ty (Or.inl e); exact ⟨T, q1, Or.inl q2⟩
  · obtain ⟨T, q1, q2⟩ := h.ty (Or.inr (Or.inl e)); exact ⟨T, q1, Or.inl q2⟩
  · obtain ⟨T, q1, q2⟩ := h.ty (Or.inr (Or.inr e)); exact ⟨T, q1, Or.inl q2⟩
  · obtain ⟨-, g, n, cap, -, hb⟩ := h.ends k c e x h1 h2
    exact ⟨_, ⟨_, hb⟩, Or.inr rfl⟩

/-- what touches blocks of the orders' lists and of orders alone keeps the rest -/
theorem GAt.frmO {S : Nat → Prop} {w w' : World} {b : Nat} {D : GSt} {vc vw : Value} (h : GAt w b D vc vw) (f : Frm S w w') (hs : ∀ x, S x → HasT w x 110 ∨ HasT w x 109) : GAt w' b D vc vw :=
  h.frm f fun x hx e => by
    obtain ⟨T, q1, q2⟩ := h.tyF hx
    rcases hs x e with q | q
    · have := q1.uniq q
      subst this
      rcases q2 with q2 | q2
      · exact q2.no.2.1 rfl
      · revert q2; decide
    · have := q1.uniq q
      subst this
      rcases q2 with q2 | q2
      · exact q2.no.1 rfl
      · revert q2; decide

theorem PAt.lt {w : World} {b : Nat} {D : GSt} {vc vw : Value} {ods : List OrdD} (h : PAt w b D vc vw ods) : ∀ x, PF b D vc vw ods x → x < w.heap.size := by
  rintro x (e | e)
  · exact h.g.lt x e
  · obtain ⟨T, q, -⟩ := h.o.hasT e; exact q.lt

theorem OAt.frmF {S : Nat → Prop} {w w' : World} {b : Nat} {vc : Value} {sos : List Value} {vo : Value} {xt : List Ent} {nv : Int} {ods : List OrdD} (h : OAt w b vc sos vo xt nv ods) (f : Frm S w w') (hs : ∀ x, OF sos vo ods x → ¬ S x) : OAt w' b vc sos vo xt nv ods := by
  refine ⟨fun j o hj => (h.ords j o hj).frm f (hs _ (Or.inl ⟨j, o, hj, Or.inl rfl⟩)), h.dup, row_frm h.vor f fun g hg => hs g (Or.inr (Or.inl hg)), fun k s hk => row_frm (h.so k s hk) f fun g hg => hs g (Or.inr (Or.inr ⟨k, s, hk, hg⟩)), ?_, ?_, h.xtp, h.ss, h.sv, h.bo, h.fo, h.chn, h.bf, h.lt, h.cnt⟩
  · intro j o e cc oc hj he
    obtain ⟨q1, q2, ⟨g, n, cap, q3, q3'⟩, q4⟩ := h.begs j o e cc oc hj he
    exact ⟨q1, q2, ⟨g, n, cap, q3, q3'.frm f (hs _ (Or.inl ⟨j, o, hj, Or.inr (Or.inl ⟨e, cc, oc, he, Or.inl rfl⟩)⟩))⟩, q4.frm f (hs _ (Or.inl ⟨j, o, hj, Or.inr (Or.inl ⟨e, cc, oc, he, Or.inr rfl⟩)⟩))⟩
  · intro j o e cc oc pc hj he
    obtain ⟨q1, q2, ⟨g, n, cap, q3, q3'⟩, q4, q5⟩ := h.fins j o e cc oc pc hj he
    exact ⟨q1, q2, ⟨g, n, cap, q3, q3'.frm f (hs _ (Or.inl ⟨j, o, hj, Or.inr (Or.inr ⟨e, cc, oc, pc, he, Or.inl rfl⟩)⟩))⟩, q4.frm f (hs _ (Or.inl ⟨j, o, hj, Or.inr (Or.inr ⟨e, cc, oc, pc, he, Or.inr (Or.inl rfl)⟩)⟩)), q5.frm f (hs _ (Or.inl ⟨j, o, hj, Or.inr (Or.inr ⟨e, cc, oc, pc, he, Or.inr (Or.inr rfl)⟩)⟩))⟩

theorem PAt.frm {S : Nat → Prop} {w w' : World} {b : Nat} {D : GSt} {vc vw : Value} {ods : List OrdD} (h : PAt w b D vc vw ods) (f : Frm S w w') (hs : ∀ x, PF b D vc vw ods x → ¬ S x) : PAt w' b D vc vw ods :=
  ⟨h.g.frm f fun x hx => hs x (Or.inl hx), h.o.frmF f fun x hx => hs x (Or.inr hx)⟩
theorem PAt.keep {w w' : World} {b : Nat} {D : GSt} {vc vw : Value} {ods : List OrdD} (h : PAt w b D vc vw ods) (k : Keep w w') : PAt w' b D vc vw ods := h.frm k fun _ _ e => e

/-- a channel's cells -/
theorem GAt.chan {w : World} {b : Nat} {D : GSt} {vc vw : Value} (h : GAt w b D vc vw) {k : Nat} {c : GCh} (hk : D.chs[k]? = some c) :
    ∃ g cap, vc = .slice (some ⟨g, 0, none⟩) D.chs.length cap ∧ w.cell? ⟨g, k * 5, none⟩ = some (I c.rate) ∧ w.cell? ⟨g, k * 5 + 1, none⟩ = some (endV c.ent) ∧ w.cell? ⟨g, k * 5 + 2, none⟩ = some c.so ∧ w.cell? ⟨g, k * 5 + 3, none⟩ = some (.bool c.rests) ∧ w.cell? ⟨g, k * 5 + 4, none⟩ = some (I c.free) ∧
      (∀ i, w.frozen? ⟨g, i, none⟩ = false) ∧ HasT w g 116 := by
  obtain ⟨g, cap, hv, -, hcell, hfz⟩ := row_at h.chs (fun _ => rfl) hk (by decide)
  refine ⟨g, cap, hv, hcell 0 (by decide), hcell 1 (by decide), hcell 2 (by decide), hcell 3 (by decide), hcell 4 (by decide), hfz, row_ty h.chs (by rw [hv]; rfl)⟩

theorem sosOf_set (chs : List GCh) (k : Nat) (c : GCh) (v : Value) (_hk : chs[k]? = some c) : sosOf (chs.set k { c with so := v }) = (sosOf chs).set k v := by
  simp [sosOf, List.map_set]

theorem sosOf_same (chs : List GCh) (k : Nat) (c c' : GCh) (hk : chs[k]? = some c) (h : c'.so = c.so) : sosOf (chs.set k c') = sosOf chs := by
  simp only [sosOf, List.map_set, h]
  apply List.ext_getElem?
  intro i
  rw [List.getElem?_set]
  split
  · rename_i q; subst q
    have hl := (List.getElem?_eq_some_iff.1 hk).1
    have hv := (List.getElem?_eq_some_iff.1 hk).2
    simp [hl, hv]
  · rfl

theorem sosOf_get {chs : List GCh} {k : Nat} {c : GCh} (hk : chs[k]? = some c) : (sosOf chs)[k]? = some c.so := by simp [sosOf, hk]

/-- the list of a channel is another one: an order has turned -/
theorem PAt.turned {w w1 w' : World} {b : Nat} {D : GSt} {vc vw : Value} {ods : List OrdD} {xt0 : List Ent} {nv0 : Int} (hg : GAt w b D vc vw) (ho0 : OAt w b vc (sosOf D.chs) D.vo xt0 nv0 ods) {j k g cap : Nat} {o o' : OrdD} {c : GCh} {v' : Value} (hj : ods[j]? = some o) (hk : o.ch = k) (hc : D.chs[k]? = some c) (hv : vc = .slice (some ⟨g, 0, none⟩) D.chs.length cap)
    (e1 : o'.blk = o.blk) (e2 : o'.rest = o.rest) (e3 : o'.start = o.start) (e4 : o'.stop = o.stop) (e5 : o'.ch = o.ch) (hb : o'.beg = o.beg ∨ o'.beg = none) (hf : o'.fin = o.fin ∨ o'.fin = none) (hbf : o'.beg ≠ none → o'.fin ≠ none)
    (f : Frm (fun x => c.so.ownBlock = some x) w w1) (hr : w1.ownsRow 0 110 1 v' (going (ods.set j o') k).length ((going (ods.set j o') k).flatMap fun o => [pt o.blk])) (hn : v'.ownBlock = c.so.ownBlock ∨ ∃ q, v'.ownBlock = some q ∧ w.heap.size ≤ q) (hw : w' = w1.setCell ⟨g, k * 5 + 2, none⟩ v')
    {xt' : List Ent} {nv' : Int} (hxt : xt'.Perm (begsOf (ods.set j o') ++ finsOf (ods.set j o'))) (hcnt : nv' = ((finsOf (ods.set j o')).length : Int)) :
    GAt w' b { D with chs := D.chs.set k { c with so := v' } } vc vw ∧ OAt w' b vc (sosOf (D.chs.set k { c with so := v' })) D.vo xt' nv' (ods.set j o') ∧ Frm (fun x => c.so.ownBlock = some x ∨ CsF vc x) w w' := by
  have hs := sosOf_get hc
  have hso := ho0.so k c.so hs
  have g1 : GAt w1 b D vc vw := hg.frmO f fun x e => Or.inl (row_ty hso e)
  obtain ⟨q1, q2⟩ := g1.setCh hc hv (i := 2) (by decide) (c' := { c with so := v' }) rfl (u := v') rfl
  have hgt : HasT w g 116 := row_ty hg.chs (by rw [hv]; rfl)
  have f' : Frm (fun x => c.so.ownBlock = some x ∨ CsF vc x) w w' := by
    rw [hw]; exact (f.mono fun x _ e => Or.inl e).trans (q2.mono fun x _ e => Or.inr e)
  have hne : v'.ownBlock ≠ some g := by
    intro e
    rcases hn with e' | ⟨q, e', hq⟩
    · rw [e'] at e
      have := (row_ty hso e).uniq hgt
      revert this; decide
    · rw [e'] at e; injection e with e
      have := hgt.lt; omega
  refine ⟨by rw [hw]; exact q1, ?_, f'⟩
  rw [sosOf_set _ _ _ _ hc]
  refine ho0.turn hj hk hs e1 e2 e3 e4 e5 hb hf hbf f' ?_ ?_ hn hxt hcnt
  · intro x T hT ho hx
    rcases hx with e | e
    · exact e
    · have hgx : x = g := by
        have e' : vc.ownBlock = some x := e
        have : vc.ownBlock = some g := by rw [hv]; rfl
        rw [this] at e'; injection e' with e'; exact e'.symm
      subst hgx
      have := hT.uniq hgt
      subst this
      exfalso
      rcases ho with q | q | q | q <;> (revert q; decide)
  · rw [hw]
    exact row_frm hr q2 fun x hx e => by
      have e' : vc.ownBlock = some x := e
      have : vc.ownBlock = some g := by rw [hv]; rfl
      rw [this] at e'; injection e' with e'
      exact hne (by rw [e']; exact hx)

set_option maxRecDepth 100000 in
set_option maxHeartbeats 800000 in
theorem takeBegin_call (cc oc g o x : Nat) (w : World) (Q : Ending → World → Prop) (c1 : w.cell? ⟨cc, 0, none⟩ = some (ptr g o)) (c2 : w.cell? ⟨oc, 0, none⟩ = some (pt x)) (hc : Calls Tryz.prog 84 #[ptr g o, pt x] w fun e w' => e = .returned (.tuple #[]) ∧ Q e w') :
    Calls Tryz.prog 83 #[ptr cc 0, ptr oc 0] w fun e w' => e = .returned (.tuple #[]) ∧ Q e w' := by
  have C := hide hc
  clear hc
  go_enter Tryz.func83, Tryz.ntmps83
  go_wp2_with fail
  refine (C.out).mono ?_
  rintro e w1 ⟨rfl, hq⟩
  have F := hide hq
  clear hq
  go_wp2_with fail
  go_end0
  exact ⟨rfl, F.out⟩

set_option maxRecDepth 100000 in
set_option maxHeartbeats 800000 in
theorem takeEnd_call (cc oc pc g o x b : Nat) (w : World) (Q : World → Prop) (c1 : w.cell? ⟨cc, 0, none⟩ = some (ptr g o)) (c2 : w.cell? ⟨oc, 0, none⟩ = some (pt x))
    (hc : Calls Tryz.prog 86 #[ptr g o, pt x] w fun e w' => e = .returned (.tuple #[]) ∧ w'.cell? ⟨pc, 0, none⟩ = some (ptr b 0) ∧ ∃ nv : Int, 0 ≤ nv ∧ nv ≤ 10000 ∧ w'.cell? ⟨b, 7, none⟩ = some (I nv) ∧ w'.frozen? ⟨b, 7, none⟩ = false ∧ Q (w'.setCell ⟨b, 7, none⟩ (I (nv - 1)))) :
    Calls Tryz.prog 85 #[ptr cc 0, ptr oc 0, ptr pc 0] w fun e w' => e = .returned (.tuple #[]) ∧ Q w' := by
  have C := hide hc
  clear hc
  go_enter Tryz.func85, Tryz.ntmps85
  go_wp2_with fail
  refine (C.out).mono ?_
  rintro e w1 ⟨rfl, z1, nv, z2, z3, z4, z5, hq⟩
  have F := hide hq
  clear hq
  go_wp2_with fail
  go_end0
  exact ⟨rfl, F.out⟩

end Go.Proofs.YtahiolfelcmikaaGreat

/- What is due, with orders. -/
namespace Go.Proofs.YtahiolfelcmikaaGreat
open Go.RowKit

theorem fm_out {β : Type} (g : OrdD → Option β) : ∀ (l : List OrdD) (j : Nat) (o o' : OrdD) (e : β), l[j]? = some o → g o = some e → g o' = none → (l.filterMap g).Perm (e :: (l.set j o').filterMap g) := by
  intro l
  induction l with
  | nil => intro j o o' e h; simp at h
  | cons a l ih =>
    intro j o o' e h h1 h2
    cases j with
    | zero => simp at h; subst h; simp [h1, h2]
    | succ j =>
      simp at h
      have := ih j o o' e h h1 h2
      simp only [List.set_cons_succ, List.filterMap_cons]
      cases g a with
      | none => exact this
      | some y => exact (this.cons y).trans (List.Perm.swap e y _)
theorem fm_same {β : Type} (g : OrdD → Option β) : ∀ (l : List OrdD) (j : Nat) (o o' : OrdD), l[j]? = some o → g o' = g o → (l.set j o').filterMap g = l.filterMap g := by
  intro l
  induction l with
  | nil => intro j o o' h; simp at h
  | cons a l ih =>
    intro j o o' h h1
    cases j with
    | zero => simp at h; subst h; simp [List.filterMap_cons, h1]
    | succ j => simp at h; simp only [List.set_cons_succ, List.filterMap_cons, ih j o o' h h1]
theorem fm_mem {g : OrdD → Option Ent} {l : List OrdD} {x : Ent} (h : x ∈ l.filterMap g) : ∃ (j : Nat) (o : OrdD), l[j]? = some o ∧ g o = some x := by
  obtain ⟨o, ho, he⟩ := List.mem_filterMap.1 h
  obtain ⟨j, hj⟩ := List.getElem?_of_mem ho
  exact ⟨j, o, hj, he⟩

theorem set_parts (ods : List OrdD) (j k : Nat) (o o' : OrdD) (hj : ods[j]? = some o) : going (ods.set j o') k = going (ods.take j) k ++ (going [o'] k ++ going (ods.drop (j + 1)) k) := by
  have hl : j < ods.length := (List.getElem?_eq_some_iff.1 hj).1
  have := going_split (ods.set j o') k j o' (List.getElem?_set_self hl)
  rw [List.take_set_of_le (by omega), List.drop_set_of_lt (by omega)] at this
  exact this

theorem begun_list (ods : List OrdD) (j k : Nat) (o o' : OrdD) (hj : ods[j]? = some o) (h0 : o.on k = false) (h1 : o'.on k = true) (hb : o'.blk = o.blk) :
    (going (ods.set j o') k).flatMap (fun o => [pt o.blk]) = ins ((going ods k).flatMap fun o => [pt o.blk]) (place ods k j) (pt o.blk) ∧ (going (ods.set j o') k).length = (going ods k).length + 1 := by
  have e1 := set_parts ods j k o o' hj
  have e2 := going_split ods k j o hj
  have g1 : going [o'] k = [o'] := by simp [going, h1]
  have g0 : going [o] k = [] := by simp [going, h0]
  rw [g1] at e1
  rw [g0] at e2
  have hl : ((going (ods.take j) k).flatMap fun o => [pt o.blk]).length = place ods k j := by rw [fm_len]; rfl
  constructor
  · rw [e1, e2, ins, ← hl]
    simp [hb]
  · rw [e1, e2]; simp; omega

theorem fm_map (l : List OrdD) : l.flatMap (fun o => [pt o.blk]) = (l.map (·.blk)).map pt := by
  induction l with
  | nil => rfl
  | cons a l ih => simp [ih]

theorem ended_list (ods : List OrdD) (j k : Nat) (o o' : OrdD) (hj : ods[j]? = some o) (h0 : o.on k = true) (h1 : o'.on k = false) :
    (((going ods k).map (·.blk)).eraseIdx (place ods k j)).map pt = (going (ods.set j o') k).flatMap (fun o => [pt o.blk]) ∧ (going (ods.set j o') k).length = (going ods k).length - 1 := by
  have e1 := set_parts ods j k o o' hj
  have e2 := going_split ods k j o hj
  have g1 : going [o'] k = [] := by simp [going, h1]
  have g0 : going [o] k = [o] := by simp [going, h0]
  rw [g1] at e1
  rw [g0] at e2
  constructor
  · rw [e1, e2]
    have hl : ((going (ods.take j) k).map (·.blk)).length = place ods k j := by simp [place]
    simp only [List.map_append, List.map_cons, List.map_nil, List.nil_append, List.flatMap_append]
    rw [List.eraseIdx_append_of_length_le (by omega), ← hl, fm_map, fm_map]
    simp
  · rw [e1, e2]; simp

def OSame (t : Int) (ods0 ods : List OrdD) : Prop := ods.length = ods0.length ∧ ∀ (j : Nat) (o : OrdD), ods[j]? = some o → ∃ o0, ods0[j]? = some o0 ∧ o.blk = o0.blk ∧ o.rest = o0.rest ∧ o.start = o0.start ∧ o.stop = o0.stop ∧ o.ch = o0.ch ∧ (o.beg = o0.beg ∨ (o.beg = none ∧ o.start ≤ t)) ∧ (o.fin = o0.fin ∨ (o.fin = none ∧ o.stop ≤ t))
def CSame (t : Int) (chs0 chs : List GCh) : Prop := chs.length = chs0.length ∧ ∀ (k : Nat) (d : GCh), chs[k]? = some d → ∃ d0, chs0[k]? = some d0 ∧ d.rests = d0.rests ∧ d.free = d0.free ∧ ((d.rate = d0.rate ∧ d.ent = d0.ent) ∨ (d.rate = 0 ∧ d.ent = none ∧ ∃ e cb, d0.ent = some (e, cb) ∧ e.tick ≤ t))

theorem OSame.refl (t : Int) (ods : List OrdD) : OSame t ods ods := ⟨rfl, fun _ o h => ⟨o, h, rfl, rfl, rfl, rfl, rfl, Or.inl rfl, Or.inl rfl⟩⟩
theorem CSame.refl (t : Int) (chs : List GCh) : CSame t chs chs := ⟨rfl, fun _ d h => ⟨d, h, rfl, rfl, Or.inl ⟨rfl, rfl⟩⟩⟩

theorem OSame.set {t : Int} {ods0 ods : List OrdD} (h : OSame t ods0 ods) {j : Nat} {o o' : OrdD} (hj : ods[j]? = some o) (e1 : o'.blk = o.blk) (e2 : o'.rest = o.rest) (e3 : o'.start = o.start) (e4 : o'.stop = o.stop) (e5 : o'.ch = o.ch)
    (hb : o'.beg = o.beg ∨ (o'.beg = none ∧ o'.start ≤ t)) (hf : o'.fin = o.fin ∨ (o'.fin = none ∧ o'.stop ≤ t)) : OSame t ods0 (ods.set j o') := by
  have hl : j < ods.length := (List.getElem?_eq_some_iff.1 hj).1
  refine ⟨by rw [List.length_set]; exact h.1, fun i p hp => ?_⟩
  by_cases q : j = i
  · subst q; rw [List.getElem?_set_self hl] at hp; simp at hp; subst hp
    obtain ⟨o0, a1, a2, a3, a4, a5, a6, a7, a8⟩ := h.2 j o hj
    refine ⟨o0, a1, by rw [e1, a2], by rw [e2, a3], by rw [e3, a4], by rw [e4, a5], by rw [e5, a6], ?_, ?_⟩
    · rcases hb with hb | hb
      · rw [hb, e3]; exact a7
      · exact Or.inr hb
    · rcases hf with hf | hf
      · rw [hf, e4]; exact a8
      · exact Or.inr hf
  · rw [List.getElem?_set_ne q] at hp; exact h.2 i p hp

theorem CSame.set {t : Int} {chs0 chs : List GCh} (h : CSame t chs0 chs) {k : Nat} {c c' : GCh} (hk : chs[k]? = some c) (e1 : c'.rests = c.rests) (e2 : c'.free = c.free) (hc : (c'.rate = c.rate ∧ c'.ent = c.ent) ∨ (c'.rate = 0 ∧ c'.ent = none ∧ ∃ e cb, c.ent = some (e, cb) ∧ e.tick ≤ t)) : CSame t chs0 (chs.set k c') := by
  have hl : k < chs.length := (List.getElem?_eq_some_iff.1 hk).1
  refine ⟨by rw [List.length_set]; exact h.1, fun i p hp => ?_⟩
  by_cases q : k = i
  · subst q; rw [List.getElem?_set_self hl] at hp; simp at hp; subst hp
    obtain ⟨d0, a1, a2, a3, a4⟩ := h.2 k c hk
    refine ⟨d0, a1, by rw [e1, a2], by rw [e2, a3], ?_⟩
    rcases hc with ⟨q1, q2⟩ | ⟨q1, q2, e, cb, q3, q4⟩
    · rw [q1, q2]; exact a4
    · rcases a4 with ⟨r1, r2⟩ | ⟨r1, r2, -⟩
      · exact Or.inr ⟨q1, q2, e, cb, by rw [← r2]; exact q3, q4⟩
      · rw [r2] at q3; cases q3
  · rw [List.getElem?_set_ne q] at hp; exact h.2 i p hp

/-- on the way through what is due -/
structure PSt (w0 : World) (b : Nat) (D0 : GSt) (ods0 : List OrdD) (vc vw : Value) (t : Int) (W : World) (D : GSt) (ods : List OrdD) : Prop where
  lie : PAt W b D vc vw ods
  now : D.now = D0.now
  lock : D.lock = D0.lock
  ws : D.ws = D0.ws
  num : D.num = D0.num
  vo : D.vo = D0.vo
  eb : D.eb = D0.eb
  chs : CSame t D0.chs D.chs
  osm : OSame t ods0 ods
  foot : ∀ x, PF b D vc vw ods x → PF b D0 vc vw ods0 x ∨ w0.heap.size ≤ x
  frm : Frm (PF b D0 vc vw ods0) w0 W

def PInv (w0 : World) (b : Nat) (D0 : GSt) (ods0 : List OrdD) (vc vw : Value) (t : Int) (W : World) (n : Nat) : Prop := ∃ D ods, PSt w0 b D0 ods0 vc vw t W D ods ∧ D.es.length = n

theorem call_takeBegin (args : Array Value) (w : World) : (callFunc 83 args).run Tryz.prog w = .ok (.enter 83 args) w := by kernel_rfl
theorem call_takeEnd (args : Array Value) (w : World) : (callFunc 85 args).run Tryz.prog w = .ok (.enter 85 args) w := by kernel_rfl

/-- the frame, one step on -/
theorem PSt.frame {w0 W W2 : World} {b : Nat} {D0 D : GSt} {ods0 ods : List OrdD} {vc vw : Value} {t : Int} (h : PSt w0 b D0 ods0 vc vw t W D ods) {T : Nat → Prop} (f : Frm T W W2) (hT : ∀ x, T x → PF b D vc vw ods x) : Frm (PF b D0 vc vw ods0) w0 W2 :=
  h.frm.trans2 f fun x hx e => by
    rcases h.foot x (hT x e) with q | q
    · exact q
    · omega

theorem gents_len (chs : List GCh) : (gents chs).length ≤ chs.length := List.length_filterMap_le _ _

/-- a rate ends -/
theorem due_rate {w0 W : World} {b : Nat} {D0 D : GSt} {ods0 ods : List OrdD} {vc vw : Value} {t : Int} (h : PSt w0 b D0 ods0 vc vw t W D ods) {x : Ent} (hx : x ∈ gents D.chs) (ht : x.tick ≤ t) :
    ∃ f caps, x.act = .func (.func f) #[] caps ∧ (∀ args w, (callFunc f args).run Tryz.prog w = .ok (.enter f args) w) ∧
      ∀ sl w1, PopEnd W b 4 (gCells D.now D.lock vc vw sl D.num D.vo D.nv) 94 D.eb D.es x (.returned (.iface 114 (ptr x.blk 0))) w1 → Calls Tryz.prog f caps w1 fun e w2 => e = .returned (.tuple #[]) ∧ ∃ n', n' < D.es.length ∧ PInv w0 b D0 ods0 vc vw t w2 n' := by
  obtain ⟨k, c, cb, hk, hent⟩ := gents_mem hx
  obtain ⟨hact, g, nn, cap, hv, hbcb⟩ := h.lie.g.ends k c x cb hk hent
  have hnn : nn = D.chs.length := by
    obtain ⟨a, cp, e⟩ := row_slice h.lie.g.chs
    rw [hv] at e; injection e
  subst hnn
  refine ⟨61, #[ptr cb 0], hact, call_basalEnd, ?_⟩
  rintro sl w1 ⟨-, sl', es', p, ag', pm, hp', hbx, hlp, fr⟩
  rw [gCells_sl] at ag'
  have hK : GKsF D.chs cb := ⟨k, c, x, hk, hent⟩
  have s := h.lie.g.sep
  have hcb1 : Blk w1 cb #[ptr g (k * 5)] 113 := hbcb.frm fr fun he => s.ak cb he hK
  have hr1 : w1.ownsRow 0 116 5 vc D.chs.length (D.chs.flatMap gchC) := row_frm h.lie.g.chs fr fun y hy he => s.ac y he hy
  obtain ⟨g', cap', v1, -, v2, v3⟩ := row_at hr1 (fun _ => rfl) hk (by decide)
  rw [hv] at v1; injection v1 with v1 v5 v6; injection v1 with v1; injection v1 with v1
  subst v1
  have hcg : cb ≠ g := fun e => s.ck g (by rw [hv]; rfl) (e ▸ hK)
  refine (basalEnd_any cb g (k * 5) _ _ w1 (by rw [hcb1.cell]; rfl) (v2 0 (by decide)) (v2 1 (by decide)) (v3 _) (v3 _) hcg).mono ?_
  rintro e w2 ⟨rfl, m, rfl⟩
  have pm' : es'.Perm (gents (D.chs.set k { c with rate := 0, ent := none }) ++ D.xt) := by
    have q1 : (x :: es').Perm (x :: (gents (D.chs.set k { c with rate := 0, ent := none }) ++ D.xt)) := (pm.symm.trans h.lie.g.perm).trans ((gents_out (cb := cb) { c with rate := 0, ent := none } rfl D.chs k c hk hent).append_right D.xt)
    exact q1.cons_inv
  have sub : ∀ e ∈ es', e ∈ D.es := fun e he => pm.mem_iff.2 (List.mem_cons_of_mem _ he)
  obtain ⟨o1, o2, o3⟩ := h.lie.g.out hk hv 0 ag' hp' sub pm' fr
  have oo := h.lie.o.frmG h.lie.g o2
  have hss : sosOf (D.chs.set k { c with rate := 0, ent := none }) = sosOf D.chs := sosOf_same D.chs k c { c with rate := 0, ent := none } hk rfl
  refine ⟨rfl, es'.length, by have := pm.length_eq; simp at this; omega, { D with chs := D.chs.set k { c with rate := 0, ent := none }, es := es' }, ods, ⟨⟨o1.keep ((Frm.refl _ _).drewN _), ?_⟩, h.now, h.lock, h.ws, h.num, h.vo, h.eb, h.chs.set hk rfl rfl (Or.inr ⟨rfl, rfl, x, cb, hent, ht⟩), h.osm, ?_, (h.frame o2 fun y hy => Or.inl (GW_GF hy)).drewN m⟩, rfl⟩
  · have := oo.keep ((Frm.refl (fun _ => False) ((w1.setCell ⟨g, k * 5, none⟩ (I 0)).setCell ⟨g, k * 5 + 1, none⟩ (.pointer none))).drewN m)
    show OAt _ b vc (sosOf (D.chs.set k { c with rate := 0, ent := none })) D.vo D.xt D.nv ods
    rw [hss]; exact this
  · rintro y (e | e)
    · exact h.foot y (Or.inl (o3 y e))
    · have e' : OF (sosOf (D.chs.set k { c with rate := 0, ent := none })) D.vo ods y := e
      rw [hss] at e'
      exact h.foot y (Or.inr e')

end Go.Proofs.YtahiolfelcmikaaGreat

/- What is due: an order begins, an order is over; all of it. -/
namespace Go.Proofs.YtahiolfelcmikaaGreat
open Go.RowKit

theorem OAt.frmA {w w1 : World} {b : Nat} {D : GSt} {vc vw : Value} {sos : List Value} {vo : Value} {xt : List Ent} {nv : Int} {ods : List OrdD} (h : OAt w b vc sos vo xt nv ods) (g : GAt w b D vc vw) (f : Frm (AgF b D.eb D.es) w w1) : OAt w1 b vc sos vo xt nv ods :=
  h.frmG g (f.mono fun _ _ e => Or.inl e)

theorem chan_of {w : World} {b : Nat} {D : GSt} {vc : Value} {xt : List Ent} {nv : Int} {ods : List OrdD} (h : OAt w b vc (sosOf D.chs) D.vo xt nv ods) {j : Nat} {o : OrdD} (hj : ods[j]? = some o) : ∃ c, D.chs[o.ch]? = some c := by
  have := h.chn j o hj
  simp [sosOf] at this
  exact ⟨_, List.getElem?_eq_getElem this⟩

theorem OF_turn {chs : List GCh} {vo : Value} {ods : List OrdD} {j k : Nat} {o o' : OrdD} {c : GCh} {v' : Value} {N : Nat} (hj : ods[j]? = some o) (hc : chs[k]? = some c) (e1 : o'.blk = o.blk) (hb : o'.beg = o.beg ∨ o'.beg = none) (hf : o'.fin = o.fin ∨ o'.fin = none) (hn : v'.ownBlock = c.so.ownBlock ∨ ∃ q, v'.ownBlock = some q ∧ N ≤ q) {x : Nat}
    (hx : OF (sosOf (chs.set k { c with so := v' })) vo (ods.set j o') x) : OF (sosOf chs) vo ods x ∨ N ≤ x := by
  have hl : j < ods.length := (List.getElem?_eq_some_iff.1 hj).1
  rw [sosOf_set _ _ _ _ hc] at hx
  have hkl : k < (sosOf chs).length := by have := (List.getElem?_eq_some_iff.1 hc).1; simpa [sosOf] using this
  rcases hx with ⟨i, p, hp, hh⟩ | e | ⟨l, s, hs, e⟩
  · by_cases q : j = i
    · subst q; rw [List.getElem?_set_self hl] at hp; simp at hp; subst hp
      rcases hh with hh | ⟨e, cc, oc, he, hh⟩ | ⟨e, cc, oc, pc, he, hh⟩
      · exact Or.inl (Or.inl ⟨j, o, hj, Or.inl (by rw [← e1]; exact hh)⟩)
      · rcases hb with hb | hb
        · exact Or.inl (Or.inl ⟨j, o, hj, Or.inr (Or.inl ⟨e, cc, oc, by rw [← hb]; exact he, hh⟩)⟩)
        · rw [hb] at he; cases he
      · rcases hf with hf | hf
        · exact Or.inl (Or.inl ⟨j, o, hj, Or.inr (Or.inr ⟨e, cc, oc, pc, by rw [← hf]; exact he, hh⟩)⟩)
        · rw [hf] at he; cases he
    · rw [List.getElem?_set_ne q] at hp; exact Or.inl (Or.inl ⟨i, p, hp, hh⟩)
  · exact Or.inl (Or.inr (Or.inl e))
  · by_cases q : k = l
    · subst q; rw [List.getElem?_set_self hkl] at hs; simp at hs; subst hs
      rcases hn with e' | ⟨q, e', hq⟩
      · exact Or.inl (Or.inr (Or.inr ⟨k, c.so, sosOf_get hc, by rw [← e']; exact e⟩))
      · rw [e'] at e; injection e with e; exact Or.inr (by omega)
    · rw [List.getElem?_set_ne q] at hs; exact Or.inl (Or.inr (Or.inr ⟨l, s, hs, e⟩))

theorem due_begin {w0 W : World} {b : Nat} {D0 D : GSt} {ods0 ods : List OrdD} {vc vw : Value} {t : Int} (h : PSt w0 b D0 ods0 vc vw t W D ods) (hlen : ods.length ≤ 3300) {x : Ent} (hx : x ∈ begsOf ods) (ht : x.tick ≤ t) :
    ∃ f caps, x.act = .func (.func f) #[] caps ∧ (∀ args w, (callFunc f args).run Tryz.prog w = .ok (.enter f args) w) ∧
      ∀ sl w1, PopEnd W b 4 (gCells D.now D.lock vc vw sl D.num D.vo D.nv) 94 D.eb D.es x (.returned (.iface 114 (ptr x.blk 0))) w1 → Calls Tryz.prog f caps w1 fun e w2 => e = .returned (.tuple #[]) ∧ ∃ n', n' < D.es.length ∧ PInv w0 b D0 ods0 vc vw t w2 n' := by
  obtain ⟨j, o, hj, hbx⟩ := fm_mem hx
  obtain ⟨⟨x', cc, oc⟩, hbeg, hxx⟩ : ∃ y, o.beg = some y ∧ y.1 = x := by
    cases hh : o.beg with
    | none => rw [hh] at hbx; simp at hbx
    | some y => rw [hh] at hbx; simp at hbx; exact ⟨y, rfl, hbx⟩
  simp at hxx
  subst hxx
  obtain ⟨htk, hact, ⟨g, nn, cap, hv, hbcc⟩, hboc⟩ := h.lie.o.begs j o x' cc oc hj hbeg
  have hnn : nn = D.chs.length := by
    obtain ⟨a, cp, e⟩ := row_slice h.lie.g.chs
    rw [hv] at e; injection e
  subst hnn
  refine ⟨83, #[ptr cc 0, ptr oc 0], hact, call_takeBegin, ?_⟩
  rintro sl w1 ⟨-, sl', es', p, ag', pm, hp', hbx', hlp, fr⟩
  rw [gCells_sl] at ag'
  have sub : ∀ e ∈ es', e ∈ D.es := fun e he => pm.mem_iff.2 (List.mem_cons_of_mem _ he)
  have hfin := h.lie.o.bf j o hj (by rw [hbeg]; simp)
  obtain ⟨c, hc⟩ := chan_of h.lie.o hj
  have o1 : OAt w1 b vc (sosOf D.chs) D.vo D.xt D.nv ods := h.lie.o.frmA h.lie.g fr
  have pb := fm_out (fun o : OrdD => o.beg.map (·.1)) ods j o { o with beg := none } x' hj (by rw [hbeg]; rfl) rfl
  have pf := fm_same (fun o : OrdD => o.fin.map (·.1)) ods j o { o with beg := none } hj rfl
  have pmx : es'.Perm (gents D.chs ++ (begsOf (ods.set j { o with beg := none }) ++ finsOf (ods.set j { o with beg := none }))) := by
    have q0 : (begsOf ods ++ finsOf ods).Perm (x' :: (begsOf (ods.set j { o with beg := none }) ++ finsOf (ods.set j { o with beg := none }))) := by
      unfold begsOf finsOf; rw [pf]; exact pb.append_right _
    have q1 : (x' :: es').Perm (x' :: (gents D.chs ++ (begsOf (ods.set j { o with beg := none }) ++ finsOf (ods.set j { o with beg := none })))) :=
      ((pm.symm.trans h.lie.g.perm).trans ((h.lie.o.xtp.trans q0).append_left (gents D.chs))).trans List.perm_middle
    exact q1.cons_inv
  have g1 := h.lie.g.pop ag' hp' sub pmx fr
  obtain ⟨g', cap', hv', -, -, c2, -, -, hfz, hgt⟩ := g1.chan (k := o.ch) (c := c) hc
  have hv'' := hv'
  rw [hv] at hv''; injection hv'' with v1 v5 v6; injection v1 with v1; injection v1 with v1
  subst v1
  have hon : o.on o.ch = false := by simp [OrdD.on, hbeg]
  have hbcc1 : Blk w1 cc #[ptr g (o.ch * 5)] 113 := by
    have := o1.begs j o x' cc oc hj hbeg
    obtain ⟨-, -, ⟨g2, n2, cap2, hv2, hb2⟩, -⟩ := this
    rw [hv] at hv2; injection hv2 with w1 w5 w6; injection w1 with w1; injection w1 with w1
    rw [w1]; exact hb2
  have hboc1 := (o1.begs j o x' cc oc hj hbeg).2.2.2
  have hbg := begin_any b vc (sosOf D.chs) D.vo D.xt D.nv ods g o.ch j o c.so w1 o1 hlen hj hon (sosOf_get hc) c2 (hfz _) hgt
  refine (takeBegin_call cc oc g (o.ch * 5) o.blk w1 _ (by rw [hbcc1.cell]; rfl) (by rw [hboc1.cell]; rfl) hbg).mono ?_
  rintro e w2 ⟨rfl, w2', v', r1, r2, r3, r4⟩
  have on1 : ({ o with beg := none } : OrdD).on o.ch = true := by
    simp only [OrdD.on, beq_self_eq_true, Bool.true_and, Option.isNone_none]
    cases hh : o.fin with
    | none => exact absurd hh hfin
    | some y => rfl
  obtain ⟨l1, l2⟩ := begun_list ods j o.ch o { o with beg := none } hj hon on1 rfl
  obtain ⟨q1, q2, q3⟩ := PAt.turned (nv' := D.nv) g1 o1 (o' := { o with beg := none }) hj rfl hc hv' rfl rfl rfl rfl rfl (Or.inr rfl) (Or.inl rfl) (fun _ => hfin) r3 (by rw [l1, l2]; exact r1) r2 r4 (List.Perm.refl _) (by have := h.lie.o.cnt; rw [this]; unfold finsOf; rw [pf])
  refine ⟨rfl, es'.length, by have := pm.length_eq; simp at this; omega, _, _, ⟨⟨q1, q2⟩, h.now, h.lock, h.ws, h.num, h.vo, h.eb, h.chs.set hc rfl rfl (Or.inl ⟨rfl, rfl⟩), h.osm.set hj rfl rfl rfl rfl rfl (Or.inr ⟨rfl, by rw [← htk]; exact ht⟩) (Or.inl rfl), ?_, ?_⟩, rfl⟩
  · have hsz : w0.heap.size ≤ w1.heap.size := Nat.le_trans h.frm.size fr.size
    rintro y (e | e)
    · refine h.foot y (Or.inl ?_)
      rcases e with e | e | e | ⟨k', c', e', h1, h2⟩
      · exact Or.inl (AgF_sub2 sub e)
      · exact Or.inr (Or.inl e)
      · exact Or.inr (Or.inr (Or.inl e))
      · refine Or.inr (Or.inr (Or.inr ?_))
        have h1 : (D.chs.set o.ch { c with so := v' })[k']? = some c' := h1
        by_cases q : o.ch = k'
        · have hcl : o.ch < D.chs.length := (List.getElem?_eq_some_iff.1 hc).1
          rw [← q, List.getElem?_set_self hcl] at h1; simp at h1; subst h1
          exact ⟨o.ch, c, e', hc, h2⟩
        · rw [List.getElem?_set_ne q] at h1; exact ⟨k', c', e', h1, h2⟩
    · have e' : OF (sosOf (D.chs.set o.ch { c with so := v' })) D.vo (ods.set j { o with beg := none }) y := e
      rcases OF_turn (N := w1.heap.size) (o' := { o with beg := none }) hj hc rfl (Or.inr rfl) (Or.inl rfl) r2 e' with e | e
      · exact h.foot y (Or.inr e)
      · exact Or.inr (by omega)
  · refine (h.frame fr fun y hy => Or.inl (Or.inl hy)).trans2 q3 fun y hy e => ?_
    have : PF b D vc vw ods y := by
      rcases e with e | e
      · exact Or.inr (Or.inr (Or.inr ⟨o.ch, c.so, sosOf_get hc, e⟩))
      · exact Or.inl (Or.inr (Or.inl e))
    rcases h.foot y this with q | q
    · exact q
    · omega

end Go.Proofs.YtahiolfelcmikaaGreat

/- What is due: an order is over; all of it. -/
namespace Go.Proofs.YtahiolfelcmikaaGreat
open Go.RowKit

theorem fins_len (ods : List OrdD) : (finsOf ods).length ≤ ods.length := List.length_filterMap_le _ _
theorem begs_len (ods : List OrdD) : (begsOf ods).length ≤ ods.length := List.length_filterMap_le _ _

theorem due_end {w0 W : World} {b : Nat} {D0 D : GSt} {ods0 ods : List OrdD} {vc vw : Value} {t : Int} (h : PSt w0 b D0 ods0 vc vw t W D ods) (hlen : ods.length ≤ 3300) {x : Ent} (hx : x ∈ finsOf ods) (ht : x.tick ≤ t) (hmin : ∀ e ∈ D.es, x.tick ≤ e.tick) :
    ∃ f caps, x.act = .func (.func f) #[] caps ∧ (∀ args w, (callFunc f args).run Tryz.prog w = .ok (.enter f args) w) ∧
      ∀ sl w1, PopEnd W b 4 (gCells D.now D.lock vc vw sl D.num D.vo D.nv) 94 D.eb D.es x (.returned (.iface 114 (ptr x.blk 0))) w1 → Calls Tryz.prog f caps w1 fun e w2 => e = .returned (.tuple #[]) ∧ ∃ n', n' < D.es.length ∧ PInv w0 b D0 ods0 vc vw t w2 n' := by
  obtain ⟨j, o, hj, hbx⟩ := fm_mem hx
  obtain ⟨⟨x', cc, oc, pc⟩, hfin, hxx⟩ : ∃ y, o.fin = some y ∧ y.1 = x := by
    cases hh : o.fin with
    | none => rw [hh] at hbx; simp at hbx
    | some y => rw [hh] at hbx; simp at hbx; exact ⟨y, rfl, hbx⟩
  simp at hxx
  subst hxx
  obtain ⟨htk, hact, ⟨g, nn, cap, hv, hbcc⟩, hboc, hbpc⟩ := h.lie.o.fins j o x' cc oc pc hj hfin
  have hnn : nn = D.chs.length := by
    obtain ⟨a, cp, e⟩ := row_slice h.lie.g.chs
    rw [hv] at e; injection e
  subst hnn
  have hbeg : o.beg = none := by
    cases hh : o.beg with
    | none => rfl
    | some y =>
      exfalso
      obtain ⟨e, cc', oc'⟩ := y
      have q1 := (h.lie.o.begs j o e cc' oc' hj hh).1
      have hm : e ∈ begsOf ods := List.mem_filterMap.2 ⟨o, List.mem_of_getElem? hj, by rw [hh]; rfl⟩
      have hm' : e ∈ D.es := h.lie.g.perm.mem_iff.2 (List.mem_append_right _ (h.lie.o.xtp.mem_iff.2 (List.mem_append_left _ hm)))
      have := hmin e hm'
      have := h.lie.o.lt j o hj
      omega
  refine ⟨85, #[ptr cc 0, ptr oc 0, ptr pc 0], hact, call_takeEnd, ?_⟩
  rintro sl w1 ⟨-, sl', es', p, ag', pm, hp', hbx', hlp, fr⟩
  rw [gCells_sl] at ag'
  have sub : ∀ e ∈ es', e ∈ D.es := fun e he => pm.mem_iff.2 (List.mem_cons_of_mem _ he)
  obtain ⟨c, hc⟩ := chan_of h.lie.o hj
  have o1 : OAt w1 b vc (sosOf D.chs) D.vo D.xt D.nv ods := h.lie.o.frmA h.lie.g fr
  have pf := fm_out (fun o : OrdD => o.fin.map (·.1)) ods j o { o with fin := none } x' hj (by rw [hfin]; rfl) rfl
  have pb := fm_same (fun o : OrdD => o.beg.map (·.1)) ods j o { o with fin := none } hj rfl
  have pmx : es'.Perm (gents D.chs ++ (begsOf (ods.set j { o with fin := none }) ++ finsOf (ods.set j { o with fin := none }))) := by
    have q0 : (begsOf ods ++ finsOf ods).Perm (x' :: (begsOf (ods.set j { o with fin := none }) ++ finsOf (ods.set j { o with fin := none }))) := by
      unfold begsOf finsOf; rw [pb]; exact (pf.append_left _).trans List.perm_middle
    have q1 : (x' :: es').Perm (x' :: (gents D.chs ++ (begsOf (ods.set j { o with fin := none }) ++ finsOf (ods.set j { o with fin := none })))) :=
      ((pm.symm.trans h.lie.g.perm).trans ((h.lie.o.xtp.trans q0).append_left (gents D.chs))).trans List.perm_middle
    exact q1.cons_inv
  have g1 := h.lie.g.pop ag' hp' sub pmx fr
  obtain ⟨g', cap', hv', -, -, c2, -, -, hfz, hgt⟩ := g1.chan (k := o.ch) (c := c) hc
  have hv'' := hv'
  rw [hv] at hv''; injection hv'' with v1 v5 v6; injection v1 with v1; injection v1 with v1
  subst v1
  have hon : o.on o.ch = true := by simp [OrdD.on, hbeg, hfin]
  obtain ⟨-, -, ⟨g2, n2, cap2, hv2, hbcc1⟩, hboc1, hbpc1⟩ := o1.fins j o x' cc oc pc hj hfin
  rw [hv] at hv2; injection hv2 with w1 w5 w6; injection w1 with w1; injection w1 with w1
  subst w1
  have hdr := drop_any b vc (sosOf D.chs) D.vo D.xt D.nv ods g o.ch j o c.so w1 o1 hlen hj hon (sosOf_get hc) c2 (hfz _) hgt
  have on1 : ({ o with fin := none } : OrdD).on o.ch = false := by simp [OrdD.on]
  obtain ⟨l1, l2⟩ := ended_list ods j o.ch o { o with fin := none } hj hon on1
  have hnv : D.nv - 1 = ((finsOf (ods.set j { o with fin := none })).length : Int) := by
    have q1 := h.lie.o.cnt
    have q2 := pf.length_eq
    simp only [List.length_cons] at q2
    unfold finsOf at q1 ⊢
    omega
  have hnb : 0 ≤ D.nv ∧ D.nv ≤ 10000 := by
    have q1 := h.lie.o.cnt
    have q2 := fins_len ods
    omega
  refine takeEnd_call cc oc pc g (o.ch * 5) o.blk b w1 (fun w2 => ∃ n', n' < D.es.length ∧ PInv w0 b D0 ods0 vc vw t w2 n') (by rw [hbcc1.cell]; rfl) (by rw [hboc1.cell]; rfl) (hdr.mono ?_)
  rintro e w2 ⟨rfl, w2', v', r1, r2, r3, r4⟩
  obtain ⟨q1, q2, q3⟩ := PAt.turned (nv' := D.nv - 1) g1 o1 (o' := { o with fin := none }) hj rfl hc hv' rfl rfl rfl rfl rfl (Or.inl rfl) (Or.inr rfl) (fun e => absurd hbeg e) r3 (by rw [← l1, l2]; exact r1) (Or.inl r2) r4 (List.Perm.refl _) hnv
  have hpc2 : Blk w2 pc #[ptr b 0] 43 := hbpc1.frm q3 fun e => by
    rcases e with e | e
    · have := (row_ty (o1.so o.ch c.so (sosOf_get hc)) e).uniq ⟨_, hbpc1⟩
      revert this; decide
    · have := (row_ty g1.chs e).uniq ⟨_, hbpc1⟩
      revert this; decide
  obtain ⟨sl2, ag2⟩ := q1.ag
  obtain ⟨s1, s2⟩ := q1.setHead (D' := { D with es := es', xt := begsOf (ods.set j { o with fin := none }) ++ finsOf (ods.set j { o with fin := none }), chs := D.chs.set o.ch { c with so := v' }, nv := D.nv - 1 }) 7 (by decide) (I (D.nv - 1)) (fun sl => by simp [gCells]) rfl rfl rfl rfl rfl
  have hob : OAt (w2.setCell ⟨b, 7, none⟩ (I (D.nv - 1))) b vc (sosOf (D.chs.set o.ch { c with so := v' })) D.vo (begsOf (ods.set j { o with fin := none }) ++ finsOf (ods.set j { o with fin := none })) (D.nv - 1) (ods.set j { o with fin := none }) :=
    q2.frmG q1 (s2.mono fun y _ e => Or.inl (Or.inl e))
  refine ⟨rfl, by rw [hpc2.cell]; rfl, D.nv, hnb.1, hnb.2, by rw [ag2.head.cell]; rfl, ag2.head.frozen 7, es'.length, by have := pm.length_eq; simp at this; omega, _, _, ⟨⟨s1, hob⟩, h.now, h.lock, h.ws, h.num, h.vo, h.eb, h.chs.set hc rfl rfl (Or.inl ⟨rfl, rfl⟩), h.osm.set hj rfl rfl rfl rfl rfl (Or.inl rfl) (Or.inr ⟨rfl, by rw [← htk]; exact ht⟩), ?_, ?_⟩, rfl⟩
  · have hsz : w0.heap.size ≤ w1.heap.size := Nat.le_trans h.frm.size fr.size
    rintro y (e | e)
    · refine h.foot y (Or.inl ?_)
      rcases e with e | e | e | ⟨k', c', e', h1, h2⟩
      · exact Or.inl (AgF_sub2 sub e)
      · exact Or.inr (Or.inl e)
      · exact Or.inr (Or.inr (Or.inl e))
      · refine Or.inr (Or.inr (Or.inr ?_))
        have h1 : (D.chs.set o.ch { c with so := v' })[k']? = some c' := h1
        by_cases q : o.ch = k'
        · have hcl : o.ch < D.chs.length := (List.getElem?_eq_some_iff.1 hc).1
          rw [← q, List.getElem?_set_self hcl] at h1; simp at h1; subst h1
          exact ⟨o.ch, c, e', hc, h2⟩
        · rw [List.getElem?_set_ne q] at h1; exact ⟨k', c', e', h1, h2⟩
    · have e' : OF (sosOf (D.chs.set o.ch { c with so := v' })) D.vo (ods.set j { o with fin := none }) y := e
      rcases OF_turn (N := w1.heap.size) (o' := { o with fin := none }) hj hc rfl (Or.inl rfl) (Or.inr rfl) (Or.inl r2) e' with e | e
      · exact h.foot y (Or.inr e)
      · exact Or.inr (by omega)
  · have fa : Frm (PF b D0 vc vw ods0) w0 w2 := (h.frame fr fun y hy => Or.inl (Or.inl hy)).trans2 q3 fun y hy e => by
      have : PF b D vc vw ods y := by
        rcases e with e | e
        · exact Or.inr (Or.inr (Or.inr ⟨o.ch, c.so, sosOf_get hc, e⟩))
        · exact Or.inl (Or.inr (Or.inl e))
      rcases h.foot y this with q | q
      · exact q
      · omega
    exact fa.trans2 s2 fun y hy e => by
      rcases h.foot y (Or.inl (Or.inl (Or.inl e))) with q | q
      · exact q
      · omega

theorem pinv_due (w0 : World) (b : Nat) (D0 : GSt) (ods0 : List OrdD) (vc vw : Value) (t : Int) (hc : D0.chs.length ≤ 4) (ho : ods0.length ≤ 3300) (w : World) (n : Nat) (h : PInv w0 b D0 ods0 vc vw t w n) :
    ∃ c T eb es, Due (PInv w0 b D0 ods0 vc vw t) b 4 t w n c T eb es := by
  obtain ⟨D, ods, h, hn⟩ := h
  obtain ⟨sl, ag⟩ := h.lie.g.ag
  have hol : ods.length ≤ 3300 := by rw [h.osm.1]; exact ho
  have hlen : D.es.length ≤ 6604 := by
    have q1 := h.lie.g.perm.length_eq
    have q2 := h.lie.o.xtp.length_eq
    have q3 := gents_len D.chs
    have q4 := begs_len ods
    have q5 := fins_len ods
    have q6 := h.chs.1
    simp only [List.length_append] at q1 q2
    omega
  refine ⟨_, 94, D.eb, D.es, ag, h.lie.g.heap, by omega, ?_⟩
  intro hne htick
  have hl0 : 0 < D.es.length := List.length_pos_iff.2 hne
  have hx0 := ix_some hl0
  have hmin : ∀ e ∈ D.es, (ix D.es 0).tick ≤ e.tick := by
    intro e he
    obtain ⟨i, hi⟩ := List.getElem?_of_mem he
    have hil := (List.getElem?_eq_some_iff.1 hi).1
    have := h.lie.g.heap.root i hil
    have e1 : ix D.es i = e := by simp [ix, hi]
    rw [e1] at this
    unfold le at this
    omega
  generalize hxx : ix D.es 0 = x at *
  have hxm : x ∈ D.es := List.mem_of_getElem? hx0
  rw [← hn]
  rcases List.mem_append.1 (h.lie.g.perm.mem_iff.1 hxm) with q | q
  · obtain ⟨f, caps, a1, a2, a3⟩ := due_rate h q htick
    exact ⟨f, caps, a1, a2, fun w1 hw => a3 sl w1 hw⟩
  · rcases List.mem_append.1 (h.lie.o.xtp.mem_iff.1 q) with q | q
    · obtain ⟨f, caps, a1, a2, a3⟩ := due_begin h hol q htick
      exact ⟨f, caps, a1, a2, fun w1 hw => a3 sl w1 hw⟩
    · obtain ⟨f, caps, a1, a2, a3⟩ := due_end h hol q htick hmin
      exact ⟨f, caps, a1, a2, fun w1 hw => a3 sl w1 hw⟩

theorem gents_in_mem {chs : List GCh} {k : Nat} {c : GCh} {e : Ent} {cb : Nat} (hk : chs[k]? = some c) (he : c.ent = some (e, cb)) : e ∈ gents chs :=
  List.mem_filterMap.2 ⟨c, List.mem_of_getElem? hk, by rw [he]; rfl⟩

/-- what is due has been done -/
theorem preached (w0 w' : World) (b : Nat) (D0 : GSt) (ods0 : List OrdD) (vc vw : Value) (t : Int) (e : Ending) (h : ReachEnd (PInv w0 b D0 ods0 vc vw t) b 4 t e w') :
    e = .returned (.tuple #[]) ∧ ∃ D ods, PSt w0 b D0 ods0 vc vw t w' D ods ∧ ∀ x ∈ D.es, t < x.tick := by
  obtain ⟨rfl, n, c, T, eb, es, ⟨D, ods, h, hn⟩, hdue, hend⟩ := h
  refine ⟨rfl, D, ods, h, ?_⟩
  intro x hm
  obtain ⟨sl, ag⟩ := h.lie.g.ag
  have heq := hdue.1.unique ag
  subst heq
  rcases hend with hend | hend
  · rw [hend] at hm; cases hm
  · obtain ⟨i, hi⟩ := List.getElem?_of_mem hm
    have hil := (List.getElem?_eq_some_iff.1 hi).1
    have := hdue.2.1.root i hil
    have e1 : ix D.es i = x := by simp [ix, hi]
    rw [e1] at this
    unfold le at this
    omega

end Go.Proofs.YtahiolfelcmikaaGreat

/- pass, with orders. -/
namespace Go.Proofs.YtahiolfelcmikaaGreat
open Go.RowKit

structure PEnd (w w' : World) (b : Nat) (D D' : GSt) (vc vw : Value) (ods ods' : List OrdD) (lims : List Lim) (ds : List Ds) : Prop where
  lie : PAt w' b D' vc vw ods'
  now : D'.now = D.now + 1
  lock : D'.lock = D.lock
  num : D'.num = D.num
  fits : Fits D'.ws lims ds (D.now + 1)
  chs : CSame (D.now + 1) D.chs D'.chs
  osm : OSame (D.now + 1) ods ods'
  late : ∀ x ∈ D'.es, D.now + 1 < x.tick
  foot : ∀ x, PF b D' vc vw ods' x → PF b D vc vw ods x ∨ w.heap.size ≤ x
  frm : Frm (PF b D vc vw ods) w w'

set_option maxRecDepth 100000 in
set_option maxHeartbeats 1600000 in
theorem opass_all (b : Nat) (D : GSt) (vc vw : Value) (ods : List OrdD) (lims : List Lim) (ds : List Ds) (w : World) (h : PAt w b D vc vw ods) (hf : Fits D.ws lims ds D.now) (hl : ∀ l ∈ lims, 1 ≤ l.win) (hd : ∀ d ∈ ds, d.tick ≤ D.now)
    (nl : D.ws.length ≤ 6) (nc : D.chs.length ≤ 4) (no : ods.length ≤ 3300) (n0 : 0 ≤ D.now) (n1 : D.now ≤ 400) :
    Calls Tryz.prog 53 #[ptr b 0] w fun e w' => e = .returned (.tuple #[]) ∧ ∃ D' ods', PEnd w w' b D D' vc vw ods ods' lims ds := by
  obtain ⟨av, cp, rfl⟩ := row_slice h.g.ws.row
  obtain ⟨sl, ag⟩ := h.g.ag
  have c0 : w.cell? ⟨b, 0, none⟩ = some (I D.now) := by rw [ag.head.cell]; rfl
  have c3 : w.cell? ⟨b, 3, none⟩ = some (.slice av D.ws.length cp) := by rw [ag.head.cell]; rfl
  have f0 : w.frozen? ⟨b, 0, none⟩ = false := ag.head.frozen 0
  obtain ⟨hs, hsf⟩ := h.g.setHead (D' := { D with now := D.now + 1 }) 0 (by decide) (I (D.now + 1)) (fun sl => by simp [gCells]) rfl rfl rfl rfl rfl
  have ho := h.o.frmG h.g (hsf.mono fun y _ e => Or.inl (Or.inl e))
  have H := hide (And.intro h (And.intro hf (And.intro hl (And.intro hd (And.intro hs (And.intro hsf ho))))))
  clear h hf hl hd hs hsf ho ag
  go_enter Tryz.func53, Tryz.ntmps53
  go_wp2_with fail
  go_loopg [3, 16] D.ws.length (fun q _ i wr => ∃ j : Nat, q + j = D.ws.length ∧ i = I j ∧ Hid (∃ ws', Turn (w.setCell ⟨b, 0, none⟩ (I (D.now + 1))) wr (.slice av D.ws.length cp) D.ws ws' lims j fun W l => Fit W l ds (D.now + 1)))
  case atStart => exact ⟨0, by omega, rfl, D.ws, Turn.start _ _ (H.out).2.2.2.2.1.ws (Frm.refl _ _)⟩
  case round =>
    obtain ⟨j, hkj, rfl, hst⟩ := hrel
    obtain ⟨ws', ht⟩ := hst.out
    have hlen := ht.len
    by_cases hj : j < D.ws.length
    · obtain ⟨x, hx⟩ : ∃ x, ws'[j]? = some x := ⟨_, List.getElem?_eq_getElem (by omega)⟩
      have hx0 : D.ws[j]? = some x := by rw [← ht.rest j (Nat.le_refl _)]; exact hx
      obtain ⟨l, hl, hfit⟩ := (H.out).2.1.fit hx0
      obtain ⟨g', cap', hv, -, hcell⟩ := ht.lie.cell hx
      injection hv with hv1 hv2 hv3
      subst hv1
      have hwin := ht.lie.each j x hx
      have GG := hide (pass_any x.1 x.2.1 x.2.2 wr hwin hfit.ok)
      have hwl := (H.out).2.2.1 l (List.mem_of_getElem? hl)
      have NX : Hid (∀ w2, Frm (fun b => b = x.1 ∨ b = x.2.1) wr w2 → WinAt w2 x.1 x.2.1 x.2.2.pass → ∃ k' : Nat, k' < gk ∧ ∃ j' : Nat, k' + j' = D.ws.length ∧ I ((j : Int) + 1) = I j' ∧ Hid (∃ ws', Turn (w.setCell ⟨b, 0, none⟩ (I (D.now + 1))) w2 (.slice (some ⟨g', 0, none⟩) D.ws.length cp) D.ws ws' lims j' fun W l => Fit W l ds (D.now + 1))) := by
        intro w2 hf2 hw2
        exact ⟨gk - 1, by omega, j + 1, by omega, by simp, _, ht.next hx hl hf2 hw2 (hfit.pass hwl (H.out).2.2.2.1)⟩
      clear hwin hfit hx hx0 hl hwl hst ht hv2 hv3 hlen
      go_wp2_with fail
      refine (GG.out).mono ?_
      rintro e w2 ⟨rfl, f2, hw2⟩
      obtain ⟨k', m1, m2⟩ := NX.out w2 f2 hw2
      have M1 := hide m1
      have M2 := hide m2
      clear m1 m2 f2 hw2
      go_wp2_with fail
      go_roundg k'
      case measure => exact M1.out
      case rel => exact M2.out
    · have hje : j = D.ws.length := by omega
      rw [hje] at ht
      have hD := (H.out).2.2.2.2.1.turned ht.lie ht.foot ht.frm
      have hO := (H.out).2.2.2.2.2.2.frmG (H.out).2.2.2.2.1 (ht.frm.mono fun y _ e => Or.inr (Or.inr e))
      have hfits := ht.fits (H.out).2.1.1
      have fD : Frm (PF b D vc (.slice av D.ws.length cp) ods) w wr := ((H.out).2.2.2.2.2.1.mono fun x _ hx => Or.inl (Or.inl (Or.inl hx))).trans (ht.frm.mono fun x _ hx => Or.inl (Or.inr (Or.inr (Or.inl hx))))
      obtain ⟨sl2, ag2⟩ := hD.ag
      have d0 : wr.cell? ⟨b, 0, none⟩ = some (I (D.now + 1)) := by rw [ag2.head.cell]; rfl
      have footD : ∀ x, PF b { D with now := D.now + 1, ws := ws' } vc (.slice av D.ws.length cp) ods x → PF b D vc (.slice av D.ws.length cp) ods x := by
        rintro x ((e | e | e | e) | e)
        · exact Or.inl (Or.inl e)
        · exact Or.inl (Or.inr (Or.inl e))
        · exact Or.inl (Or.inr (Or.inr (Or.inl ((ht.foot x).1 e))))
        · exact Or.inl (Or.inr (Or.inr (Or.inr e)))
        · exact Or.inr e
      have RE : Hid (∀ m, Calls Tryz.prog 74 #[ptr b 4, I (D.now + 1)] (wr.drewN m) fun e w' => e = .returned (.tuple #[]) ∧ ∃ D' ods', PEnd w w' b D D' vc (.slice av D.ws.length cp) ods ods' lims ds) := by
        intro m
        have kp : Keep wr (wr.drewN m) := (Frm.refl _ _).drewN _
        have hi : PInv wr b { D with now := D.now + 1, ws := ws' } ods vc (.slice av D.ws.length cp) (D.now + 1) (wr.drewN m) D.es.length :=
          ⟨_, ods, ⟨⟨hD.keep kp, hO.keep kp⟩, rfl, rfl, rfl, rfl, rfl, rfl, CSame.refl _ _, OSame.refl _ _, fun _ hx => Or.inl hx, (Frm.refl _ _).drewN _⟩, rfl⟩
        refine (reach_any _ b 4 (D.now + 1) (pinv_due wr b { D with now := D.now + 1, ws := ws' } ods vc _ (D.now + 1) nc no) D.es.length (wr.drewN m) hi).mono ?_
        intro e w' he
        obtain ⟨rfl, D', ods', r1, r2⟩ := preached wr w' b { D with now := D.now + 1, ws := ws' } ods vc _ (D.now + 1) e he
        refine ⟨rfl, D', ods', r1.lie, r1.now, r1.lock, r1.num, by rw [r1.ws]; exact hfits, r1.chs, r1.osm, r2, fun x hx => ?_, ?_⟩
        · rcases r1.foot x hx with q | q
          · exact Or.inl (footD x q)
          · exact Or.inr (Nat.le_trans fD.size q)
        · exact fD.trans (r1.frm.mono fun x _ hx => footD x hx)
      clear hkj hst hje ht hlen hD hO hfits fD ag2 footD
      go_wp2_with fail
      go_region_with (go_at_call 74; refine (RE.out _).mono ?_; rintro e w' ⟨rfl, he⟩)
      all_goals go_wp2_with fail
      all_goals go_end0
      all_goals exact ⟨rfl, he⟩

end Go.Proofs.YtahiolfelcmikaaGreat
