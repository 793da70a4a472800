/- An order begins, an order ends: the channel's list. -/
import Derived.Test.YtpilmkipbbengaaGreatDoorOshare
import Derived.Test.YtpilmkipbbengaaGreatDoorDM
namespace Go.Proofs.YtpilmkipbbengaaGreatDoor
open Go.RowKit

/-- where an order comes in -/
def place (ods : List OrdD) (k j : Nat) : Nat := (going (ods.take j) k).length

theorem going_split (ods : List OrdD) (k j : Nat) (o : OrdD) (hj : ods[j]? = some o) : going ods k = going (ods.take j) k ++ (going [o] k ++ going (ods.drop (j + 1)) k) := by
  have hl : j < ods.length := (List.getElem?_eq_some_iff.1 hj).1
  have hv : ods[j] = o := (List.getElem?_eq_some_iff.1 hj).2
  have e : ods = ods.take j ++ ([o] ++ ods.drop (j + 1)) := by
    have := List.take_append_drop j ods
    rw [List.drop_eq_getElem_cons hl, hv] at this
    exact this.symm
  have := congrArg (fun l => going l k) e
  simp only [going_append] at this
  exact this

theorem going_take {ods : List OrdD} {k j i : Nat} {p : OrdD} (h : (going (ods.take j) k)[i]? = some p) : ∃ i', i' < j ∧ ods[i']? = some p := by
  have hm := (going_mem (List.mem_of_getElem? h)).1
  obtain ⟨i', hi'⟩ := List.getElem?_of_mem hm
  rw [List.getElem?_take] at hi'
  split at hi'
  · exact ⟨i', by omega, hi'⟩
  · cases hi'
theorem going_drop {ods : List OrdD} {k j i : Nat} {p : OrdD} (h : (going (ods.drop (j + 1)) k)[i]? = some p) : ∃ i', j < i' ∧ ods[i']? = some p := by
  have hm := (going_mem (List.mem_of_getElem? h)).1
  obtain ⟨i', hi'⟩ := List.getElem?_of_mem hm
  rw [List.getElem?_drop] at hi'
  exact ⟨j + 1 + i', by omega, hi'⟩

def BegEnd (w : World) (g k : Nat) (s : Value) (n : Nat) (xs : List Value) (pl : Nat) (p : Value) (e : Ending) (w' : World) : Prop :=
  e = .returned (.tuple #[]) ∧ ∃ w1 v', w1.ownsRow 0 149 1 v' (n + 1) (ins xs pl p) ∧ (v'.ownBlock = s.ownBlock ∨ ∃ q, v'.ownBlock = some q ∧ w.heap.size ≤ q) ∧ Frm (fun x => s.ownBlock = some x) w w1 ∧ w' = w1.setCell ⟨g, k * 5 + 2, none⟩ v'

set_option maxRecDepth 100000 in
set_option maxHeartbeats 3200000 in
theorem begin_any (b : Nat) (vc : Value) (sos : List Value) (vo : Value) (xt : List Ent) (nv : Int) (ods : List OrdD) (g k j : Nat) (o : OrdD) (s : Value) (w : World) (h : OAt w b vc sos vo xt nv ods) (hlen : ods.length ≤ 3300) (hj : ods[j]? = some o) (hon : o.on k = false) (hs : sos[k]? = some s)
    (c2 : w.cell? ⟨g, k * 5 + 2, none⟩ = some s) (f2 : w.frozen? ⟨g, k * 5 + 2, none⟩ = false) (hg : HasT w g 127) :
    Calls Tryz.prog 102 #[ptr g (k * 5), pt o.blk] w fun e w' => BegEnd w g k s (going ods k).length ((going ods k).flatMap fun o => [pt o.blk]) (place ods k j) (pt o.blk) e w' := by
  have hso := h.so k s hs
  obtain ⟨sa, sc, rfl⟩ := row_slice hso
  have hgl : (going ods k).length ≤ 3300 := Nat.le_trans (going_le ods k) hlen
  have hsp := going_split ods k j o hj
  have hsp' : going ods k = going (ods.take j) k ++ going (ods.drop (j + 1)) k := by
    rw [hsp]; congr 1; simp [going, hon]
  have hpl : place ods k j ≤ (going ods k).length := by rw [hsp']; simp [place]
  have hlg := hg.lt
  have hb0 := h.ords j o hj
  have n0 : w.cell? ⟨o.blk, 0, none⟩ = some (I ((j : Int) + 1)) := by rw [hb0.cell]; rfl
  have hjl : j < ods.length := (List.getElem?_eq_some_iff.1 hj).1
  have INS : Hid (∀ m : Nat, Calls Tryz.prog 123 #[.slice sa (going ods k).length sc, I (place ods k j), .slice (some ⟨w.heap.size, 0, none⟩) 1 1] ((w.drewN m).alloc (.cells #[pt o.blk] 149)) fun e w1 => ∃ v', e = .returned v' ∧
      (∃ u, w1.cell? ⟨g, k * 5 + 2, none⟩ = some u) ∧ w1.frozen? ⟨g, k * 5 + 2, none⟩ = false ∧ (∃ a c, v' = .slice a ((going ods k).length + 1) c) ∧ BegEnd w g k (.slice sa (going ods k).length sc) (going ods k).length ((going ods k).flatMap fun o => [pt o.blk]) (place ods k j) (pt o.blk) (.returned (.tuple #[])) (w1.setCell ⟨g, k * 5 + 2, none⟩ v')) := by
    intro m
    have km : Keep w ((w.drewN m).alloc (.cells #[pt o.blk] 149)) := ((Frm.refl _ _).drewN m).alloc _
    have bn : Blk ((w.drewN m).alloc (.cells #[pt o.blk] 149)) w.heap.size #[pt o.blk] 149 := Blk.new (w.drewN m) _ _
    refine (insert_any (.slice sa (going ods k).length sc) (going ods k).length ((going ods k).flatMap fun o => [pt o.blk]) (place ods k j) w.heap.size (pt o.blk) _ (row_frm hso km fun _ _ e => e) ?_ rfl hpl (by omega) bn ?_).mono ?_
    · intro u hu
      obtain ⟨p, -, hp⟩ := List.mem_flatMap.1 hu
      simp at hp; subst hp; rfl
    · intro e; have := (hso.lt _ e).2; omega
    · rintro e w1 ⟨v', rfl, r1, r2, r3⟩
      have hng : (Value.slice sa (going ods k).length sc).ownBlock ≠ some g := fun e => by
        have := (row_ty hso e).uniq hg; revert this; decide
      have fr : Frm (fun x => (Value.slice sa (going ods k).length sc).ownBlock = some x) w w1 := (km.mono fun _ _ e => e.elim).trans r3
      refine ⟨v', rfl, ⟨_, fr.cell (p := ⟨g, k * 5 + 2, none⟩) c2 hng⟩, fr.frozen (p := ⟨g, k * 5 + 2, none⟩) hlg f2 hng, row_slice r1, rfl, w1, v', r1, ?_, fr, rfl⟩
      rcases r2 with e | ⟨q, e, hq⟩
      · exact Or.inl e
      · exact Or.inr ⟨q, e, Nat.le_trans km.size hq⟩
  have GET : Hid (∀ i p, (going ods k)[i]? = some p → ∃ i' : Nat, w.cell? ⟨p.blk, 0, none⟩ = some (I ((i' : Int) + 1)) ∧ i' < ods.length ∧ (i < place ods k j → i' < j) ∧ (place ods k j ≤ i → j < i')) := by
    intro i p hp
    have hp' := hp
    rw [hsp', List.getElem?_append] at hp'
    split at hp'
    · obtain ⟨i', h1, h2⟩ := going_take hp'
      refine ⟨i', by rw [(h.ords i' p h2).cell]; rfl, (List.getElem?_eq_some_iff.1 h2).1, fun _ => h1, fun h3 => ?_⟩
      rename_i hlt
      unfold place at h3; omega
    · obtain ⟨i', h1, h2⟩ := going_drop hp'
      refine ⟨i', by rw [(h.ords i' p h2).cell]; rfl, (List.getElem?_eq_some_iff.1 h2).1, fun h3 => ?_, fun _ => h1⟩
      rename_i hlt
      unfold place at h3; omega
  have HR := hide hso
  clear h hs hso hsp hsp' hb0 hj hg
  generalize place ods k j = pl at *
  go_enter Tryz.func102, Tryz.ntmps102
  go_wp2_with fail
  go_loopg [4] pl (fun q i wr => ∃ x : Nat, q + x = pl ∧ i = I x ∧ Hid (∃ m, wr = w.drewN m))
  case atStart => exact ⟨0, by omega, rfl, 0, rfl⟩
  case round =>
    obtain ⟨x, hq, rfl, hd⟩ := hrel
    by_cases hx : x < (going ods k).length
    · obtain ⟨p, hp⟩ : ∃ p, (going ods k)[x]? = some p := ⟨_, List.getElem?_eq_getElem hx⟩
      obtain ⟨i', z1, z2, z3, z4⟩ := GET.out x p hp
      obtain ⟨g', cap', hv, -, hcell, -⟩ := row_at HR.out (fun _ => rfl) hp (by decide)
      injection hv with hv1 hv2 hv3
      subst hv1
      have d0 := hcell 0 (by decide)
      simp at d0
      obtain ⟨m, rfl⟩ := hd.out
      have HQ := hide hq
      clear hcell hv2 hv3 hp hq GET HR hd
      have y1 : (w.drewN m).cell? ⟨p.blk, 0, none⟩ = some (I ((i' : Int) + 1)) := z1
      have y2 : (w.drewN m).cell? ⟨g', x, none⟩ = some (pt p.blk) := d0
      have y3 : (w.drewN m).cell? ⟨g, k * 5 + 2, none⟩ = some (.slice (some ⟨g', 0, none⟩) (going ods k).length sc) := c2
      have y4 : (w.drewN m).cell? ⟨o.blk, 0, none⟩ = some (I ((j : Int) + 1)) := n0
      generalize hwm : w.drewN m = wm at *
      have HM := hide hwm
      clear hwm z1 d0
      by_cases hlt : x < pl
      · have h3 : (i' : Int) + 1 < (j : Int) + 1 := by have := z3 hlt; omega
        clear z3 z4
        go_wp2_with fail
        go_quiet (fail)
        go_wp2_with fail
        go_roundg (gk - 1)
        case measure => have := HQ.out; omega
        case rel => exact ⟨x + 1, by have := HQ.out; omega, by simp, m + nq, by rw [← HM.out, World.drewN_drewN]⟩
      · have h3 : ¬ (i' : Int) + 1 < (j : Int) + 1 := by have := z4 (by omega); omega
        have h3' : decide ((i' : Int) + 1 < (j : Int) + 1) = false := by simpa using h3
        have hxp : x = pl := by have := HQ.out; omega
        subst hxp
        clear z3 z4
        go_wp2_with fail
        go_quiet (fail)
        have hwq : wm.drewN nq = w.drewN (m + nq) := by rw [← HM.out, World.drewN_drewN]
        rw [hwq]
        go_wp2_with fail
        refine (INS.out _).mono ?_
        rintro e w1 ⟨v', rfl, ⟨u, q1⟩, q2, ⟨av, cv, rfl⟩, q4⟩
        have FF := hide q4
        clear q4
        go_wp2_with fail
        go_end0
        exact FF.out
    · have hxp : x = pl := by omega
      subst hxp
      obtain ⟨m, rfl⟩ := hd.out
      have y3 : (w.drewN m).cell? ⟨g, k * 5 + 2, none⟩ = some (.slice sa (going ods k).length sc) := c2
      generalize hwm : w.drewN m = wm at *
      have HM := hide hwm
      clear hwm hd GET HR
      go_wp2_with fail
      go_quiet (fail)
      have hwq : wm.drewN nq = w.drewN (m + nq) := by rw [← HM.out, World.drewN_drewN]
      rw [hwq]
      go_wp2_with fail
      refine (INS.out _).mono ?_
      rintro e w1 ⟨v', rfl, ⟨u, q1⟩, q2, ⟨av, cv, rfl⟩, q4⟩
      have FF := hide q4
      clear q4
      go_wp2_with fail
      go_end0
      exact FF.out

end Go.Proofs.YtpilmkipbbengaaGreatDoor

/- drop; what begins and ends leaves of the orders. -/
namespace Go.Proofs.YtpilmkipbbengaaGreatDoor
open Go.RowKit

def DropEnd (w : World) (g k : Nat) (s : Value) (n : Nat) (ids : List Nat) (q : Nat) (e : Ending) (w' : World) : Prop :=
  e = .returned (.tuple #[]) ∧ ∃ w1 v', w1.ownsRow 0 149 1 v' (n - 1) ((ids.eraseIdx q).map pt) ∧ v'.ownBlock = s.ownBlock ∧ Frm (fun x => s.ownBlock = some x) w w1 ∧ w' = w1.setCell ⟨g, k * 5 + 2, none⟩ v'

theorem going_at (ods : List OrdD) (k j : Nat) (o : OrdD) (hj : ods[j]? = some o) (hon : o.on k = true) : (going ods k)[place ods k j]? = some o := by
  rw [going_split ods k j o hj, List.getElem?_append_right (by simp [place])]
  simp [place, going, hon]

theorem going_inj {w : World} {b : Nat} {vc : Value} {sos : List Value} {vo : Value} {xt : List Ent} {nv : Int} {ods : List OrdD} (h : OAt w b vc sos vo xt nv ods) {k j : Nat} {o : OrdD} (hj : ods[j]? = some o) (hon : o.on k = true) {i : Nat} {p : OrdD} (hp : (going ods k)[i]? = some p) (he : p.blk = o.blk) : i = place ods k j := by
  have hs := going_split ods k j o hj
  have ho : going [o] k = [o] := by simp [going, hon]
  rw [ho] at hs
  rw [hs, List.getElem?_append] at hp
  split at hp
  · obtain ⟨i', h1, h2⟩ := going_take hp
    have := h.dup i' j p o h2 hj he
    omega
  · rename_i hlt
    rw [List.getElem?_append] at hp
    split at hp
    · rename_i h2
      simp at h2
      unfold place; omega
    · rename_i h2
      obtain ⟨i', h1, h3⟩ := going_drop hp
      have := h.dup i' j p o h3 hj he
      omega

set_option maxRecDepth 100000 in
set_option maxHeartbeats 1600000 in
theorem drop_any (b : Nat) (vc : Value) (sos : List Value) (vo : Value) (xt : List Ent) (nv : Int) (ods : List OrdD) (g k j : Nat) (o : OrdD) (s : Value) (w : World) (h : OAt w b vc sos vo xt nv ods) (hlen : ods.length ≤ 3300) (hj : ods[j]? = some o) (hon : o.on k = true) (hs : sos[k]? = some s)
    (c2 : w.cell? ⟨g, k * 5 + 2, none⟩ = some s) (f2 : w.frozen? ⟨g, k * 5 + 2, none⟩ = false) (hg : HasT w g 127) :
    Calls Tryz.prog 104 #[ptr g (k * 5), pt o.blk] w fun e w' => DropEnd w g k s (going ods k).length ((going ods k).map (·.blk)) (place ods k j) e w' := by
  have hso := h.so k s hs
  have hgl : (going ods k).length ≤ 3300 := Nat.le_trans (going_le ods k) hlen
  have hat := going_at ods k j o hj hon
  have hpl : place ods k j < (going ods k).length := (List.getElem?_eq_some_iff.1 hat).1
  have hlg := hg.lt
  rcases hso.2 with ⟨-, h0⟩ | ⟨g', cap, cur, rfl, -, hblk, hnc, hcm, hcsz, htk⟩
  · omega
  have hb' : Blk w g' cur 149 := hblk
  have idl : ((going ods k).map (·.blk)).length = (going ods k).length := by simp
  have kb : Keep w (w.alloc (.cells #[pt o.blk] 149)) := (Frm.refl _ _).alloc _
  have hgb := hb'.lt
  have DI : DelIn (w.alloc (.cells #[pt o.blk] 149)) g' cur ((going ods k).map (·.blk)) (place ods k j) o.blk w.heap.size := by
    refine ⟨hb'.alloc _, ?_, ?_, ?_, ?_, Blk.new _ _ _⟩
    · intro i x hx
      rw [List.getElem?_map] at hx
      cases hp : (going ods k)[i]? with
      | none => rw [hp] at hx; simp at hx
      | some p =>
        rw [hp] at hx; simp at hx; subst hx
        have hil : i < (going ods k).length := (List.getElem?_eq_some_iff.1 hp).1
        have := flat_get (fun o : OrdD => [pt o.blk]) 1 (fun _ => rfl) (going ods k) i 0 p hp (by decide)
        rw [← htk, List.getElem?_take_of_lt (by omega)] at this
        simpa using this
    · intro i x hx
      rw [List.getElem?_map] at hx
      cases hp : (going ods k)[i]? with
      | none => rw [hp] at hx; simp at hx
      | some p =>
        rw [hp] at hx; simp at hx; subst hx
        obtain ⟨i', hi'⟩ := List.getElem?_of_mem (going_mem (List.mem_of_getElem? hp)).1
        exact ⟨_, (h.ords i' p hi').alloc _⟩
    · rw [List.getElem?_map, hat]; rfl
    · intro i hi
      rw [List.getElem?_map] at hi
      cases hp : (going ods k)[i]? with
      | none => rw [hp] at hi; simp at hi
      | some p =>
        rw [hp] at hi; simp at hi
        exact going_inj h hj hon hp hi
  have ng : ∀ x ∈ (going ods k).map (·.blk), x ≠ g' := by
    intro x hx e
    obtain ⟨p, hp, rfl⟩ := List.mem_map.1 hx
    obtain ⟨i', hi'⟩ := List.getElem?_of_mem (going_mem hp).1
    have := (HasT.uniq ⟨_, h.ords i' p hi'⟩ (e ▸ ⟨_, hb'⟩ : HasT w p.blk 149))
    revert this; decide
  have DE := delete_any g' cap cur ((going ods k).map (·.blk)) (place ods k j) o.blk w.heap.size _ DI (by omega) (by omega) hcm (by omega) (by omega) ng
  rw [idl] at DE
  have FI : Hid (∀ (e : Ending) (w1 : World), DelEnd (w.alloc (.cells #[pt o.blk] 149)) g' cap ((going ods k).map (·.blk)) (place ods k j) e w1 → e = .returned (.slice (some ⟨g', 0, none⟩) ((going ods k).length - 1) cap) ∧
      (∃ u, w1.cell? ⟨g, k * 5 + 2, none⟩ = some u) ∧ w1.frozen? ⟨g, k * 5 + 2, none⟩ = false ∧ DropEnd w g k (.slice (some ⟨g', 0, none⟩) (going ods k).length cap) (going ods k).length ((going ods k).map (·.blk)) (place ods k j) (.returned (.tuple #[])) (w1.setCell ⟨g, k * 5 + 2, none⟩ (.slice (some ⟨g', 0, none⟩) ((going ods k).length - 1) cap))) := by
    rintro e w1 ⟨r1, r2, r3⟩
    rw [idl] at r1 r2
    have hng : g ≠ g' := fun e => by
      have := hg.uniq (e ▸ ⟨_, hb'⟩ : HasT w g 149)
      revert this; decide
    have fr : Frm (fun x => (Value.slice (some ⟨g', 0, none⟩) (going ods k).length cap).ownBlock = some x) w w1 := (kb.mono fun _ _ e => e.elim).trans (r3.mono fun x _ e => by rw [e]; rfl)
    have hng' : (Value.slice (some ⟨g', 0, none⟩) (going ods k).length cap).ownBlock ≠ some g := fun e => hng (by injection e with e; exact e.symm)
    exact ⟨r1, ⟨_, fr.cell (p := ⟨g, k * 5 + 2, none⟩) c2 hng'⟩, fr.frozen (p := ⟨g, k * 5 + 2, none⟩) hlg f2 hng', rfl, w1, _, r2, rfl, fr, rfl⟩
  have HD := hide DE
  clear DE DI ng h hs hj hon hat htk hcsz hblk hb' hso hg kb
  go_enter Tryz.func104, Tryz.ntmps104
  go_wp2_with fail
  refine (HD.out).mono ?_
  intro e w1 he
  obtain ⟨rfl, ⟨u, q1⟩, q2, q3⟩ := FI.out e w1 he
  have FF := hide q3
  clear q3 he
  go_wp2_with fail
  go_end0
  exact FF.out

/-- an order has begun, or is over -/
theorem OAt.turn {S : Nat → Prop} {w w' : World} {b : Nat} {vc : Value} {sos : List Value} {vo : Value} {xt xt' : List Ent} {nv nv' : Int} {ods : List OrdD} (h : OAt w b vc sos vo xt nv ods) {j k : Nat} {o o' : OrdD} {s v' : Value} (hj : ods[j]? = some o) (hk : o.ch = k) (hs : sos[k]? = some s)
    (e1 : o'.blk = o.blk) (e2 : o'.rest = o.rest) (e3 : o'.start = o.start) (e4 : o'.stop = o.stop) (e5 : o'.ch = o.ch) (hb : o'.beg = o.beg ∨ o'.beg = none) (hf : o'.fin = o.fin ∨ o'.fin = none) (hbf : o'.beg ≠ none → o'.fin ≠ none)
    (f : Frm S w w') (hS : ∀ x T, HasT w x T → OTy T → S x → s.ownBlock = some x) (hr : w'.ownsRow 0 149 1 v' (going (ods.set j o') k).length ((going (ods.set j o') k).flatMap fun o => [pt o.blk])) (hn : v'.ownBlock = s.ownBlock ∨ ∃ q, v'.ownBlock = some q ∧ w.heap.size ≤ q)
    (hxt : xt'.Perm (begsOf (ods.set j o') ++ finsOf (ods.set j o'))) (hcnt : nv' = ((finsOf (ods.set j o')).length : Int)) : OAt w' b vc (sos.set k v') vo xt' nv' (ods.set j o') := by
  have hl : j < ods.length := (List.getElem?_eq_some_iff.1 hj).1
  have hkl : k < sos.length := (List.getElem?_eq_some_iff.1 hs).1
  have hso := h.so k s hs
  have bl : ∀ {x : Nat} {c : Array Value} {T : TypeId}, Blk w x c T → OTy T → s.ownBlock ≠ some x → Blk w' x c T := fun hx ht hne => hx.frm f fun e => hne (hS _ _ ⟨_, hx⟩ ht e)
  have bl' : ∀ {x : Nat} {c : Array Value} {T : TypeId}, Blk w x c T → OTy T → T ≠ 149 → Blk w' x c T := fun hx ht hne => bl hx ht fun e => hne (HasT.uniq ⟨_, hx⟩ (row_ty hso e))
  have rl : ∀ {v : Value} {n : Nat} {xs : List Value}, w.ownsRow 0 149 1 v n xs → Dis v s → w'.ownsRow 0 149 1 v n xs := fun hq hd => row_frm hq f fun g hg e => hd g hg (hS _ _ (row_ty hq hg) (Or.inr (Or.inl rfl)) e)
  have key : ∀ (i : Nat) (p : OrdD), (ods.set j o')[i]? = some p → ∃ p0, ods[i]? = some p0 ∧ p.blk = p0.blk ∧ p.rest = p0.rest ∧ p.start = p0.start ∧ p.stop = p0.stop ∧ p.ch = p0.ch ∧ (p.beg = p0.beg ∨ p.beg = none) ∧ (p.fin = p0.fin ∨ p.fin = none) ∧ (p.beg ≠ none → p.fin ≠ none) := by
    intro i p hp
    by_cases q : j = i
    · subst q; rw [List.getElem?_set_self hl] at hp; simp at hp; subst hp; exact ⟨o, hj, e1, e2, e3, e4, e5, hb, hf, hbf⟩
    · rw [List.getElem?_set_ne q] at hp; exact ⟨p, hp, rfl, rfl, rfl, rfl, rfl, Or.inl rfl, Or.inl rfl, h.bf i p hp⟩
  have skey : ∀ (l : Nat) (t : Value), (sos.set k v')[l]? = some t → (l = k ∧ t = v') ∨ (l ≠ k ∧ sos[l]? = some t) := by
    intro l t ht
    by_cases q : k = l
    · subst q; rw [List.getElem?_set_self hkl] at ht; simp at ht; exact Or.inl ⟨rfl, ht.symm⟩
    · rw [List.getElem?_set_ne q] at ht; exact Or.inr ⟨fun e => q e.symm, ht⟩
  have vnew : ∀ x, v'.ownBlock = some x → s.ownBlock = some x ∨ w.heap.size ≤ x := by
    intro x hx
    rcases hn with e | ⟨q, e, hq⟩
    · exact Or.inl (by rw [← e]; exact hx)
    · rw [e] at hx; injection hx with hx; exact Or.inr (by omega)
  refine ⟨?_, ?_, ?_, ?_, ?_, ?_, hxt, ?_, ?_, ?_, ?_, ?_, ?_, ?_, hcnt⟩
  · intro i p hp
    obtain ⟨p0, a1, a2, a3, a4, a5, -⟩ := key i p hp
    rw [a2, a3, a5]
    exact bl' (h.ords i p0 a1) (Or.inl rfl) (by decide)
  · intro i i' p p' hp hp' e
    obtain ⟨p0, a1, a2, -⟩ := key i p hp
    obtain ⟨p0', b1, b2, -⟩ := key i' p' hp'
    exact h.dup i i' p0 p0' a1 b1 (by rw [← a2, ← b2]; exact e)
  · have e6 : (ods.set j o').flatMap (fun o => [pt o.blk]) = ods.flatMap fun o => [pt o.blk] := by
      simp only [← List.map_eq_flatMap]
      rw [List.map_set]
      apply List.ext_getElem?
      intro i
      rw [List.getElem?_set]
      split
      · rename_i q; subst q
        have := (List.getElem?_eq_some_iff.1 hj).2
        simp [hl, this, e1]
      · rfl
    rw [e6, List.length_set]
    exact rl h.vor (Dis.symm (h.sv k s hs))
  · intro l t ht
    rcases skey l t ht with ⟨rfl, rfl⟩ | ⟨hne, ht'⟩
    · exact hr
    · have ho : o'.on l = o.on l := by
        have q1 : (o'.ch == l) = false := by rw [e5, hk]; exact beq_eq_false_iff_ne.2 fun e => hne e.symm
        have q2 : (o.ch == l) = false := by rw [hk]; exact beq_eq_false_iff_ne.2 fun e => hne e.symm
        simp [OrdD.on, q1, q2]
      rw [going_set ods j l o o' hj e1 ho, going_len_set ods j l o o' hj e1 ho]
      exact rl (h.so l t ht') (h.ss l k t s ht' hs hne)
  · intro i p e cc oc hp he
    obtain ⟨p0, a1, a2, a3, a4, a5, a6, a7, -⟩ := key i p hp
    rcases a7 with a7 | a7
    · obtain ⟨q1, q2, ⟨g, n, cap, q3, q3'⟩, q4⟩ := h.begs i p0 e cc oc a1 (by rw [← a7]; exact he)
      exact ⟨by rw [a4]; exact q1, q2, ⟨g, n, cap, q3, by rw [a6]; exact bl' q3' (Or.inr (Or.inr (Or.inl rfl))) (by decide)⟩, by rw [a2]; exact bl q4 (Or.inr (Or.inl rfl)) ((h.bo i p0 e cc oc a1 (by rw [← a7]; exact he)).1 k s hs)⟩
    · rw [a7] at he; cases he
  · intro i p e cc oc pc hp he
    obtain ⟨p0, a1, a2, a3, a4, a5, a6, -, a8, -⟩ := key i p hp
    rcases a8 with a8 | a8
    · obtain ⟨q1, q2, ⟨g, n, cap, q3, q3'⟩, q4, q5⟩ := h.fins i p0 e cc oc pc a1 (by rw [← a8]; exact he)
      exact ⟨by rw [a5]; exact q1, q2, ⟨g, n, cap, q3, by rw [a6]; exact bl' q3' (Or.inr (Or.inr (Or.inl rfl))) (by decide)⟩, by rw [a2]; exact bl q4 (Or.inr (Or.inl rfl)) ((h.fo i p0 e cc oc pc a1 (by rw [← a8]; exact he)).1 k s hs), bl' q5 (Or.inr (Or.inr (Or.inr rfl))) (by decide)⟩
    · rw [a8] at he; cases he
  · intro l l' t t' ht ht' hne
    rcases skey l t ht with ⟨rfl, rfl⟩ | ⟨h1, h2⟩
    · rcases skey l' t' ht' with ⟨rfl, -⟩ | ⟨h3, h4⟩
      · exact absurd rfl hne
      · intro x hx e
        rcases vnew x hx with q | q
        · exact h.ss l l' s t' hs h4 hne x q e
        · have := ((h.so l' t' h4).lt x e).2; omega
    · rcases skey l' t' ht' with ⟨rfl, rfl⟩ | ⟨h3, h4⟩
      · intro x hx e
        rcases vnew x e with q | q
        · exact h.ss l l' t s h2 hs hne x hx q
        · have := ((h.so l t h2).lt x hx).2; omega
      · exact h.ss l l' t t' h2 h4 hne
  · intro l t ht x hx e
    rcases skey l t ht with ⟨rfl, rfl⟩ | ⟨h1, h2⟩
    · rcases vnew x hx with q | q
      · exact h.sv l s hs x q e
      · have := (h.vor.lt x e).2; omega
    · exact h.sv l t h2 x hx e
  · intro i p e cc oc hp he
    obtain ⟨p0, a1, -, -, -, -, -, a7, -⟩ := key i p hp
    rcases a7 with a7 | a7
    · obtain ⟨q1, q2⟩ := h.bo i p0 e cc oc a1 (by rw [← a7]; exact he)
      have hlt := (h.begs i p0 e cc oc a1 (by rw [← a7]; exact he)).2.2.2.lt
      refine ⟨fun l t ht e' => ?_, q2⟩
      rcases skey l t ht with ⟨rfl, rfl⟩ | ⟨h1, h2⟩
      · rcases vnew oc e' with q | q
        · exact q1 l s hs q
        · omega
      · exact q1 l t h2 e'
    · rw [a7] at he; cases he
  · intro i p e cc oc pc hp he
    obtain ⟨p0, a1, -, -, -, -, -, -, a8, -⟩ := key i p hp
    rcases a8 with a8 | a8
    · obtain ⟨q1, q2⟩ := h.fo i p0 e cc oc pc a1 (by rw [← a8]; exact he)
      have hlt := (h.fins i p0 e cc oc pc a1 (by rw [← a8]; exact he)).2.2.2.1.lt
      refine ⟨fun l t ht e' => ?_, q2⟩
      rcases skey l t ht with ⟨rfl, rfl⟩ | ⟨h1, h2⟩
      · rcases vnew oc e' with q | q
        · exact q1 l s hs q
        · omega
      · exact q1 l t h2 e'
    · rw [a8] at he; cases he
  · intro i p hp
    obtain ⟨p0, a1, -, -, -, -, a6, -⟩ := key i p hp
    rw [a6, List.length_set]; exact h.chn i p0 a1
  · intro i p hp
    obtain ⟨p0, a1, -, -, -, -, -, -, -, a9⟩ := key i p hp
    exact a9
  · intro i p hp
    obtain ⟨p0, a1, -, -, a4, a5, -⟩ := key i p hp
    rw [a4, a5]; exact h.lt i p0 a1

end Go.Proofs.YtpilmkipbbengaaGreatDoor

/- The whole pump in memory; an order begins, is over, a rate ends: what the closures leave. -/
namespace Go.Proofs.YtpilmkipbbengaaGreatDoor
open Go.RowKit

def sosOf (chs : List GCh) : List Value := chs.map (·.so)

structure PAt (w : World) (b : Nat) (D : GSt) (vc vw : Value) (ods : List OrdD) : Prop where
  g : GAt w b D vc vw
  o : OAt w b vc (sosOf D.chs) D.vo D.xt D.nv ods

def PF (b : Nat) (D : GSt) (vc vw : Value) (ods : List OrdD) : Nat → Prop := fun x => GF b D vc vw x ∨ OF (sosOf D.chs) D.vo ods x

theorem GAt.tyF {w : World} {b : Nat} {D : GSt} {vc vw : Value} (h : GAt w b D vc vw) {x : Nat} (hx : GF b D vc vw x) : ∃ T, HasT w x T ∧ (GTy T ∨ T = 130) := by
  rcases hx with e | e | e | ⟨k, c, e, h1, h2⟩
  · obtain ⟨T, q1, q2⟩ := h.ty (Or.inl e); exact ⟨T, q1, Or.inl q2⟩
  · obtain ⟨T, q1, q2⟩ := h.ty (Or.inr (Or.inl e)); exact ⟨T, q1, Or.inl q2⟩
  · obtain ⟨T, q1, q2⟩ := h.ty (Or.inr (Or.inr e)); exact ⟨T, q1, Or.inl q2⟩
  · obtain ⟨-, g, n, cap, -, hb⟩ := h.ends k c e x h1 h2
    exact ⟨_, ⟨_, hb⟩, Or.inr rfl⟩

/-- what touches blocks of the orders' lists and of orders alone keeps the rest -/
theorem GAt.frmO {S : Nat → Prop} {w w' : World} {b : Nat} {D : GSt} {vc vw : Value} (h : GAt w b D vc vw) (f : Frm S w w') (hs : ∀ x, S x → HasT w x 149 ∨ HasT w x 148) : GAt w' b D vc vw :=
  h.frm f fun x hx e => by
    obtain ⟨T, q1, q2⟩ := h.tyF hx
    rcases hs x e with q | q
    · have := q1.uniq q
      subst this
      rcases q2 with q2 | q2
      · exact q2.no.2.1 rfl
      · revert q2; decide
    · have := q1.uniq q
      subst this
      rcases q2 with q2 | q2
      · exact q2.no.1 rfl
      · revert q2; decide

theorem PAt.lt {w : World} {b : Nat} {D : GSt} {vc vw : Value} {ods : List OrdD} (h : PAt w b D vc vw ods) : ∀ x, PF b D vc vw ods x → x < w.heap.size := by
  rintro x (e | e)
  · exact h.g.lt x e
  · obtain ⟨T, q, -⟩ := h.o.hasT e; exact q.lt

theorem OAt.frmF {S : Nat → Prop} {w w' : World} {b : Nat} {vc : Value} {sos : List Value} {vo : Value} {xt : List Ent} {nv : Int} {ods : List OrdD} (h : OAt w b vc sos vo xt nv ods) (f : Frm S w w') (hs : ∀ x, OF sos vo ods x → ¬ S x) : OAt w' b vc sos vo xt nv ods := by
  refine ⟨fun j o hj => (h.ords j o hj).frm f (hs _ (Or.inl ⟨j, o, hj, Or.inl rfl⟩)), h.dup, row_frm h.vor f fun g hg => hs g (Or.inr (Or.inl hg)), fun k s hk => row_frm (h.so k s hk) f fun g hg => hs g (Or.inr (Or.inr ⟨k, s, hk, hg⟩)), ?_, ?_, h.xtp, h.ss, h.sv, h.bo, h.fo, h.chn, h.bf, h.lt, h.cnt⟩
  · intro j o e cc oc hj he
    obtain ⟨q1, q2, ⟨g, n, cap, q3, q3'⟩, q4⟩ := h.begs j o e cc oc hj he
    exact ⟨q1, q2, ⟨g, n, cap, q3, q3'.frm f (hs _ (Or.inl ⟨j, o, hj, Or.inr (Or.inl ⟨e, cc, oc, he, Or.inl rfl⟩)⟩))⟩, q4.frm f (hs _ (Or.inl ⟨j, o, hj, Or.inr (Or.inl ⟨e, cc, oc, he, Or.inr rfl⟩)⟩))⟩
  · intro j o e cc oc pc hj he
    obtain ⟨q1, q2, ⟨g, n, cap, q3, q3'⟩, q4, q5⟩ := h.fins j o e cc oc pc hj he
    exact ⟨q1, q2, ⟨g, n, cap, q3, q3'.frm f (hs _ (Or.inl ⟨j, o, hj, Or.inr (Or.inr ⟨e, cc, oc, pc, he, Or.inl rfl⟩)⟩))⟩, q4.frm f (hs _ (Or.inl ⟨j, o, hj, Or.inr (Or.inr ⟨e, cc, oc, pc, he, Or.inr (Or.inl rfl)⟩)⟩)), q5.frm f (hs _ (Or.inl ⟨j, o, hj, Or.inr (Or.inr ⟨e, cc, oc, pc, he, Or.inr (Or.inr rfl)⟩)⟩))⟩

theorem PAt.frm {S : Nat → Prop} {w w' : World} {b : Nat} {D : GSt} {vc vw : Value} {ods : List OrdD} (h : PAt w b D vc vw ods) (f : Frm S w w') (hs : ∀ x, PF b D vc vw ods x → ¬ S x) : PAt w' b D vc vw ods :=
  ⟨h.g.frm f fun x hx => hs x (Or.inl hx), h.o.frmF f fun x hx => hs x (Or.inr hx)⟩
theorem PAt.keep {w w' : World} {b : Nat} {D : GSt} {vc vw : Value} {ods : List OrdD} (h : PAt w b D vc vw ods) (k : Keep w w') : PAt w' b D vc vw ods := h.frm k fun _ _ e => e

/-- a channel's cells -/
theorem GAt.chan {w : World} {b : Nat} {D : GSt} {vc vw : Value} (h : GAt w b D vc vw) {k : Nat} {c : GCh} (hk : D.chs[k]? = some c) :
    ∃ g cap, vc = .slice (some ⟨g, 0, none⟩) D.chs.length cap ∧ w.cell? ⟨g, k * 5, none⟩ = some (I c.rate) ∧ w.cell? ⟨g, k * 5 + 1, none⟩ = some (endV c.ent) ∧ w.cell? ⟨g, k * 5 + 2, none⟩ = some c.so ∧ w.cell? ⟨g, k * 5 + 3, none⟩ = some (.bool c.rests) ∧ w.cell? ⟨g, k * 5 + 4, none⟩ = some (I c.free) ∧
      (∀ i, w.frozen? ⟨g, i, none⟩ = false) ∧ HasT w g 127 := by
  obtain ⟨g, cap, hv, -, hcell, hfz⟩ := row_at h.chs (fun _ => rfl) hk (by decide)
  refine ⟨g, cap, hv, hcell 0 (by decide), hcell 1 (by decide), hcell 2 (by decide), hcell 3 (by decide), hcell 4 (by decide), hfz, row_ty h.chs (by rw [hv]; rfl)⟩

theorem sosOf_set (chs : List GCh) (k : Nat) (c : GCh) (v : Value) (_hk : chs[k]? = some c) : sosOf (chs.set k { c with so := v }) = (sosOf chs).set k v := by
  simp [sosOf, List.map_set]

theorem sosOf_same (chs : List GCh) (k : Nat) (c c' : GCh) (hk : chs[k]? = some c) (h : c'.so = c.so) : sosOf (chs.set k c') = sosOf chs := by
  simp only [sosOf, List.map_set, h]
  apply List.ext_getElem?
  intro i
  rw [List.getElem?_set]
  split
  · rename_i q; subst q
    have hl := (List.getElem?_eq_some_iff.1 hk).1
    have hv := (List.getElem?_eq_some_iff.1 hk).2
    simp [hl, hv]
  · rfl

theorem sosOf_get {chs : List GCh} {k : Nat} {c : GCh} (hk : chs[k]? = some c) : (sosOf chs)[k]? = some c.so := by simp [sosOf, hk]

/-- the list of a channel is another one: an order has turned -/
theorem PAt.turned {w w1 w' : World} {b : Nat} {D : GSt} {vc vw : Value} {ods : List OrdD} {xt0 : List Ent} {nv0 : Int} (hg : GAt w b D vc vw) (ho0 : OAt w b vc (sosOf D.chs) D.vo xt0 nv0 ods) {j k g cap : Nat} {o o' : OrdD} {c : GCh} {v' : Value} (hj : ods[j]? = some o) (hk : o.ch = k) (hc : D.chs[k]? = some c) (hv : vc = .slice (some ⟨g, 0, none⟩) D.chs.length cap)
    (e1 : o'.blk = o.blk) (e2 : o'.rest = o.rest) (e3 : o'.start = o.start) (e4 : o'.stop = o.stop) (e5 : o'.ch = o.ch) (hb : o'.beg = o.beg ∨ o'.beg = none) (hf : o'.fin = o.fin ∨ o'.fin = none) (hbf : o'.beg ≠ none → o'.fin ≠ none)
    (f : Frm (fun x => c.so.ownBlock = some x) w w1) (hr : w1.ownsRow 0 149 1 v' (going (ods.set j o') k).length ((going (ods.set j o') k).flatMap fun o => [pt o.blk])) (hn : v'.ownBlock = c.so.ownBlock ∨ ∃ q, v'.ownBlock = some q ∧ w.heap.size ≤ q) (hw : w' = w1.setCell ⟨g, k * 5 + 2, none⟩ v')
    {xt' : List Ent} {nv' : Int} (hxt : xt'.Perm (begsOf (ods.set j o') ++ finsOf (ods.set j o'))) (hcnt : nv' = ((finsOf (ods.set j o')).length : Int)) :
    GAt w' b { D with chs := D.chs.set k { c with so := v' } } vc vw ∧ OAt w' b vc (sosOf (D.chs.set k { c with so := v' })) D.vo xt' nv' (ods.set j o') ∧ Frm (fun x => c.so.ownBlock = some x ∨ CsF vc x) w w' := by
  have hs := sosOf_get hc
  have hso := ho0.so k c.so hs
  have g1 : GAt w1 b D vc vw := hg.frmO f fun x e => Or.inl (row_ty hso e)
  obtain ⟨q1, q2⟩ := g1.setCh hc hv (i := 2) (by decide) (c' := { c with so := v' }) rfl (u := v') rfl
  have hgt : HasT w g 127 := row_ty hg.chs (by rw [hv]; rfl)
  have f' : Frm (fun x => c.so.ownBlock = some x ∨ CsF vc x) w w' := by
    rw [hw]; exact (f.mono fun x _ e => Or.inl e).trans (q2.mono fun x _ e => Or.inr e)
  have hne : v'.ownBlock ≠ some g := by
    intro e
    rcases hn with e' | ⟨q, e', hq⟩
    · rw [e'] at e
      have := (row_ty hso e).uniq hgt
      revert this; decide
    · rw [e'] at e; injection e with e
      have := hgt.lt; omega
  refine ⟨by rw [hw]; exact q1, ?_, f'⟩
  rw [sosOf_set _ _ _ _ hc]
  refine ho0.turn hj hk hs e1 e2 e3 e4 e5 hb hf hbf f' ?_ ?_ hn hxt hcnt
  · intro x T hT ho hx
    rcases hx with e | e
    · exact e
    · have hgx : x = g := by
        have e' : vc.ownBlock = some x := e
        have : vc.ownBlock = some g := by rw [hv]; rfl
        rw [this] at e'; injection e' with e'; exact e'.symm
      subst hgx
      have := hT.uniq hgt
      subst this
      exfalso
      rcases ho with q | q | q | q <;> (revert q; decide)
  · rw [hw]
    exact row_frm hr q2 fun x hx e => by
      have e' : vc.ownBlock = some x := e
      have : vc.ownBlock = some g := by rw [hv]; rfl
      rw [this] at e'; injection e' with e'
      exact hne (by rw [e']; exact hx)

set_option maxRecDepth 100000 in
set_option maxHeartbeats 800000 in
theorem takeBegin_call (cc oc g o x : Nat) (w : World) (Q : Ending → World → Prop) (c1 : w.cell? ⟨cc, 0, none⟩ = some (ptr g o)) (c2 : w.cell? ⟨oc, 0, none⟩ = some (pt x)) (hc : Calls Tryz.prog 102 #[ptr g o, pt x] w fun e w' => e = .returned (.tuple #[]) ∧ Q e w') :
    Calls Tryz.prog 101 #[ptr cc 0, ptr oc 0] w fun e w' => e = .returned (.tuple #[]) ∧ Q e w' := by
  have C := hide hc
  clear hc
  go_enter Tryz.func101, Tryz.ntmps101
  go_wp2_with fail
  refine (C.out).mono ?_
  rintro e w1 ⟨rfl, hq⟩
  have F := hide hq
  clear hq
  go_wp2_with fail
  go_end0
  exact ⟨rfl, F.out⟩

set_option maxRecDepth 100000 in
set_option maxHeartbeats 800000 in
theorem takeEnd_call (cc oc pc g o x b : Nat) (w : World) (Q : World → Prop) (c1 : w.cell? ⟨cc, 0, none⟩ = some (ptr g o)) (c2 : w.cell? ⟨oc, 0, none⟩ = some (pt x))
    (hc : Calls Tryz.prog 104 #[ptr g o, pt x] w fun e w' => e = .returned (.tuple #[]) ∧ w'.cell? ⟨pc, 0, none⟩ = some (ptr b 0) ∧ ∃ nv : Int, 0 ≤ nv ∧ nv ≤ 10000 ∧ w'.cell? ⟨b, 7, none⟩ = some (I nv) ∧ w'.frozen? ⟨b, 7, none⟩ = false ∧ Q (w'.setCell ⟨b, 7, none⟩ (I (nv - 1)))) :
    Calls Tryz.prog 103 #[ptr cc 0, ptr oc 0, ptr pc 0] w fun e w' => e = .returned (.tuple #[]) ∧ Q w' := by
  have C := hide hc
  clear hc
  go_enter Tryz.func103, Tryz.ntmps103
  go_wp2_with fail
  refine (C.out).mono ?_
  rintro e w1 ⟨rfl, z1, nv, z2, z3, z4, z5, hq⟩
  have F := hide hq
  clear hq
  go_wp2_with fail
  go_end0
  exact ⟨rfl, F.out⟩

end Go.Proofs.YtpilmkipbbengaaGreatDoor
