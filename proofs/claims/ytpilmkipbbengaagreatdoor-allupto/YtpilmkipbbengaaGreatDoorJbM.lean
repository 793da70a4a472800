/- The library's functions at this program: as laid plainly. -/
import Derived.Shelf.Small.Wraps
import Derived.Shelf.Strings.BuilderK
import Derived.Shelf.Strconv.Itoa3
import Derived.Shelf.Strings.Cut
import Derived.Test.YtpilmkipbbengaaGreatDoorBase
import Derived.Test.YtpilmkipbbengaaGreatDoorJaM
namespace Go.Proofs.YtpilmkipbbengaaGreatDoor
open Go.Shelf

def sh169_ren : Go.Shelf.Ren := ⟨fun | 169 => 51 | n => n, fun | 70 => 104 | 9 => 9 | 0 => 0 | 72 => 107 | 37 => 105 | 127 => 150 | 3 => 3 | 5 => 5 | n => n, fun | n => n⟩
theorem sh169 : Go.Proofs.Lays.n169 Tryz.prog sh169_ren := {
  mixed := by kernel_rfl
  f169 := Tryz.func51.trans (congrArg some (by kernel_rfl))
  t0 := Tryz.underlying0
  a0 := Tryz.isAgg0
  z0 := Tryz.sizeOf0
  v0 := Tryz.zeroValue0
  t3 := Tryz.underlying3
  a3 := Tryz.isAgg3
  z3 := Tryz.sizeOf3
  v3 := Tryz.zeroValue3
  t9 := Tryz.underlying9
  a9 := Tryz.isAgg9
  z9 := Tryz.sizeOf9
  v9 := Tryz.zeroValue9
  t37 := Tryz.underlying105
  a37 := Tryz.isAgg105
  z37 := Tryz.sizeOf105
  v37 := Tryz.zeroValue105
  t70 := Tryz.underlying104
  a70 := Tryz.isAgg104
  z70 := Tryz.sizeOf104
  v70 := Tryz.zeroValue104
  t72 := Tryz.underlying107
  a72 := Tryz.isAgg107
  z72 := Tryz.sizeOf107
  v72 := Tryz.zeroValue107
  t127 := Tryz.underlying150
  a127 := Tryz.isAgg150
  z127 := Tryz.sizeOf150
  v127 := Tryz.zeroValue150 }
theorem shExtra169 : Builder.Extra Tryz.prog sh169_ren := {
  sizeBuilder := by kernel_rfl
  liesBuilder := by kernel_rfl
  t5 := Tryz.underlying5
  a5 := Tryz.isAgg5
  z5 := Tryz.sizeOf5
  v5 := Tryz.zeroValue5
  infoByte := by kernel_rfl
  cellsByte := by kernel_rfl
  sizeByte := by kernel_rfl
  neB5 := by decide }
def sh103_ren : Go.Shelf.Ren := ⟨fun | 103 => 94 | 210 => 119 | 206 => 142 | n => n, fun | 9 => 9 | 4 => 4 | 24 => 154 | 3 => 3 | n => n, fun | n => n⟩
theorem sh103 : Go.Proofs.Lays.n103 Tryz.prog sh103_ren := {
  mixed := by kernel_rfl
  f103 := Tryz.func94.trans (congrArg some (by kernel_rfl))
  f206 := Tryz.func142.trans (congrArg some (by kernel_rfl))
  f210 := Tryz.func119.trans (congrArg some (by kernel_rfl))
  t3 := Tryz.underlying3
  a3 := Tryz.isAgg3
  z3 := Tryz.sizeOf3
  v3 := Tryz.zeroValue3
  t4 := Tryz.underlying4
  a4 := Tryz.isAgg4
  z4 := Tryz.sizeOf4
  v4 := Tryz.zeroValue4
  t9 := Tryz.underlying9
  a9 := Tryz.isAgg9
  z9 := Tryz.sizeOf9
  v9 := Tryz.zeroValue9
  t24 := Tryz.underlying154
  a24 := Tryz.isAgg154
  z24 := Tryz.sizeOf154
  v24 := Tryz.zeroValue154 }
def shM171_ren : Go.Shelf.Ren := ⟨fun | 171 => 50 | 243 => 91 | 246 => 117 | 283 => 134 | 284 => 135 | 285 => 136 | 286 => 137 | 129 => 147 | 317 => 146 | 318 => 148 | 319 => 149 | 320 => 150 | 337 => 154 | 338 => 155 | n => n, fun | 3 => 3 | 9 => 9 | 2 => 2 | 4 => 4 | 171 => 191 | 0 => 0 | 53 => 192 | 37 => 105 | 5 => 5 | 173 => 195 | 212 => 204 | 51 => 205 | 20 => 20 | 213 => 206 | 46 => 198 | 232 => 212 | 233 => 213 | n => n, fun | 17 => 1 | 18 => 2 | 19 => 3 | n => n⟩
theorem shM171 : Go.Proofs.LaysM.n171 Tryz.prog shM171_ren := {
  mixed := by kernel_rfl
  f129 := Tryz.func147.trans (congrArg some (by kernel_rfl))
  f171 := Tryz.func50.trans (congrArg some (by kernel_rfl))
  f243 := Tryz.func91.trans (congrArg some (by kernel_rfl))
  f246 := Tryz.func117.trans (congrArg some (by kernel_rfl))
  f283 := Tryz.func134.trans (congrArg some (by kernel_rfl))
  f284 := Tryz.func135.trans (congrArg some (by kernel_rfl))
  f285 := Tryz.func136.trans (congrArg some (by kernel_rfl))
  f286 := Tryz.func137.trans (congrArg some (by kernel_rfl))
  f317 := Tryz.func146.trans (congrArg some (by kernel_rfl))
  f318 := Tryz.func148.trans (congrArg some (by kernel_rfl))
  f319 := Tryz.func149.trans (congrArg some (by kernel_rfl))
  f320 := Tryz.func150.trans (congrArg some (by kernel_rfl))
  f337 := Tryz.func154.trans (congrArg some (by kernel_rfl))
  f338 := Tryz.func155.trans (congrArg some (by kernel_rfl))
  t0 := Tryz.underlying0
  a0 := Tryz.isAgg0
  z0 := Tryz.sizeOf0
  v0 := Tryz.zeroValue0
  t2 := Tryz.underlying2
  a2 := Tryz.isAgg2
  z2 := Tryz.sizeOf2
  v2 := Tryz.zeroValue2
  t3 := Tryz.underlying3
  a3 := Tryz.isAgg3
  z3 := Tryz.sizeOf3
  v3 := Tryz.zeroValue3
  t4 := Tryz.underlying4
  a4 := Tryz.isAgg4
  z4 := Tryz.sizeOf4
  v4 := Tryz.zeroValue4
  t5 := Tryz.underlying5
  a5 := Tryz.isAgg5
  z5 := Tryz.sizeOf5
  v5 := Tryz.zeroValue5
  t9 := Tryz.underlying9
  a9 := Tryz.isAgg9
  z9 := Tryz.sizeOf9
  v9 := Tryz.zeroValue9
  t20 := Tryz.underlying20
  a20 := Tryz.isAgg20
  z20 := Tryz.sizeOf20
  v20 := Tryz.zeroValue20
  t37 := Tryz.underlying105
  a37 := Tryz.isAgg105
  z37 := Tryz.sizeOf105
  v37 := Tryz.zeroValue105
  t46 := Tryz.underlying198
  a46 := Tryz.isAgg198
  z46 := Tryz.sizeOf198
  v46 := Tryz.zeroValue198
  t51 := Tryz.underlying205
  a51 := Tryz.isAgg205
  z51 := Tryz.sizeOf205
  v51 := Tryz.zeroValue205
  t53 := Tryz.underlying192
  a53 := Tryz.isAgg192
  z53 := Tryz.sizeOf192
  v53 := Tryz.zeroValue192
  t171 := Tryz.underlying191
  a171 := Tryz.isAgg191
  z171 := Tryz.sizeOf191
  v171 := Tryz.zeroValue191
  t173 := Tryz.underlying195
  a173 := Tryz.isAgg195
  z173 := Tryz.sizeOf195
  v173 := Tryz.zeroValue195
  t212 := Tryz.underlying204
  a212 := Tryz.isAgg204
  z212 := Tryz.sizeOf204
  v212 := Tryz.zeroValue204
  t213 := Tryz.underlying206
  a213 := Tryz.isAgg206
  z213 := Tryz.sizeOf206
  t232 := Tryz.underlying212
  a232 := Tryz.isAgg212
  z232 := Tryz.sizeOf212
  v232 := Tryz.zeroValue212
  t233 := Tryz.underlying213
  a233 := Tryz.isAgg213
  z233 := Tryz.sizeOf213
  v233 := Tryz.zeroValue213
  g17 := by kernel_rfl
  g18 := by kernel_rfl
  g19 := by kernel_rfl
  i0 := by kernel_rfl
  i2 := by kernel_rfl
  i3 := by kernel_rfl
  i4 := by kernel_rfl
  i5 := by kernel_rfl
  i9 := by kernel_rfl
  i20 := by kernel_rfl
  i37 := by kernel_rfl
  i46 := by kernel_rfl
  i51 := by kernel_rfl
  i53 := by kernel_rfl
  i171 := by kernel_rfl
  i173 := by kernel_rfl
  i212 := by kernel_rfl
  i232 := by kernel_rfl
  i233 := by kernel_rfl
  m17 := by kernel_rfl
  m18 := by kernel_rfl
  m19 := by kernel_rfl }
def sh145_ren : Go.Shelf.Ren := ⟨fun | 145 => 54 | 220 => 93 | 219 => 118 | 217 => 138 | 225 => 139 | 224 => 140 | 267 => 141 | 266 => 151 | 314 => 152 | n => n, fun | 9 => 9 | 4 => 4 | 59 => 116 | 3 => 3 | 5 => 5 | 46 => 198 | 146 => 208 | 51 => 205 | n => n, fun | 1 => 0 | n => n⟩
theorem sh145 : Go.Proofs.Lays.n145 Tryz.prog sh145_ren := {
  mixed := by kernel_rfl
  f145 := Tryz.func54.trans (congrArg some (by kernel_rfl))
  f217 := Tryz.func138.trans (congrArg some (by kernel_rfl))
  f219 := Tryz.func118.trans (congrArg some (by kernel_rfl))
  f220 := Tryz.func93.trans (congrArg some (by kernel_rfl))
  f224 := Tryz.func140.trans (congrArg some (by kernel_rfl))
  f225 := Tryz.func139.trans (congrArg some (by kernel_rfl))
  f266 := Tryz.func151.trans (congrArg some (by kernel_rfl))
  f267 := Tryz.func141.trans (congrArg some (by kernel_rfl))
  f314 := Tryz.func152.trans (congrArg some (by kernel_rfl))
  t3 := Tryz.underlying3
  a3 := Tryz.isAgg3
  z3 := Tryz.sizeOf3
  v3 := Tryz.zeroValue3
  t4 := Tryz.underlying4
  a4 := Tryz.isAgg4
  z4 := Tryz.sizeOf4
  v4 := Tryz.zeroValue4
  t5 := Tryz.underlying5
  a5 := Tryz.isAgg5
  z5 := Tryz.sizeOf5
  v5 := Tryz.zeroValue5
  t9 := Tryz.underlying9
  a9 := Tryz.isAgg9
  z9 := Tryz.sizeOf9
  v9 := Tryz.zeroValue9
  t46 := Tryz.underlying198
  a46 := Tryz.isAgg198
  z46 := Tryz.sizeOf198
  v46 := Tryz.zeroValue198
  t51 := Tryz.underlying205
  a51 := Tryz.isAgg205
  z51 := Tryz.sizeOf205
  v51 := Tryz.zeroValue205
  t59 := Tryz.underlying116
  a59 := Tryz.isAgg116
  z59 := Tryz.sizeOf116
  v59 := Tryz.zeroValue116
  t146 := Tryz.underlying208
  a146 := Tryz.isAgg208
  z146 := Tryz.sizeOf208
  v146 := Tryz.zeroValue208
  g1 := by kernel_rfl }
def sh219_ren : Go.Shelf.Ren := ⟨fun | 219 => 118 | 217 => 138 | 225 => 139 | 224 => 140 | 267 => 141 | 266 => 151 | 314 => 152 | n => n, fun | 9 => 9 | 3 => 3 | 4 => 4 | 5 => 5 | 46 => 198 | 146 => 208 | 51 => 205 | n => n, fun | 1 => 0 | n => n⟩
theorem sh219 : Go.Proofs.Lays.n219 Tryz.prog sh219_ren := {
  mixed := by kernel_rfl
  f217 := Tryz.func138.trans (congrArg some (by kernel_rfl))
  f219 := Tryz.func118.trans (congrArg some (by kernel_rfl))
  f224 := Tryz.func140.trans (congrArg some (by kernel_rfl))
  f225 := Tryz.func139.trans (congrArg some (by kernel_rfl))
  f266 := Tryz.func151.trans (congrArg some (by kernel_rfl))
  f267 := Tryz.func141.trans (congrArg some (by kernel_rfl))
  f314 := Tryz.func152.trans (congrArg some (by kernel_rfl))
  t3 := Tryz.underlying3
  a3 := Tryz.isAgg3
  z3 := Tryz.sizeOf3
  v3 := Tryz.zeroValue3
  t4 := Tryz.underlying4
  a4 := Tryz.isAgg4
  z4 := Tryz.sizeOf4
  v4 := Tryz.zeroValue4
  t5 := Tryz.underlying5
  a5 := Tryz.isAgg5
  z5 := Tryz.sizeOf5
  v5 := Tryz.zeroValue5
  t9 := Tryz.underlying9
  a9 := Tryz.isAgg9
  z9 := Tryz.sizeOf9
  v9 := Tryz.zeroValue9
  t46 := Tryz.underlying198
  a46 := Tryz.isAgg198
  z46 := Tryz.sizeOf198
  v46 := Tryz.zeroValue198
  t51 := Tryz.underlying205
  a51 := Tryz.isAgg205
  z51 := Tryz.sizeOf205
  v51 := Tryz.zeroValue205
  t146 := Tryz.underlying208
  a146 := Tryz.isAgg208
  z146 := Tryz.sizeOf208
  v146 := Tryz.zeroValue208
  g1 := by kernel_rfl }

end Go.Proofs.YtpilmkipbbengaaGreatDoor

/- strings.Cut, CutPrefix, strconv.Itoa, strings.Builder: as the program calls them. -/
namespace Go.Proofs.YtpilmkipbbengaaGreatDoor
open Go.Shelf Go.RowKit Go.Lib

theorem wrap_id2 (x : Int) (h0 : -9000000000000000000 ≤ x) (h1 : x ≤ 9000000000000000000) : IntKind.i64.wrap x = x := by
  rw [IntKind.wrap_i64]
  omega

/-- the name of the table that Itoa reads -/
noncomputable def tabN : String := ((Tryz.prog.globals[1]?).map (·.name)).getD ""

/-- the variables of the library that are read -/
structure Tab (w : World) : Prop where
  max : ∃ m, w.cell? ⟨0, 0, none⟩ = some (.int .i64 m)
  pow : Lib.TabIs Tryz.prog w tabN .u64 Lib.pow10Tab
  two : 2 ≤ w.heap.size

theorem tab_cast {w : World} {a b : String} (h : Lib.TabIs Tryz.prog w a .u64 Lib.pow10Tab) (e : a = b) : Lib.TabIs Tryz.prog w b .u64 Lib.pow10Tab := e ▸ h

theorem Tab.frm {S : Nat → Prop} {w w' : World} (h : Tab w) (f : Frm S w w') (h0 : ¬ S 0) (h1 : ¬ S 1) : Tab w' := by
  obtain ⟨⟨m, hm⟩, hp, h2⟩ := h
  refine ⟨⟨m, f.cell hm h0⟩, ?_, Nat.le_trans h2 f.size⟩
  have hb := f.block 1 (by omega) h1
  have hg : Tryz.prog.globalNamed tabN = some 1 := by kernel_rfl
  unfold Lib.TabIs World.var? at hp ⊢
  rw [hg] at hp ⊢
  simp only [Option.bind_some] at hp ⊢
  rw [hb]
  exact hp

theorem Tab.keep {w w' : World} (h : Tab w) (k : Keep w w') : Tab w' := h.frm k (fun e => e) (fun e => e)

theorem keep_grow (w : World) (k : Nat) (os : Array Obj) : Keep w (Sort.grow (w.drewN k) os) := by
  refine ⟨rfl, rfl, rfl, ?_, ?_⟩
  · simp [Sort.grow, World.drewN]
  · intro i hi _
    show (w.heap ++ os)[i]? = w.heap[i]?
    exact Array.getElem?_append_left hi

theorem itoa_any (n : Nat) (h : n ≤ 1000000) (w : World) (t : Tab w) : Calls Tryz.prog 50 #[I n] w fun e w' => e = .returned (.string ⟨(decDigits n).toArray⟩) ∧ Keep w w' := by
  refine (Any.strconv_Itoa shM171 n (by omega) (by omega) w (tab_cast t.pow (by kernel_rfl))).mono ?_
  rintro e w' ⟨rfl, k, os, rfl⟩
  exact ⟨rfl, keep_grow w k os⟩

/-- what Cut answers -/
def cutV (c : UInt8) (s : List UInt8) : List UInt8 × List UInt8 × Bool := match jcut c s with
  | some p => (p.1, p.2, true)
  | none => (s, [], false)

theorem index_jcut (c : UInt8) : ∀ s : List UInt8, match jcut c s with
    | some p => index s [c] = p.1.length
    | none => index s [c] = -1 := by
  intro s
  induction s with
  | nil => rfl
  | cons b s ih =>
    simp only [jcut]
    split
    · rename_i e
      split at e
      · rename_i hb
        injection e with e
        subst e; subst hb
        simp [index]
      · rename_i hb
        have hc : ¬ c = b := fun h => hb h.symm
        cases hj : jcut c s with
        | none => rw [hj] at e; cases e
        | some q =>
          rw [hj] at e ih
          injection e with e
          subst e
          simp only [index, List.isPrefixOf, beq_iff_eq, hc, if_false, Bool.and_true]
          simp only at ih
          rw [ih]
          simp
    · rename_i e
      split at e
      · cases e
      · rename_i hb
        have hc : ¬ c = b := fun h => hb h.symm
        cases hj : jcut c s with
        | some q => rw [hj] at e; cases e
        | none =>
          rw [hj] at ih
          simp only at ih
          simp [index, List.isPrefixOf, hc, ih]

theorem cut_jcut (c : UInt8) (s : List UInt8) : Lib.cut s [c] = cutV c s := by
  have h := index_jcut c s
  unfold Lib.cut cutV
  cases hj : jcut c s with
  | none =>
    rw [hj] at h
    simp only at h
    rw [h]
    simp
  | some p =>
    rw [hj] at h
    simp only at h
    rw [h]
    obtain ⟨e, -⟩ := jcut_eq (a := p.1) (r := p.2) hj
    simp only [Int.toNat_natCast]
    rw [if_pos (by omega)]
    rw [e]
    simp

set_option maxRecDepth 100000 in
set_option maxHeartbeats 1600000 in
theorem slcut_any (s : List UInt8) (c : UInt8) (w : World) (hs : s.length ≤ 4000000000000000000) : Calls Tryz.prog 93 #[.string ⟨s.toArray⟩, .string ⟨#[c]⟩] w fun e w' => e = .returned (.tuple #[.string ⟨(cutV c s).1.toArray⟩, .string ⟨(cutV c s).2.1.toArray⟩, .bool (cutV c s).2.2]) ∧ ∃ n, w' = w.drewN n := by
  have hi := index_jcut c s
  have IX : Hid (Calls Tryz.prog 118 #[.string ⟨s.toArray⟩, .string ⟨#[c]⟩] w fun e w' => e = .returned (I (index s [c])) ∧ w' = w) := by
    have := Any.stringslite_Index_one sh219 ⟨s.toArray⟩ c w
    rw [← Lib.index_one] at this
    exact this
  cases hj : jcut c s with
  | none =>
    rw [hj] at hi
    have hi : index s [c] = -1 := hi
    have hc : cutV c s = (s, [], false) := by unfold cutV; rw [hj]
    rw [hi] at IX
    rw [hc]
    clear hc hi hj
    go_enter Tryz.func93, Tryz.ntmps93
    go_wp2_with fail
    refine (IX.out).mono ?_
    rintro e w' ⟨rfl, hw⟩
    subst hw
    go_wp2_with fail
    go_ret3
    exact ⟨rfl, 0, rfl⟩
  | some p =>
    rw [hj] at hi
    have hi : index s [c] = p.1.length := hi
    have hc : cutV c s = (p.1, p.2, true) := by unfold cutV; rw [hj]
    obtain ⟨e0, -⟩ := jcut_eq (a := p.1) (r := p.2) hj
    have hlen : s.length = p.1.length + 1 + p.2.length := by rw [e0]; simp; omega
    have e1 : ({ data := s.toArray } : ByteArray).extract 0 p.1.length = ⟨p.1.toArray⟩ := by
      apply ByteArray.ext
      rw [e0]
      simp [ByteArray.data_extract]
    have e2 : ({ data := s.toArray } : ByteArray).extract (p.1.length + 1) s.length = ⟨p.2.toArray⟩ := by
      apply ByteArray.ext
      rw [hlen, e0]
      simp [ByteArray.data_extract]
    rw [hi] at IX
    rw [hc]
    have b1 : (0 : Int) ≤ (p.1.length : Int) := by omega
    have b2 : (p.1.length : Int) ≤ (s.length : Int) := by omega
    have b3 : (0 : Int) ≤ (p.1.length : Int) + 1 := by omega
    have b4 : (p.1.length : Int) + 1 ≤ (s.length : Int) := by omega
    have b5 : IntKind.i64.wrap ((p.1.length : Int) + 1) = (p.1.length : Int) + 1 := wrap_id2 _ (by omega) (by omega)
    clear hc hi hj e0 hlen
    generalize p.1 = a at *
    generalize p.2 = r at *
    go_enter Tryz.func93, Tryz.ntmps93
    go_wp2_with fail
    refine (IX.out).mono ?_
    rintro e w' ⟨rfl, hw⟩
    subst hw
    go_wp2_with fail
    go_quiet (fail)
    go_wp2_with fail
    go_ret3
    exact ⟨rfl, _, rfl⟩

set_option maxRecDepth 100000 in
set_option maxHeartbeats 800000 in
theorem scut_any (s : List UInt8) (c : UInt8) (w : World) (hs : s.length ≤ 4000000000000000000) : Calls Tryz.prog 54 #[.string ⟨s.toArray⟩, .string ⟨#[c]⟩] w fun e w' => e = .returned (.tuple #[.string ⟨(cutV c s).1.toArray⟩, .string ⟨(cutV c s).2.1.toArray⟩, .bool (cutV c s).2.2]) ∧ ∃ n, w' = w.drewN n := by
  have C := hide (slcut_any s c w hs)
  generalize (cutV c s).1 = x at *
  generalize (cutV c s).2.1 = y at *
  generalize (cutV c s).2.2 = z at *
  go_enter Tryz.func54, Tryz.ntmps54
  go_wp2_with fail
  refine (C.out).mono ?_
  rintro e w' ⟨rfl, n, rfl⟩
  go_wp2_with fail
  go_ret3
  exact ⟨rfl, n, rfl⟩

theorem scutPrefix_any (s : List UInt8) (w : World) : Calls Tryz.prog 94 #[.string ⟨s.toArray⟩, .string ⟨#[61, 32]⟩] w fun e w' => e = .returned (.tuple #[.string ⟨(if s.take 2 = [61, 32] then s.drop 2 else s).toArray⟩, .bool (decide (s.take 2 = [61, 32]))]) ∧ w' = w := by
  have h := Any.strings_CutPrefix sh103 ⟨s.toArray⟩ ⟨#[61, 32]⟩ w
  have e : Lib.hasPrefix s [61, 32] = decide (s.take 2 = [61, 32]) := by
    unfold Lib.hasPrefix
    rw [Bool.eq_iff_iff]
    simp only [List.isPrefixOf_iff_prefix, decide_eq_true_eq]
    rw [List.prefix_iff_eq_take]
    exact ⟨fun h => h.symm, fun h => h.symm⟩
  have e2 : Lib.trimPrefix s [61, 32] = if s.take 2 = [61, 32] then s.drop 2 else s := by
    unfold Lib.trimPrefix
    rw [e]
    simp
  rw [← e, ← e2]
  exact h

end Go.Proofs.YtpilmkipbbengaaGreatDoor

/- strings.Builder: WriteString. -/
namespace Go.Proofs.YtpilmkipbbengaaGreatDoor
open Go.Shelf Go.RowKit Go.Lib

theorem sizeBld : (Tryz.prog.info? 107).map (·.size) = some 2 := by kernel_rfl
theorem liesBld : liesAt Tryz.prog Tryz.prog.depth 107 (2 / Tryz.prog.cellsOf 107) 0 107 1 = true := by kernel_rfl
theorem infoU8 : (Tryz.prog.info? 5).map (fun i => (i.zero, i.size, i.bytes)) = some (some (.int .u8 0), 1, 1) := by kernel_rfl

set_option maxRecDepth 100000 in
set_option maxHeartbeats 1000000 in
theorem copyCheck_used (b : Nat) (w : World) (h0 : w.cell? ⟨b, 0, none⟩ = some (.pointer (some ⟨b, 0, none⟩))) :
    Calls Tryz.prog 90 #[.pointer (some ⟨b, 0, none⟩)] w fun e w' => e = .returned (.tuple #[]) ∧ w' = w := by
  obtain ⟨j, hj, _⟩ := Option.map_eq_some_iff.1 sizeBld
  go_enter Tryz.func90, Tryz.ntmps90
  go_wp2_with fail
  rw [Lib.run_neq_ptr_same w _ Tryz.underlying104 hj]
  go_wp2_with fail
  go_end0
  exact ⟨rfl, rfl⟩

set_option maxRecDepth 100000 in
set_option maxHeartbeats 1000000 in
theorem copyCheck_fresh (b : Nat) (w : World) (h0 : w.cell? ⟨b, 0, none⟩ = some (.pointer none)) (hsh : w.shape? b = some (107, 2)) (hfz : w.frozen? ⟨b, 0, none⟩ = false) :
    Calls Tryz.prog 90 #[.pointer (some ⟨b, 0, none⟩)] w fun e w' => e = .returned (.tuple #[]) ∧ w' = w.setCell ⟨b, 0, none⟩ (.pointer (some ⟨b, 0, none⟩)) := by
  obtain ⟨j, hj, hjs⟩ := Option.map_eq_some_iff.1 sizeBld
  go_enter Tryz.func90, Tryz.ntmps90
  go_wp2_with fail
  rw [Lib.run_to_unsafe w ⟨b, 0, none⟩ Tryz.underlying104 Tryz.underlying172 hj (by rw [hjs]; decide) hsh (Nat.zero_lt_succ 1)]
  simp only [Result.andThen]
  rw [Oper.upon_value]
  go_wp2_with fail
  rw [run_callFunc_extern Tryz.func116 (by kernel_rfl) (by kernel_rfl) (by kernel_rfl) (e := Extern.AbiNoEscape.same) (by kernel_rfl)]
  rw [Lib.run_noEscape]
  simp only [Result.andThen]
  rw [Oper.upon_value]
  go_wp2_with fail
  rw [Lib.run_from_unsafe w ⟨b, 0, none⟩ Tryz.underlying172 Tryz.underlying104 hj hsh liesBld]
  simp only [Result.andThen]
  rw [Oper.upon_value]
  go_wp2_with fail
  go_end0
  exact ⟨rfl, rfl⟩

theorem copyCheck_any (B b : Nat) (bs : List Value) (w : World) (h : Lib.IsBuilder 107 5 B b bs w) :
    Calls Tryz.prog 90 #[.pointer (some ⟨b, 0, none⟩)] w fun e w' => e = .returned (.tuple #[]) ∧ (Lib.BuilderAt 107 5 B b (.pointer (some ⟨b, 0, none⟩)) bs w' ∧ Below B w w') := by
  rcases h with h | h
  · refine (copyCheck_fresh b w h.cell0 h.shape (Lib.frozen_of_heap h.2.choose_spec.1 0)).mono ?_
    rintro e w' ⟨rfl, rfl⟩
    exact ⟨rfl, h.used _, (Below.refl B w).setCell (p := ⟨b, 0, none⟩) h.1 _⟩
  · refine (copyCheck_used b w h.cell0).mono ?_
    rintro e w' ⟨rfl, rfl⟩
    exact ⟨rfl, h, Below.refl B _⟩

set_option maxHeartbeats 2000000 in
set_option maxRecDepth 100000 in
theorem writeString_any (B b : Nat) (bs : List Value) (s : ByteArray) (w : World) (h : Lib.IsBuilder 107 5 B b bs w) (hlen : bs.length + s.size ≤ 140737488355328) (hBw : B ≤ w.heap.size) :
    Calls Tryz.prog 48 #[.pointer (some ⟨b, 0, none⟩), .string s] w fun e w' => e = .returned (.tuple #[.int .i64 s.size, .nilIface]) ∧ (Lib.BuilderAt 107 5 B b (.pointer (some ⟨b, 0, none⟩)) (bs ++ Lib.strCells s) w' ∧ Below B w w') := by
  obtain ⟨i0, hi, hz0, hz1, hz2⟩ := info_parts infoU8
  have CC := hide (copyCheck_any B b bs w h)
  clear h
  go_enter Tryz.func48, Tryz.ntmps48
  go_wp2_with fail
  refine (CC.out).mono ?_
  rintro e w1 ⟨rfl, h1, hb1⟩
  obtain ⟨hB, v, hbk, hown, hne⟩ := h1
  have c0 : w1.cell? ⟨b, 0, none⟩ = some (.pointer (some ⟨b, 0, none⟩)) := by rw [Lib.cell_of_heap hbk]; rfl
  have c1 : w1.cell? ⟨b, 1, none⟩ = some v := by rw [Lib.cell_of_heap hbk]; rfl
  go_wp2_with (at_builtin; refine Lib.wpList_append_own_string _ rfl _ _ 105 9 rfl B 5 i0 Tryz.underlying105 Tryz.underlying9 hi hz0 hz1 hz2 _ _ _ rfl hown s rfl ?c3 ?c4 ?c5 ?_)
  case c3 => unfold maxLen; omega
  case c4 => omega
  case c5 => have := hb1.size; omega
  intro v' w2 hown' hgrow _
  have hlt : b < w1.heap.size := by
    rcases Nat.lt_or_ge b w1.heap.size with h' | h'
    · exact h'
    · simp [Array.getElem?_eq_none h'] at hbk
  have hb2 : w2.heap[b]? = some (.cells #[.pointer (some ⟨b, 0, none⟩), v] 107 (0, 0)) := by
    rw [hgrow.block b hlt (fun e => hne e.symm)]
    exact hbk
  have d0 : w2.cell? ⟨b, 0, none⟩ = some (.pointer (some ⟨b, 0, none⟩)) := by rw [Lib.cell_of_heap hb2]; rfl
  have d1 : w2.cell? ⟨b, 1, none⟩ = some v := by rw [Lib.cell_of_heap hb2]; rfl
  have f1 : w2.frozen? ⟨b, 1, none⟩ = false := Lib.frozen_of_heap hb2 1
  obtain ⟨ao, n', cap, rfl⟩ : ∃ ao n' cap, v' = .slice ao n' cap := by
    rcases hown'.2 with ⟨hv, _⟩ | ⟨g, cap, cur, hv, _⟩
    · exact ⟨_, _, _, hv⟩
    · exact ⟨_, _, _, hv⟩
  go_wp2_with fail
  go_ret2
  refine ⟨rfl, ?_, ?_⟩
  · exact Lib.BuilderAt.put (T := 107) (e := 5) hB hb2 (bs' := bs ++ Lib.strCells s) (by simpa [Lib.strCells_length] using hown') (by decide)
  · exact (hb1.grown hgrow (by have := hb1.size; omega) (fun k hk => (hown.lt k hk).1)).setCell (p := ⟨b, 1, none⟩) hB _

theorem bString_any (B b : Nat) (l : List UInt8) (w : World) (h : Lib.IsBuilder 107 5 B b (Lib.byteCells l) w) (h0 : l ≠ []) :
    Calls Tryz.prog 51 #[.pointer (some ⟨b, 0, none⟩)] w fun e w' => e = .returned (.string ⟨l.toArray⟩) ∧ Below B w w' := Any.Builder_String sh169 shExtra169 B b l w h h0

end Go.Proofs.YtpilmkipbbengaaGreatDoor
