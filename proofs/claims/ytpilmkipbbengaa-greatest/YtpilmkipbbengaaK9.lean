/- dripkeep: fresh, run. -/
import Derived.Test.YtpilmkipbbengaaK7
namespace Go.Proofs.Ytpilmkipbbengaa
open Go.RowKit

/-- a config of dripkeep, as config answers it -/
structure CfgAt (w : World) (v : Value) (lims : List Lim) (lock : Int) : Prop where
  row : w.ownsRow 0 63 3 v lims.length (lims.flatMap limC)
  ok : ∀ l ∈ lims, l.Ok ∧ l.ch ≤ 7
  nl : lims.length ≤ 4
  l0 : 0 ≤ lock
  l1 : lock ≤ 400

theorem CfgAt.keep {w w' : World} {v : Value} {lims : List Lim} {lock : Int} (h : CfgAt w v lims lock) (k : Keep w w') : CfgAt w' v lims lock := ⟨row_frm h.row k (fun _ _ e => e), h.ok, h.nl, h.l0, h.l1⟩

theorem CfgAt.fine {w : World} {v : Value} {lims : List Lim} {lock : Int} (h : CfgAt w v lims lock) : fineB 3 lims lock = true := by
  have h1 := h.nl
  have h2 := h.l0
  have h3 := h.l1
  simp only [fineB, Bool.and_eq_true, Bool.not_eq_true', List.all_eq_true]
  refine ⟨by simp [badHead]; omega, ?_⟩
  intro l hl
  obtain ⟨ho, h7⟩ := h.ok l hl
  obtain ⟨a1, a2, a3, a4, a5, a6⟩ := ho
  have hp : (2 : Int) ^ (3 : Int).toNat = 8 := rfl
  simp only [badLim, hp]
  simp
  omega

theorem CfgAt.see {w : World} {v : Value} {lims : List Lim} {lock : Int} (h : CfgAt w v lims lock) : ∃ a cap, v = .slice a lims.length cap ∧ SeeL w a lims ∧ (a = none → lims.length = 0 ∧ cap = 0) := by
  rcases h.row.2 with ⟨rfl, h2⟩ | ⟨g, cap, cur, rfl, r1, r2, r3⟩
  · have : lims = [] := List.eq_nil_of_length_eq_zero h2
    exact ⟨none, 0, by rw [h2], Or.inl this, fun _ => ⟨h2, rfl⟩⟩
  · refine ⟨some ⟨g, 0, none⟩, cap, rfl, Or.inr ⟨g, 0, rfl, (h.row.lt g rfl).2, ?_⟩, fun e => by cases e⟩
    intro i l hl
    obtain ⟨g', cap', e, -, hc, -⟩ := row_at h.row (fun _ => rfl) hl (by decide)
    injection e with e1 e2 e3
    injection e1 with e1
    injection e1 with e1
    subst e1
    have c0 := hc 0 (by decide)
    have c1 := hc 1 (by decide)
    have c2 := hc 2 (by decide)
    simp only [limC] at c0 c1 c2
    refine ⟨?_, ?_, ?_⟩
    · simpa using c0
    · simpa using c1
    · simpa using c2

theorem new_kok {lims : List Lim} {lock : Int} (h : fineB 3 lims lock = true) : KOk (rnew 3 lims lock) := by
  obtain ⟨o1, o2⟩ := knew_ok h
  have e : (3 : Int).toNat = 3 := rfl
  rw [e] at o1 o2
  exact ⟨o1, o2, told_new 3 lims lock fun l hl => (o1.lims l hl).cap0, by simp [rnew]⟩

section
variable {fBasal fRun fRoom fWait : FuncId} {pa : Rep}

set_option maxRecDepth 100000 in
set_option maxHeartbeats 1600000 in
theorem kfresh_any (P : Pumpy 24 fBasal fRun fRoom fWait pa) (B : Nat → Prop) (v : Value) (lims : List Lim) (lock : Int) (w : World) (hc : CfgAt w v lims lock) (hB : ∀ x, w.heap.size ≤ x → B x) :
    Calls Try.prog 17 #[.agg #[I 3, v, I lock]] w fun e w' => ∃ rb pb F, e = .returned (.pointer (some ⟨rb, 0, none⟩)) ∧ Keep w w' ∧ KAt pa B w' rb pb F (rnew 3 lims lock) v (.slice none 0 0) := by
  obtain ⟨a, cap, rfl, hs, hn⟩ := hc.see
  have hf := hc.fine
  have nl := hc.nl
  have NEW : Hid (Calls Try.prog 24 #[.agg #[I 3, .slice a lims.length cap, I lock]] (w.alloc (.cells #[I 3, .slice a lims.length cap, I lock] 29)) fun e w1 => ∃ pb, e = .returned (.tuple #[.pointer (some ⟨pb, 0, none⟩), I 0]) ∧ w1.cell? ⟨w.heap.size, 0, none⟩ = some (I 3) ∧ w1.cell? ⟨w.heap.size, 1, none⟩ = some (.slice a lims.length cap) ∧ w1.cell? ⟨w.heap.size, 2, none⟩ = some (I lock) ∧ Hid (Keep w w1 ∧ ∃ F, pa w1 F pb (rnew 3 lims lock) ∧ ∀ x, F x → w.heap.size ≤ x)) := by
    have kW : Keep w (w.alloc (.cells #[I 3, .slice a lims.length cap, I lock] 29)) := (Frm.refl _ _).alloc _
    have hs' := hs.frm kW (fun _ _ _ e => e)
    refine (P.new 3 a lims cap lock _ hs' hn (by omega)).mono ?_
    rintro e w1 ⟨k1, ⟨hx, -⟩ | ⟨-, b, F, rfl, hp, hF⟩⟩
    · rw [hf] at hx; cases hx
    · have bx := k1.blk (Blk.new w #[I 3, .slice a lims.length cap, I lock] 29)
      have sz := kW.size
      exact ⟨b, rfl, by rw [bx.cell]; rfl, by rw [bx.cell]; rfl, by rw [bx.cell]; rfl, kW.trans k1, F, hp, fun x hx => Nat.le_trans sz (hF x hx)⟩
  have FIN : Hid (∀ (w1 : World) (pb : Nat), Hid (Keep w w1 ∧ ∃ F, pa w1 F pb (rnew 3 lims lock) ∧ ∀ x, F x → w.heap.size ≤ x) → ∃ F, Keep w (w1.alloc (.cells #[.pointer (some ⟨pb, 0, none⟩), I 3, .slice a lims.length cap, I lock, .slice none 0 0, I 0, .bool false, .bool false, .bool false] 39)) ∧ KAt pa B (w1.alloc (.cells #[.pointer (some ⟨pb, 0, none⟩), I 3, .slice a lims.length cap, I lock, .slice none 0 0, I 0, .bool false, .bool false, .bool false] 39)) w1.heap.size pb F (rnew 3 lims lock) (.slice a lims.length cap) (.slice none 0 0)) := by
    intro w1 pb hh
    obtain ⟨k1, F, hp, hF⟩ := hh.out
    have ka : Keep w1 (w1.alloc (.cells #[.pointer (some ⟨pb, 0, none⟩), I 3, .slice a lims.length cap, I lock, .slice none 0 0, I 0, .bool false, .bool false, .bool false] 39)) := (Frm.refl _ _).alloc _
    have pl := P.lt hp
    have sz := k1.size
    refine ⟨F, k1.trans ka, ⟨Blk.new _ _ _, row_frm (row_frm hc.row k1 (fun _ _ e => e)) ka (fun _ _ e => e), World.ownsRow_nil ..⟩, P.frm hp ka fun _ _ e => e, ?_, ?_, ?_, hB _ (by omega), ?_, ?_⟩
    · intro e; have := pl _ e; omega
    · intro x _ e; simp [Value.ownBlock] at e
    · intro x hx e
      have := hF x hx
      have := (hc.row.lt x e).2
      omega
    · intro x hx; exact hB x (hF x hx)
    · intro x hx; simp [Value.ownBlock] at hx
  clear hc hs hn hf
  go_enter Try.func17, Try.ntmps17
  go_wp2_with fail
  refine (NEW.out).mono ?_
  rintro e w1 ⟨pb, rfl, c0, c1, c2, hh⟩
  go_wp2_with fail
  go_ret
  obtain ⟨F, h1, h2⟩ := FIN.out w1 pb hh
  exact ⟨_, pb, F, rfl, h1, h2⟩

end

end Go.Proofs.Ytpilmkipbbengaa
