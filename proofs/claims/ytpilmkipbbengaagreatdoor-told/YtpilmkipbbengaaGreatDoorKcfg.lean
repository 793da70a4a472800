/- dripkeep: what config answers. -/
import Derived.Test.YtpilmkipbbengaaGreatDoorKbM
namespace Go.Proofs.YtpilmkipbbengaaGreatDoor
open Go.RowKit

/-- a limit, folded -/
def foldL (x : Lim) : Lim := ⟨1 + pk x.ch 7, 1 + pk x.win 12, pk x.cap 41⟩
theorem foldL_ok (x : Lim) : (foldL x).Ok ∧ (foldL x).ch ≤ 7 := by
  have h1 := pk_lo x.ch (n := 7) (by omega)
  have h2 := pk_hi x.ch (n := 7) (by omega)
  have h3 := pk_lo x.win (n := 12) (by omega)
  have h4 := pk_hi x.win (n := 12) (by omega)
  have h5 := pk_lo x.cap (n := 41) (by omega)
  have h6 := pk_hi x.cap (n := 41) (by omega)
  refine ⟨⟨?_, ?_, ?_, ?_, ?_, ?_⟩, ?_⟩ <;> simp only [foldL] <;> omega

def limsOf (caps : List Lim) : List Lim := (caps.take 4).map foldL
def Lim.In (x : Lim) : Prop := In64 x.ch ∧ In64 x.win ∧ In64 x.cap

/-- what config does -/
def ConfigSpec : Prop := ∀ (a : Option Addr) (caps : List Lim) (cp : Nat) (lockout : Int) (w : World), SeeL w a caps → (∀ x ∈ caps, x.In) → In64 lockout →
  Calls Tryz.prog 10 #[.slice a caps.length cp, I lockout] w fun e w' => ∃ v, e = .returned (.agg #[I 3, v, I (pk lockout 10)]) ∧ Keep w w' ∧ w'.ownsRow 0 60 3 v (limsOf caps).length ((limsOf caps).flatMap limC) ∧ ∀ x, v.ownBlock = some x → w.heap.size ≤ x

theorem cfg_at {w : World} {v : Value} {caps : List Lim} {lockout : Int} (h : w.ownsRow 0 60 3 v (limsOf caps).length ((limsOf caps).flatMap limC)) : CfgAt w v (limsOf caps) (pk lockout 10) := by
  have h1 := pk_lo lockout (n := 10) (by omega)
  have h2 := pk_hi lockout (n := 10) (by omega)
  refine ⟨h, ?_, by simp [limsOf]; omega, h1, by omega⟩
  intro l hl
  obtain ⟨x, -, rfl⟩ := List.mem_map.1 hl
  exact foldL_ok x

end Go.Proofs.YtpilmkipbbengaaGreatDoor
