/- Safe. -/
import Derived.Test.YtpilmkipbbengaaK10
import Derived.Test.YtpilmkipbbengaaK12
import Derived.Test.YtpilmkipbbengaaKcfg
namespace Go.Proofs.Ytpilmkipbbengaa
open Go.RowKit

set_option maxRecDepth 100000 in
set_option maxHeartbeats 1600000 in
theorem safe_any {pa : Rep} (P : Pumpy 24 18 19 13 16 pa) (O : Orderly 20 22 21 25 43 pa) (CF : ConfigSpec) (ac : Option Addr) (caps : List Lim) (cpc : Nat) (lockout : Int) (sa : Option Addr) (ss : List StepR) (cps : Nat) (w : World)
    (hs : SeeL w ac caps) (hin : ∀ x ∈ caps, x.In) (hlo : In64 lockout) (hss : SeeS (fun x => w.heap.size ≤ x) w sa ss) (hso : ∀ s ∈ ss, s.Ok) :
    Calls Try.prog 3 #[.slice ac caps.length cpc, I lockout, .slice sa ss.length cps] w fun e w' => e = .returned (.bool true) ∧ Keep w w' := by
  have OR : Hid (Calls Try.prog 8 #[] w fun e w' => e = .returned (.bool true) ∧ Hid (Keep w w')) := (kordered_any P O w).mono fun e w' q => q
  have CG : Hid (∀ w0, Keep w w0 → Calls Try.prog 10 #[.slice ac caps.length cpc, I lockout] w0 fun e w1 => ∃ v, e = .returned (.agg #[I 3, v, I (pk lockout 10)]) ∧ Hid (Keep w w1 ∧ CfgAt w1 v (limsOf caps) (pk lockout 10) ∧ ∀ x, v.ownBlock = some x → w.heap.size ≤ x)) := by
    intro w0 k0
    refine (CF ac caps cpc lockout w0 (hs.frm k0 fun _ _ _ e => e) hin hlo).mono ?_
    rintro e w1 ⟨v, rfl, k1, hr, hn⟩
    have := k0.size
    exact ⟨v, rfl, k0.trans k1, cfg_at hr, fun x hx => by have := hn x hx; omega⟩
  have RN : Hid (∀ w1 v, Hid (Keep w w1 ∧ CfgAt w1 v (limsOf caps) (pk lockout 10) ∧ ∀ x, v.ownBlock = some x → w.heap.size ≤ x) → Calls Try.prog 9 #[.agg #[I 3, v, I (pk lockout 10)], .slice sa ss.length cps] w1 fun e w2 => ∃ rb, e = .returned (.pointer (some ⟨rb, 0, none⟩)) ∧ Hid (∃ R, KOk R ∧ KGo pa (fun x => w.heap.size ≤ x) w w2 rb R)) := by
    intro w1 v hh
    obtain ⟨k1, hc, -⟩ := hh.out
    refine (krun_any P O (fun x => w.heap.size ≤ x) v (limsOf caps) (pk lockout 10) sa ss cps w1 hc (fun x hx => Nat.le_trans k1.size hx) (hss.frm (k1.mono fun _ _ e => e.elim)) hso).mono ?_
    rintro e w2 ⟨rb, R, rfl, ok, -, -, g⟩
    exact ⟨rb, rfl, R, ok, KGo.trans (k1.mono fun _ _ e => e.elim) g⟩
  have TK : Hid (∀ w2 rb, Hid (∃ R, KOk R ∧ KGo pa (fun x => w.heap.size ≤ x) w w2 rb R) → Calls Try.prog 11 #[.pointer (some ⟨rb, 0, none⟩), I 20] w2 fun e w3 => e = .returned (.bool true) ∧ Hid (∃ R, KOk R ∧ KGo pa (fun x => w.heap.size ≤ x) w w3 rb R)) := by
    intro w2 rb hh
    obtain ⟨R, ok, gf, pb, F, vl, vd, hk⟩ := hh.out
    refine (kticks_did P (fun x => w.heap.size ≤ x) rb pb F R vl vd 20 w2 hk ok (fun x hx => Nat.le_trans gf.size hx) (by omega) (by omega)).mono ?_
    rintro e w3 ⟨rfl, ok', g'⟩
    exact ⟨rfl, _, ok', KGo.trans gf g'⟩
  have SF : Hid (∀ w3 rb, Hid (∃ R, KOk R ∧ KGo pa (fun x => w.heap.size ≤ x) w w3 rb R) → Calls Try.prog 12 #[.pointer (some ⟨rb, 0, none⟩)] w3 fun e w4 => e = .returned (.bool true) ∧ Hid (Keep w w4)) := by
    intro w3 rb hh
    obtain ⟨R, ok, gf, pb, F, vl, vd, hk⟩ := hh.out
    refine (ksafe_any rb (kv pb vl vd R) w3 hk.rd (ok.kvok pb vl vd) ok.told.safe).mono ?_
    rintro e w4 ⟨rfl, k4⟩
    exact ⟨rfl, (gf.trans2 k4 fun _ _ e => e.elim).mono fun x hx e => by omega⟩
  clear hs hin hlo hss hso
  go_enter Try.func3, Try.ntmps3
  go_wp2_with fail
  refine (OR.out).mono ?_
  rintro e w0 ⟨rfl, K0⟩
  go_wp2_with fail
  refine (CG.out w0 K0.out).mono ?_
  rintro e w1 ⟨v, rfl, H1⟩
  go_wp2_with fail
  refine (RN.out w1 v H1).mono ?_
  rintro e w2 ⟨rb, rfl, H2⟩
  go_wp2_with fail
  refine (TK.out w2 rb H2).mono ?_
  rintro e w3 ⟨rfl, H3⟩
  go_wp2_with fail
  refine (SF.out w3 rb H3).mono ?_
  rintro e w4 ⟨rfl, H4⟩
  go_wp2_with fail
  go_ret
  exact ⟨rfl, H4.out⟩

end Go.Proofs.Ytpilmkipbbengaa
