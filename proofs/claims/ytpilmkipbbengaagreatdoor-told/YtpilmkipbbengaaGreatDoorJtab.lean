/- The library's variables, as the statement gives them. -/
import Derived.Test.YtpilmkipbbengaaGreatDoorJbM
import Derived.Test.YtpilmkipbbengaaGreatDoorRows
import Derived.Lib.LaidTab
import Derived.Shelf.Vars
namespace Go.Proofs.YtpilmkipbbengaaGreatDoor
open Go.RowKit Go.Lib

theorem tab_laid {W : World} {n1 n2 n3 : String} {d1 d2 : DataW Unit} (e : n3 = tabN) (h : laidMet Tryz.prog [(n1, d1), (n2, d2), (n3, Rows.laid_internal_strconv_uint64pow10)] W) (hs : W.ShapedOpen Tryz.prog) : Tab W := by
  subst e
  obtain ⟨ps, ⟨g1, t1, c1, f1, p1, q1, -, -, -, -, ⟨g2, t2, c2, f2, p2, q2, -, -, -, -, ⟨g, t, cs, fu, p, q, hg, ht, hv, hd, -, -⟩, -⟩, -⟩, -⟩ := h
  have hg1 : Tryz.prog.globalNamed tabN = some 1 := by kernel_rfl
  obtain rfl := Option.some.inj (hg.symm.trans hg1)
  have ht1 : (Tryz.prog.globals[1]?).map (·.type) = some 204 := by kernel_rfl
  obtain rfl := Option.some.inj (ht.symm.trans ht1)
  refine ⟨?_, ?_, ?_⟩
  · exact Go.Proofs.cell_of_shapedOpen_int (zero := #[.int .i64 0]) (t := 3) hs (of_decide_eq_true (by kernel_rfl)) (by kernel_rfl) rfl (by kernel_rfl) (by kernel_rfl) Tryz.underlying3
  · unfold TabIs
    rw [hv]
    have hc := cells_of_tab (k := .u64) (zs := Lib.pow10Tab) Tryz.underlying204 Tryz.underlying192 (by kernel_rfl) (by kernel_rfl) hd
    rw [← hc]
  · unfold World.var? at hv
    rw [hg1] at hv
    simp only [Option.bind_some] at hv
    rcases Nat.lt_or_ge 1 W.heap.size with h' | h'
    · exact h'
    · rw [Array.getElem?_eq_none h'] at hv
      cases hv

theorem told_tab {W : World} (h : laidMetH Tryz.prog Rows.toldUptoRow.laid W) (hs : W.ShapedOpen Tryz.prog) : Tab W := tab_laid (by kernel_rfl) h hs
theorem continued_tab {W : World} (h : laidMetH Tryz.prog Rows.continuedUptoRow.laid W) (hs : W.ShapedOpen Tryz.prog) : Tab W := tab_laid (by kernel_rfl) h hs
theorem all_tab {W : World} (h : laidMetH Tryz.prog Rows.allUptoRow.laid W) (hs : W.ShapedOpen Tryz.prog) : Tab W := tab_laid (by kernel_rfl) h hs

end Go.Proofs.YtpilmkipbbengaaGreatDoor
