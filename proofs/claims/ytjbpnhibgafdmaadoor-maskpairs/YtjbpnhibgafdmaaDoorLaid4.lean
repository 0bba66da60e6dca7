/-
  What the row's list of variables gives: the package's table of places lies in the world as its initialiser lays it.
-/
import Derived.Test.YtjbpnhibgafdmaaDoorRows
import Derived.Test.YtjbpnhibgafdmaaDoorRound
import Derived.Lib.LaidTab
import Derived.OpenShut
namespace Go.Proofs.YtjbpnhibgafdmaaDoor
set_option linter.unusedVariables false

theorem row_of_rows {H : Type} {enc : TypeId × Value → H} {P : Program} {w : World} {base : Nat} {sp : Nat → Bool} {held : Bool} {fuel : Nat} {t e q : TypeId} {k : IntKind} {cs : List Value} {zss : List (List Int)} {p : List MemPlace} {n : Nat}
    (ht : P.underlying t = some (.array n e)) (he : P.underlying e = some (.array 4 q)) (hq : P.underlying q = some (.int k)) (cq : P.cellsOf q = 1) (ce : P.cellsOf e = 4) (ct : P.cellsOf t = 4 * n)
    (h : DataW.trod enc P w base sp held fuel t cs = some (.agg (zss.map fun zs => Lib.tabData k zs), p)) : cs = zss.flatMap fun zs => zs.map fun z => Value.int k z := by
  obtain ⟨xs, m, _, hx, hl, hxl, hc⟩ := DataW.trod_array ht h
  simp only [Prod.mk.injEq, DataW.agg.injEq] at hx
  have hz : zss.length = n := by
    have := congrArg List.length hx.1
    simp at this
    omega
  have each : ∀ i zs, zss[i]? = some zs → (cs.drop (i * 4)).take 4 = zs.map fun z => Value.int k z := by
    intro i zs hi
    have hil : i < n := by rw [← hz]; exact (List.getElem?_eq_some_iff.1 hi).1
    have h1 := hc i hil
    rw [ce] at h1
    have h2 : (xs.map (·.1))[i]? = some (Lib.tabData k zs) := by rw [← hx.1]; simp [hi]
    rw [List.getElem?_map, List.getElem?_eq_getElem (by omega)] at h2
    rw [List.getElem?_eq_getElem (by omega)] at h1
    simp only [Option.map_some, Option.some.injEq] at h2
    have h3 : xs[i] = (Lib.tabData k zs, (xs[i]).2) := by rw [← h2]
    rw [h3] at h1
    exact Lib.cells_of_tab he hq cq ce h1
  have step : ∀ j, j ≤ n → cs.drop ((n - j) * 4) = (zss.drop (n - j)).flatMap fun zs => zs.map fun z => Value.int k z := by
    intro j
    induction j with
    | zero =>
      intro _
      rw [List.drop_eq_nil_of_le (by rw [hl, ct]; omega), List.drop_eq_nil_of_le (by omega)]
      rfl
    | succ j ih =>
      intro hj
      have hij : n - (j + 1) < zss.length := by omega
      have h1 := each (n - (j + 1)) zss[n - (j + 1)] (by simp [hij])
      have h2 := ih (by omega)
      rw [List.drop_eq_getElem_cons hij, List.flatMap_cons, ← h1, show n - (j + 1) + 1 = n - j by omega, ← h2]
      conv => lhs; rw [← List.take_append_drop 4 (cs.drop ((n - (j + 1)) * 4))]
      rw [List.drop_drop, show (n - (j + 1)) * 4 + 4 = (n - j) * 4 by omega]
  have := step n (Nat.le_refl _)
  simpa using this

theorem laid_facts {W : World} (h : laidMetH Tryd.prog [("offertory/cipher.quarters", Rows.laid_offertory_cipher_quarters)] W) : QTab W := by
  have gTab : Tryd.prog.globalNamed "offertory/cipher.quarters" = some 0 := by kernel_rfl
  have gTy : (Tryd.prog.globals[0]?).map (·.type) = some 99 := by kernel_rfl
  have h' : laidMet Tryd.prog [("offertory/cipher.quarters", Rows.laid_offertory_cipher_quarters)] W := h
  obtain ⟨ps, ⟨g', t', cs, fuel, p, q, hg', ht', hvar, hd, _, _⟩, _⟩ := h'
  obtain rfl := Option.some.inj (gTab.symm.trans hg')
  obtain rfl := Option.some.inj (gTy.symm.trans ht')
  have e := row_of_rows (zss := [[0, 4, 8, 12], [1, 5, 9, 13], [2, 6, 10, 14], [3, 7, 11, 15], [0, 5, 10, 15], [1, 6, 11, 12], [2, 7, 8, 13], [3, 4, 9, 14]]) Tryd.underlying99 Tryd.underlying98 Tryd.underlying3 (by kernel_rfl) (by kernel_rfl) (by kernel_rfl) hd
  unfold World.var? at hvar
  rw [gTab, Option.bind_some] at hvar
  split at hvar
  · rename_i cs' ty fr he
    refine ⟨ty, fr, ?_⟩
    rw [he]
    obtain rfl := Option.some.inj hvar
    have : cs' = qtab := by
      apply Array.toList_inj.1
      exact e
    rw [this]
  · cases hvar
end Go.Proofs.YtjbpnhibgafdmaaDoor
