/-
  container/heap over HpK: Pop, Remove.
-/
import Derived.Test.YtnmigdcedcmbkaaHeapI
namespace Go.Proofs.Ytnmigdcedcmbkaa
open Go.RowKit Bl Hp
set_option linter.unusedVariables false

/-- The last one and the others. -/
theorem snoc_of {E : Type} [Inhabited E] (ys : List E) {n : Nat} (h : ys.length = n + 1) : ys = ys.take n ++ [ys.getD n default] := by
  have hn : n < ys.length := by omega
  rw [show ys.getD n default = ys[n] by simp [List.getD, hn]]
  conv => lhs; rw [← List.take_append_drop n ys, List.drop_eq_getElem_cons hn, List.drop_eq_nil_of_le (by omega)]
theorem kf_take {E : Type} [Inhabited E] (key : E → Mk) (ys : List E) {n k : Nat} (hk : k < n) : kf key (ys.take n) k = kf key ys k := by
  unfold kf
  simp only [List.getD_eq_getElem?_getD]
  rw [List.getElem?_take, if_pos hk]
theorem heap_take {E : Type} [Inhabited E] {key : E → Mk} {ys : List E} {n : Nat} (h : Heap (kf key ys) n) : Heap (kf key (ys.take n)) n := fun k h1 h2 => by
  rw [kf_take key ys h2, kf_take key ys (by omega)]
  exact h k h1 h2
theorem heap_turned {ks ks' : Nat → Mk} {n : Nat} (h : Heap ks n) (i : Nat) (hi : i < n) (e : ∀ k, k < n → k ≠ i → ks' k = ks k) : AnyOk ks' n i := by
  have a := h.any i
  refine ⟨fun k h1 h2 h3 h4 => ?_, fun k h1 h2 h3 h4 => ?_⟩
  · rw [e k h2 h3, e _ (by omega) h4]
    exact h k h1 h2
  · rw [e k h2 (by omega), e _ (by omega) (by omega)]
    exact a.skip k h1 h2 h3 h4
theorem heap_less {ks : Nat → Mk} {n m : Nat} (h : Heap ks n) (hm : m ≤ n) : Heap ks m := fun k h1 h2 => h k h1 (by omega)
/-- The list with i and the last one changed about: ready to go down at i. -/
theorem swap_any {E : Type} [Inhabited E] {key : E → Mk} {xs : List E} {n i : Nat} (hl : xs.length = n + 1) (H : Heap (kf key xs) (n + 1)) (hi : i < n) : AnyOk (kf key (swp xs i n)) n i :=
  heap_turned (heap_less H (Nat.le_succ n)) i hi fun k h1 h2 => by rw [kf_swp key xs (by omega) (by omega), if_neg (by omega), if_neg h2]
theorem swp_last {E : Type} [Inhabited E] (xs : List E) {n i : Nat} (hl : xs.length = n + 1) (hi : i ≤ n) : (swp xs i n).getD n default = xs.getD i default := by
  simp only [List.getD_eq_getElem?_getD]
  rw [swp_get xs (by omega) (by omega), if_pos rfl]

section
variable {E : Type} [Inhabited E] {key : E → Mk} {b : Nat} {St : List E → World → Prop} {R : World → World → Prop} {Ready : E → Value → List E → World → Prop} {val : E → Value}
/-- What is left behind the one that went. -/
def Gone (key : E → Mk) (n : Nat) (xs : List E) (x : E) (zs : List E) : Prop := zs.length = n ∧ (zs ++ [x]).Perm xs ∧ Heap (kf key zs) n
theorem gone_of {xs ys : List E} {x : E} {n : Nat} (hl : xs.length = n + 1) (hp : ys.Perm xs) (hx : ys.getD n default = x) (h : Heap (kf key ys) n) : ys = ys.take n ++ [x] ∧ Gone key n xs x (ys.take n) := by
  have ly : ys.length = n + 1 := hp.length_eq.trans hl
  have e := snoc_of ys ly
  rw [hx] at e
  refine ⟨e, by rw [List.length_take]; omega, by rw [← e]; exact hp, heap_take h⟩
theorem beyond_last {xs ys : List E} {n : Nat} (h : Beyond n xs ys) : ys.getD n default = xs.getD n default := by
  simp only [List.getD_eq_getElem?_getD]
  rw [h n (Nat.le_refl _)]



set_option maxHeartbeats 2000000 in
theorem remove_any (K : HpK key b St R) (M : HpM b St R Ready val) (xs : List E) (n i : Nat) (w : World) (S : St xs w) (hl : xs.length = n + 1) (hi : i ≤ n) (H : Heap (kf key xs) (n + 1)) :
    Calls Try.prog 17 #[.iface 57 (.pointer (some ⟨b, 0, none⟩)), .int .i64 (i : Int)] w fun e w' => e = .returned (val (xs.getD i default)) ∧ ∃ zs, Gone key n xs (xs.getD i default) zs ∧ St zs w' ∧ R w w' := by
  have KK := hide K
  obtain ⟨a, cap, hc, h100⟩ := K.cell S
  rw [hl] at hc h100
  have m1 := go_len hc
  have m2 := go_swap hc
  have m3 := fun w' : World => go_pop (.pointer (some ⟨b, 0, none⟩)) w'
  have L := hide (K.lenK a (n + 1) cap w)
  have PP := hide (fun (zs : List E) (x : E) (w' : World) (s : St (zs ++ [x]) w') => M.popK x s)
  have HL := hide hl
  by_cases hin : i = n
  · subst hin
    obtain ⟨ey, G⟩ := gone_of hl (List.Perm.refl xs) rfl (heap_less H (Nat.le_succ i))
    have s0 := S
    rw [ey] at s0
    have C := hide (PP.out _ _ w s0)
    have G := hide G
    have t1 : ((i : Int) != (i : Int)) = false := by simp
    clear S H K M hl ey s0 PP hc
    generalize xs.take i = zs at *
    go_enter Try.func17, Try.ntmps17
    go_wp2_with fail
    refine L.out.mono ?_
    rintro e w1 ⟨rfl, rfl⟩
    clear L
    go_wp2_with fail
    refine C.out.mono ?_
    rintro e w4 ⟨rfl, s4, r4⟩
    have F : Hid (∃ zs : List E, Gone key i xs (xs.getD i default) zs ∧ St zs w4 ∧ R w1 w4) := ⟨zs, G.out, s4, r4⟩
    clear C s4 r4 G
    go_wp2
    go_ret
    exact ⟨rfl, F.out⟩
  · have C0 := hide (K.swapK a cap i n S (by rw [hl]; exact hc) (by omega) (by omega))
    rw [hl] at C0
    have AN := swap_any hl H (show i < n by omega)
    have LZ := hide ((swp_length xs i n).trans hl)
    have PZ := hide (swp_perm xs (i := i) (j := n) (by omega) (by omega))
    have XZ := hide (swp_last xs (i := i) hl hi)
    have DD := hide (fun (w' : World) (s : St (swp xs i n) w') => down_any K (swp xs i n) n i w' s (by rw [LZ.out]; omega) (by omega) AN)
    have UU := hide (fun (w' : World) (h : UpOk (kf key (swp xs i n)) n i) (s : St (swp xs i n) w') => up_any K (swp xs i n) n i w' s (by rw [LZ.out]; omega) (by omega) h)
    have t1 : ((n : Int) != (i : Int)) = true := by rw [bne_iff_ne]; omega
    have t2 : (n != i) = true := by rw [bne_iff_ne]; omega
    have t3 : ¬ n = i := fun e => hin e.symm
    clear S H K M hl AN LZ hc hi hin
    go_enter Try.func17, Try.ntmps17
    go_wp2_with fail
    refine L.out.mono ?_
    rintro e w1 ⟨rfl, rfl⟩
    clear L
    go_wp2_with fail
    refine C0.out.mono ?_
    rintro e w2 ⟨rfl, s2, r2⟩
    have D := hide (DD.out w2 s2)
    have R2 := hide r2
    clear C0 DD s2 r2 m1 m2
    go_wp2_with fail
    refine D.out.mono ?_
    rintro e w3 ⟨r, ys, rfl, dp, s3, r3⟩
    cases r with
    | true =>
      obtain ⟨ey, G⟩ := gone_of HL.out (dp.1.trans PZ.out) ((beyond_last dp.2.1).trans XZ.out) (dp.2.2.1 rfl)
      rw [ey] at s3
      have C := hide (PP.out _ _ w3 s3)
      have G := hide G
      have R3 := hide (KK.out.trans R2.out r3)
      clear D dp s3 r3 ey PP R2 UU t1 t2 t3
      generalize ys.take n = zs at *
      go_wp2_with fail
      refine C.out.mono ?_
      rintro e w4 ⟨rfl, s4, r4⟩
      have F : Hid (∃ zs : List E, Gone key n xs (xs.getD i default) zs ∧ St zs w4 ∧ R w1 w4) := ⟨zs, G.out, s4, KK.out.trans R3.out r4⟩
      clear C s4 r4 G R3 m3
      go_wp2
      go_ret
      exact ⟨rfl, F.out⟩
    | false =>
      obtain ⟨ez, hu⟩ := dp.2.2.2 rfl
      rw [ez] at s3
      have U := hide (UU.out w3 hu s3)
      have R3 := hide (KK.out.trans R2.out r3)
      clear D dp s3 r3 ez hu R2 UU t1 t2 t3
      go_wp2_with fail
      refine U.out.mono ?_
      rintro e w5 ⟨rfl, zs, z1, z2, z3, z4, z5⟩
      obtain ⟨ey, G⟩ := gone_of HL.out (z1.trans PZ.out) ((beyond_last z2).trans XZ.out) z3
      rw [ey] at z4
      have C := hide (PP.out _ _ w5 z4)
      have G := hide G
      have R5 := hide (KK.out.trans R3.out z5)
      clear U z1 z2 z3 z4 z5 ey PP R3
      generalize zs.take n = us at *
      go_wp2_with fail
      refine C.out.mono ?_
      rintro e w4 ⟨rfl, s4, r4⟩
      have F : Hid (∃ zs : List E, Gone key n xs (xs.getD i default) zs ∧ St zs w4 ∧ R w1 w4) := ⟨us, G.out, s4, KK.out.trans R5.out r4⟩
      clear C s4 r4 G R5 m3
      go_wp2
      go_ret
      exact ⟨rfl, F.out⟩
end
end Go.Proofs.Ytnmigdcedcmbkaa
