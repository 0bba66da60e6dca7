/-
  poly.Add: number by number.
-/
import Derived.Test.YthfaahngnnfefaaPoly
namespace Go.Proofs.Ythfaahngnnfefaa
open Go.RowKit M Pm
set_option linter.unusedVariables false

section
variable {P : Program} {ops : Array Oper} {rest : List Oper} {o : Oper} {a : Act} {w : World} {Q : Exit → Act → World → Prop}
/-- The greater one of two lengths. -/
theorem wp_max (hgd : o.guard = none) (x y : Operand) (t : TypeId) (ho : o.op = .call { callee := .builtin .max, args := #[x, y], argTypes := #[t, t] }) (m n L : Nat) (hx : a.eval x = .int .i64 (m : Int)) (hy : a.eval y = .int .i64 (n : Int)) (hL : L = max m n)
    (h : wpList P ops Q rest (a.put o.dst (.int .i64 (L : Int))) w) : wpList P ops Q (o :: rest) a w := by
  have key : ∀ ρ : Operand → Value, ρ x = .int .i64 (m : Int) → ρ y = .int .i64 (n : Int) → (execOp ρ o).run P w = .ok (.value (.int .i64 (L : Int))) w := by
    intro ρ h1 h2
    unfold execOp
    subst hL
    by_cases hmn : m < n
    · rw [show max m n = n by omega]
      simp [ho, h1, h2, go_sem, hmn]
    · rw [show max m n = m by omega]
      simp [ho, h1, h2, go_sem, hmn]
  refine wpList_plain hgd fun K hK => ?_
  unfold Oper.wp
  rw [key a.eval hx hy]
  exact hK _ _ h
end

set_option maxHeartbeats 2000000 in
theorem polyAdd_any : AddC := by
  intro xs ys n m a b ca cb w hX hY hn hm
  obtain ⟨lx, cx, bx, rx⟩ := hX
  obtain ⟨ly, cy, by_, ry⟩ := hY
  obtain ⟨L, hL⟩ : ∃ L, L = max n m := ⟨_, rfl⟩
  have LX := hide lx
  have LY := hide ly
  have BX := hide bx
  have BY := hide by_
  have hL1 : n ≤ L := by omega
  have hL2 : m ≤ L := by omega
  have hL3 : L ≤ 1048576 := by omega
  have hmk := make_nums (P := Try.prog) (t := 23) (e := 22) (k := .u64) (B := 8) Try.underlying23 (by kernel_rfl) L (by omega) (by omega)
  rw [← hL]
  have HL := hide hL
  clear lx ly bx by_ hL
  go_enter Try.func38, Try.ntmps38
  go_wp2_with (refine wp_max rfl _ _ 3 rfl n m L rfl rfl HL.out ?_)
  go_loopw [18] (fun vi wr => ∃ k : Nat, k ≤ n ∧ vi = .int .i64 (k : Nat) ∧ Row wr w.heap.size 22 (nums .u64 (modTo xs L k)) ∧ Old w wr) (fun vi _ => (n - intOf vi).toNat)
  case atStart => exact ⟨0, by omega, rfl, by rw [modTo_zero]; exact Row.new _ _ _, Old.of_alloc _ _⟩
  case round =>
    clear hmk
    obtain ⟨k, hk, rfl, R, hol⟩ := hrel
    by_cases hkn : k = n
    · subst hkn
      have hd : decide ((k : Int) < k) = false := decide_eq_false (by omega)
      have ML : Hid ((modTo xs L k).length = L) := modTo_length (by rw [LX.out]; omega) (by omega)
      have MB := hide (modTo_lt xs L k)
      have ME : Hid (∀ x, ev ((modTo xs L k).map F) x = ev (xs.map F) x) := fun x => by have := modTo_ev xs L x; rw [LX.out] at this; exact this
      revert R ML MB ME
      generalize modTo xs L k = s0
      intro R ML MB ME
      go_wp2_with fail
      go_loopw [31] (fun vi wr' => ∃ (j : Nat) (s : List Nat), j ≤ m ∧ vi = .int .i64 (j : Nat) ∧ Row wr' w.heap.size 22 (nums .u64 s) ∧ Old w wr' ∧ Hid (s.length = L ∧ (∀ y ∈ s, y < 2305843009213693951) ∧ ∀ x, ev (s.map F) x = ev (xs.map F) x + ev ((ys.take j).map F) x)) (fun vi _ => (m - intOf vi).toNat)
      case atStart => exact ⟨0, s0, by omega, rfl, R, hol, ML.out, MB.out, fun x => by rw [ME.out]; simp only [List.take_zero, List.map_nil, ev]; grind⟩
      case round =>
        clear R hol ML MB ME
        obtain ⟨j, s, hj, rfl, R, hol, H⟩ := hrel
        by_cases hjm : j = m
        · subst hjm
          have hd2 : decide ((j : Int) < j) = false := decide_eq_false (by omega)
          have T1 := hide (trimmed_any s L (some ⟨w.heap.size, 0, none⟩) L _ H.out.1 (by omega) (Nat.le_refl _) (fun y hy => by have := H.out.2.1 y hy; omega) R.rd)
          go_wp2_with fail
          refine T1.out.mono ?_
          rintro e w' ⟨rfl, rfl⟩
          go_wp2
          go_ret
          have hle := lastK_le s L
          refine ⟨trimN s, _, lastK s L, L, rfl, ⟨?_, hle, trimN_lt s, trimN_ends s, ?_⟩, hle, ?_, hol⟩
          · rw [trimN_length, H.out.1]
          · intro x
            rw [trimN_ev, H.out.2.2, List.take_of_length_le (by rw [LY.out]; omega)]
          · have e1 : trimN s = s.take (lastK s L) := by
              rw [trimN, H.out.1]
              conv => rhs; rw [← List.map_id (s.take (lastK s L))]
              refine List.map_congr_left fun y hy => ?_
              exact md_of_lt (H.out.2.1 y (List.mem_of_mem_take hy))
            rw [e1]
            exact rd_take64 R.rd _
        · have hjl : j < m := by omega
          obtain ⟨b2, o2, y, rfl, Hy, hcy⟩ := (ry.mono hol).num (i := j) (by rw [LY.out]; exact hjl)
          obtain ⟨z, Hz, hcz⟩ := R.num (i := j) (by rw [H.out.1]; omega)
          have lz := H.out.2.1 z (List.mem_of_getElem? Hz.out)
          have ly := BY.out y (List.mem_of_getElem? Hy.out)
          have h0 : (0 : Int) ≤ j := by omega
          have h1 : (j : Int) < m := by omega
          have h2 : (j : Int) < L := by omega
          have fr := R.free j
          go_wp2_with fail
          refine (Add_any z y (by omega) ly _).mono ?_
          rintro e w' ⟨rfl, rfl⟩
          go_wp2
          go_roundw
          case rel =>
            refine ⟨j + 1, s.set j (addP z y), by omega, by go_num, by rw [← nums_set]; exact R.set _ _, hol.grown (grown_set _ _ _ _) (Nat.le_refl _), ?_, set_lt H.out.2.1 (addP_lt _ _), fun x => ?_⟩
            · rw [List.length_set]; exact H.out.1
            · rw [map_set_F, ev_set _ _ _ _ (by rw [List.length_map, H.out.1]; omega), co_map_F Hz.out, F_addP, H.out.2.2, ev_take_step x Hy.out]
              grind
          case measure => simp [intOf]; omega
    · have hkl : k < n := by omega
      obtain ⟨b1, o1, y, rfl, Hy, hcy⟩ := (rx.mono hol).num (i := k) (by rw [LX.out]; exact hkl)
      have ly := BX.out y (List.mem_of_getElem? Hy.out)
      have h0 : (0 : Int) ≤ k := by omega
      have h1 : (k : Int) < n := by omega
      have h2 : (k : Int) < L := by omega
      have fr := R.free k
      obtain ⟨z, Hz, hcz⟩ := R.num (i := k) (by rw [modTo_length (by rw [LX.out]; omega) (by omega)]; omega)
      go_wp2_with fail
      refine (Mod_any y ly _).mono ?_
      rintro e w' ⟨rfl, rfl⟩
      go_wp2
      go_roundw
      case rel =>
        refine ⟨k + 1, by omega, by go_num, ?_, hol.grown (grown_set _ _ _ _) (Nat.le_refl _)⟩
        rw [← modTo_step Hy.out (by omega), ← nums_set]
        exact R.set _ _
      case measure => simp [intOf]; omega
end Go.Proofs.Ythfaahngnnfefaa
