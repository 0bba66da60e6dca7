/-
  The document's shares (offertoryref06.Share, offertoryref06.Join), and offertorylaw07.some.
-/
import Derived.Test.YthfaahngnnfefaaShares
import Derived.Test.YthfaahngnnfefaaRefPoly
namespace Go.Proofs.Ythfaahngnnfefaa
open Go.RowKit M Pm
set_option linter.unusedVariables false

section
variable {P : Program} {ops : Array Oper} {rest : List Oper} {o : Oper} {a : Act} {w : World} {Q : Exit → Act → World → Prop}
/-- Numbers of any slice more, behind those of a slice of the call's own. -/
theorem wp_appendN (hgd : o.guard = none) (s x : Operand) (t : TypeId) (ho : o.op = .call { callee := .builtin .append, args := #[s, x], argTypes := #[t, t] })
    (base : Nat) (e : TypeId) (k : IntKind) (B : Nat) (ht : P.underlying t = some (.slice e)) (hi : (P.info? e).map (fun i => (i.zero, i.size, i.bytes)) = some (some (.int k 0), 1, B)) (hB : B ≤ 8)
    (v : Value) (xs : List Nat) (hs : a.eval s = v) (hown : Owns w base e k v xs) (r : Option Addr) (m c : Nat) (ys : List Nat) (hx : a.eval x = .slice r m c) (hm : ys.length = m) (rd : Rd w r (nums k ys))
    (hn : xs.length < 1099511627776) (hn2 : m ≤ 1099511627776) (hbase : base ≤ w.heap.size)
    (h : ∀ v' w', Owns w' base e k v' (xs ++ ys) → w.grownBy w' v.ownBlock → wpList P ops Q rest (a.put o.dst v') w') : wpList P ops Q (o :: rest) a w := by
  obtain ⟨i0, h1, h2, h3, h4⟩ := info_parts hi
  cases r with
  | none =>
    have h0 : ys = [] := by
      cases ys with
      | nil => rfl
      | cons y r =>
        obtain ⟨b, off, z, he, _⟩ := rd.num (i := 0) (by simp)
        cases he
    subst h0
    simp at hm
    subst hm
    have hrun : ∀ ty, (Builtin.append_ #[t, t] ty #[v, .slice none 0 c]).run P w = .ok v w := by
      intro ty
      have hown' : w.ownsRow base e 1 v xs.length (nums k xs) := hown
      rcases hown'.2 with ⟨rfl, _⟩ | ⟨g, cap, cur, rfl, _, _, hnc, _⟩
      · simp [Builtin.append_, run_underlying ht, sizeOf, typeInfo, h1, Builtin.lenOf, Builtin.firstCells]
      · simp [Builtin.append_, run_underlying ht, sizeOf, typeInfo, h1, Builtin.lenOf, Builtin.firstCells, hnc, storeCells]
    refine wpList_plain hgd fun K hK => ?_
    unfold Oper.wp
    simp [execOp, ho, resolve, invoke, builtin, hs, hx, hrun, Result.andThen]
    exact hK _ _ (h v w (by rw [List.append_nil]; exact hown) (World.grownBy.refl _ _))
  | some ad =>
    refine wpList_append_own w hgd s x t ho base e i0 (.int k 0) 1 B ht h1 h2 h3 h4 rfl (by omega) v xs.length (nums k xs) hs hown ad m c (nums k ys) hx (by rw [nums_length, hm]; omega) ?_ (nums_oneCell k ys) ?_ ?_ hbase ?_
    · intro j u hj
      obtain ⟨b, off, ha, hc⟩ := rd j u hj
      obtain rfl := Option.some.inj ha
      rw [Addr.add_lit]; exact hc
    · show xs.length + m ≤ 9223372036854775807
      omega
    · have : (xs.length + m) * B ≤ 2199023255552 * 8 := Nat.mul_le_mul (by omega) hB
      omega
    · intro v' w' h5 h6 _
      refine h v' w' ?_ h6
      unfold Owns
      rw [List.length_append, hm]
      simpa [nums] using h5
end

set_option maxHeartbeats 1000000 in
theorem refShare_any (secret : Nat) (cs : List Nat) (m : Nat) (a : Option Addr) (cap x : Nat) (w : World) (hs : secret < 18446744073709551616) (hN : Nums w a m cap cs) (hm : m ≤ 1048576) (hx : x ≤ 1048576) :
    Calls Try.prog 11 #[.int .u64 (secret : Nat), .slice a m cap, .int .i64 (x : Nat)] w fun e w' => e = .returned (.int .u64 (evN (secret :: cs) x : Nat)) ∧ Old w w' := by
  have O0 : Hid (Owns (w.alloc (.cells #[.int .u64 (secret : Nat)] 22)) w.heap.size 22 .u64 (.slice (some ⟨w.heap.size, 0, none⟩) 1 1) [secret]) :=
    World.ownsRow_lit w #[.int .u64 (secret : Nat)] 1 (Nat.le_refl _) (by unfold maxLen; omega) rfl
  have N0 := hide (hN.mono (Old.of_alloc w (.cells #[.int .u64 (secret : Nat)] 22)))
  have HL : Hid ((secret :: cs).length = m + 1) := by show _ = _; rw [List.length_cons, hN.1]
  have HB : Hid (∀ y ∈ secret :: cs, y < 18446744073709551616) := fun y hy => by
    rcases List.mem_cons.1 hy with rfl | hy
    · exact hs
    · exact hN.2.2.1 y hy
  clear hN
  go_enter Try.func11, Try.ntmps11
  go_wp2_with (refine wp_appendN rfl _ _ 23 rfl w.heap.size 22 .u64 8 Try.underlying23 (by kernel_rfl) (by omega) _ [secret] rfl O0.out a m cap cs rfl N0.out.1 N0.out.2.2.2 (by simp) (by omega) (Old.of_alloc w _).size ?_; rintro v2 w2 ow2 gr2)
  all_goals
    have ow3 : Owns w2 w.heap.size 22 .u64 v2 (secret :: cs) := ow2
    obtain ⟨r, cap2, hv2, hc2, rd2⟩ := ow3.rd
    rw [HL.out] at hv2
    subst hv2
    have O2 : Old w w2 := (Old.of_alloc w _).grown gr2 (Nat.le_refl _)
    clear ow2 ow3 gr2 O0 N0
    go_wp2_with fail
    refine (refAt_any (secret :: cs) (m + 1) x _ _ _ HL.out (by omega) HB.out (by omega) rd2).mono ?_
    rintro e w3 ⟨rfl, rfl⟩
    go_wp2
    go_ret
    exact ⟨rfl, O2⟩

theorem PtsOf.take {w : World} {a : Option Addr} {n cap : Nat} {ps : List Pt} (h : PtsOf w a n cap ps) {k : Nat} (hk : k ≤ n) : PtsOf w a k cap (ps.take k) :=
  ⟨by rw [List.length_take, h.1]; omega, by have := h.2.1; omega, fun p hp => h.2.2.1 p (List.mem_of_mem_take hp), h.2.2.2.take k⟩

set_option maxHeartbeats 1000000 in
theorem refJoin_any (enough : Int) (he : -9223372036854775808 ≤ enough ∧ enough ≤ 9223372036854775807) (ps : List Pt) (n : Nat) (a : Option Addr) (cap : Nat) (w : World) (hp : PtsOf w a n cap ps) (hn : n ≤ 281474976710656) :
    Calls Try.prog 14 #[.int .i64 enough, .slice a n cap] w fun e w' => e = .returned (.tuple #[.int .u64 (joinN enough ps : Nat), .int .i64 (joinErr enough ps : Nat)]) ∧ Old w w' := by
  have HP := hide hp
  have HE : Hid (joinErr enough ps = if enough < 1 ∨ 64 < enough then 1 else if errOf ps ≠ 0 then errOf ps else if (n : Int) < enough then 12 else 0) := by show _ = _; unfold joinErr; rw [hp.1]
  have HN : Hid (joinErr enough ps ≠ 0 → joinN enough ps = 0) := fun h => by unfold joinN; rw [if_neg h]
  clear hp
  by_cases h1 : enough < 1
  · have d1 : decide (enough < 1) = true := decide_eq_true h1
    have E : joinErr enough ps = 1 := by rw [HE.out, if_pos (.inl h1)]
    have Z := HN.out (by omega)
    rw [E, Z]
    go_enter Try.func14, Try.ntmps14
    go_wp2
    go_ret2
    exact ⟨rfl, Old.refl _⟩
  · have d1 : decide (enough < 1) = false := decide_eq_false h1
    by_cases h2 : 64 < enough
    · have d2 : decide (64 < enough) = true := decide_eq_true h2
      have E : joinErr enough ps = 1 := by rw [HE.out, if_pos (.inr h2)]
      have Z := HN.out (by omega)
      rw [E, Z]
      go_enter Try.func14, Try.ntmps14
      go_wp2
      go_ret2
      exact ⟨rfl, Old.refl _⟩
    · have d2 : decide (64 < enough) = false := decide_eq_false h2
      obtain ⟨m, rfl⟩ : ∃ m : Nat, enough = m := ⟨enough.toNat, by omega⟩
      have C1 := hide (refPoints_any ps n a cap w HP.out.1 (by omega) HP.out.2.2.2)
      by_cases h3 : errOf ps = 0
      · have S := hide (sound_of h3)
        have n64 : n ≤ 64 := by have := S.out.le; rw [HP.out.1] at this; exact this
        rw [h3] at C1
        by_cases h4 : (n : Int) < m
        · have d4 : decide ((n : Int) < m) = true := decide_eq_true h4
          have E : joinErr m ps = 12 := by rw [HE.out, if_neg (by omega), if_neg (by simpa using h3), if_pos h4]
          have Z := HN.out (by omega)
          rw [E, Z]
          go_enter Try.func14, Try.ntmps14
          go_wp2_with fail
          refine C1.out.mono ?_
          rintro e w1 ⟨rfl, o1⟩
          go_wp2
          go_ret2
          exact ⟨rfl, o1⟩
        · have d4 : decide ((n : Int) < m) = false := decide_eq_false h4
          have E : joinErr m ps = 0 := by rw [HE.out, if_neg (by omega), if_neg (by simpa using h3), if_neg h4]
          have Z : joinN m ps = lagN (ps.take m) 0 m := by unfold joinN; rw [if_pos E]; rfl
          rw [E, Z]
          have hcap := HP.out.2.1
          go_enter Try.func14, Try.ntmps14
          go_wp2_with fail
          refine C1.out.mono ?_
          rintro e w1 ⟨rfl, o1⟩
          have N1 := hide ((HP.out.mono o1).take (k := m) (by omega))
          have CV := hide (refValue_any (ps.take m) m 0 a cap w1 N1.out.1 (S.out.take (by omega) (by rw [HP.out.1]; omega)) (by omega) N1.out.2.2.2)
          go_wp2_with fail
          refine CV.out.mono ?_
          rintro e w2 ⟨rfl, o2⟩
          go_wp2
          go_ret2
          exact ⟨rfl, o1.trans o2⟩
      · have E : joinErr m ps = errOf ps := by rw [HE.out, if_neg (by omega), if_pos h3]
        have Z := HN.out (by omega)
        rw [E, Z]
        have d5 : (((errOf ps : Nat) : Int) == 0) = false := by rw [beq_eq_false_iff_ne]; omega
        have d6 : (((errOf ps : Nat) : Int) != 0) = true := by rw [bne_iff_ne]; omega
        go_enter Try.func14, Try.ntmps14
        go_wp2_with fail
        refine C1.out.mono ?_
        rintro e w1 ⟨rfl, o1⟩
        go_wp2
        go_ret2
        exact ⟨rfl, o1⟩

theorem some7_any (ps : List Pt) (n : Nat) (a : Option Addr) (cap : Nat) (w : World) (h0 : PtsOf w a n cap ps) :
    Calls Try.prog 12 #[.slice a n cap] w fun e w' => ∃ (qs : List Pt) (m : Nat), e = .returned (.slice a m cap) ∧ PtsOf w a m cap qs ∧ (m ≤ 9 ∨ 64 < m) ∧ m ≤ n ∧ w' = w := by
  have hc := h0.2.1
  have HP := hide h0
  clear h0
  by_cases h : 9 < n
  · have e1 : decide ((9 : Int) < n) = true := decide_eq_true (by omega)
    by_cases h2 : n ≤ 64
    · have e2 : decide ((n : Int) ≤ 64) = true := decide_eq_true (by omega)
      go_enter Try.func12, Try.ntmps12
      go_wp2
      go_ret
      exact ⟨ps.take 9, 9, rfl, HP.out.take (by omega), by omega, by omega, rfl⟩
    · have e2 : decide ((n : Int) ≤ 64) = false := decide_eq_false (by omega)
      go_enter Try.func12, Try.ntmps12
      go_wp2
      go_ret
      exact ⟨ps, n, rfl, HP.out, by omega, by omega, rfl⟩
  · have e1 : decide ((9 : Int) < n) = false := decide_eq_false (by omega)
    go_enter Try.func12, Try.ntmps12
    go_wp2
    go_ret
    exact ⟨ps, n, rfl, HP.out, by omega, by omega, rfl⟩
end Go.Proofs.Ythfaahngnnfefaa
