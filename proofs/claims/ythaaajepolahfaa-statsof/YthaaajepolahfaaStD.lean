/-
  Layer 13 as it landed: boxes of the call's own; what signed, withoutSign, product, told, within, worth, inBins, counts answer.
-/
import Derived.Test.YthaaajepolahfaaWideD
import Derived.Test.YthaaajepolahfaaStatsC
import Derived.Laws.Bits64b
namespace Go.Proofs.Ythaaajepolahfaa
open Go.RowKit Pn Wd
set_option linter.unusedVariables false

/-- Blocks of the call's own, each with its type and cells, all apart. -/
structure Bxs (w : World) (bs : List (Nat × TypeId × List Value)) (wr : World) : Prop where
  rows : ∀ (i : Nat) (p : Nat × TypeId × List Value), bs[i]? = some p → w.heap.size ≤ p.1 ∧ Row wr p.1 p.2.1 p.2.2
  nd : ∀ (i j : Nat) (p q : Nat × TypeId × List Value), bs[i]? = some p → bs[j]? = some q → i ≠ j → p.1 ≠ q.1
  old : Old w wr
section
variable {w wr w' : World} {bs : List (Nat × TypeId × List Value)}
theorem Bxs.mono (h : Bxs w bs wr) (o : Old wr w') : Bxs w bs w' := ⟨fun i p hp => ⟨(h.rows i p hp).1, (h.rows i p hp).2.mono o⟩, h.nd, h.old.trans o⟩
theorem Bxs.nil (w : World) : Bxs w [] w := ⟨by simp, by simp, Old.refl w⟩
theorem Bxs.row (h : Bxs w bs wr) (i : Nat) {g : Nat} {t : TypeId} {vs : List Value} (hi : bs[i]? = some (g, t, vs)) : Row wr g t vs := (h.rows i _ hi).2
theorem Bxs.add (h : Bxs w bs wr) (o : Old wr w') {g : Nat} {t : TypeId} {vs : List Value} (hg : wr.heap.size ≤ g) (R : Row w' g t vs) : Bxs w (bs ++ [(g, t, vs)]) w' := by
  have one : ∀ (i : Nat) (p : Nat × TypeId × List Value), (bs ++ [(g, t, vs)])[i]? = some p → bs[i]? = some p ∨ (i = bs.length ∧ p = (g, t, vs)) := by
    intro i p hp
    by_cases hi : i < bs.length
    · rw [List.getElem?_append_left hi] at hp; exact .inl hp
    · rw [List.getElem?_append_right (by omega)] at hp
      have : i - bs.length = 0 := by
        by_cases h0 : i - bs.length = 0
        · exact h0
        · rw [List.getElem?_eq_none (by simp; omega)] at hp; cases hp
      rw [this] at hp
      exact .inr ⟨by omega, by simpa using hp.symm⟩
  refine ⟨fun i p hp => ?_, fun i j p q hp hq hne => ?_, h.old.trans o⟩
  · rcases one i p hp with h1 | ⟨_, rfl⟩
    · exact ⟨(h.rows i p h1).1, (h.rows i p h1).2.mono o⟩
    · exact ⟨Nat.le_trans h.old.size hg, R⟩
  · rcases one i p hp with h1 | ⟨e1, rfl⟩ <;> rcases one j q hq with h2 | ⟨e2, rfl⟩
    · exact h.nd i j p q h1 h2 hne
    · have := (h.rows i p h1).2.lt; show p.1 ≠ g; omega
    · have := (h.rows j q h2).2.lt; show g ≠ q.1; omega
    · omega
theorem Bxs.alloc (h : Bxs w bs wr) (t : TypeId) (vs : List Value) {g : Nat} (hg : g = wr.heap.size) : Bxs w (bs ++ [(g, t, vs)]) (wr.alloc (.cells vs.toArray t)) := by
  subst hg
  exact h.add (Old.of_alloc _ _) (Nat.le_refl _) (Row.new _ _ _)
theorem Bxs.grown (h : Bxs w bs wr) (i : Nat) {g : Nat} {t : TypeId} {vs vs' : List Value} (hi : bs[i]? = some (g, t, vs)) (gr : wr.grownBy w' (some g)) (R : Row w' g t vs') : Bxs w (bs.set i (g, t, vs')) w' := by
  have one : ∀ (j : Nat) (p : Nat × TypeId × List Value), (bs.set i (g, t, vs'))[j]? = some p → (j = i ∧ p = (g, t, vs')) ∨ (j ≠ i ∧ bs[j]? = some p) := by
    intro j p hp
    rw [List.getElem?_set] at hp
    by_cases hj : i = j
    · rw [if_pos hj] at hp
      split at hp
      · exact .inl ⟨hj.symm, by simpa using hp.symm⟩
      · cases hp
    · rw [if_neg hj] at hp
      exact .inr ⟨fun e => hj e.symm, hp⟩
  refine ⟨fun j p hp => ?_, fun j k p q hp hq hne => ?_, h.old.grown gr (h.rows i _ hi).1⟩
  · rcases one j p hp with ⟨_, rfl⟩ | ⟨hj, h1⟩
    · exact ⟨(h.rows i _ hi).1, R⟩
    · exact ⟨(h.rows j p h1).1, (h.rows j p h1).2.grown gr (h.nd j i p _ h1 hi hj)⟩
  · rcases one j p hp with ⟨e1, rfl⟩ | ⟨hj, h1⟩ <;> rcases one k q hq with ⟨e2, rfl⟩ | ⟨hk, h2⟩
    · omega
    · exact h.nd i k (g, t, vs) q hi h2 (fun e => hk e.symm)
    · exact h.nd j i p (g, t, vs) h1 hi hj
    · exact h.nd j k p q h1 h2 hne
theorem Bxs.store (h : Bxs w bs wr) (i : Nat) {g : Nat} {t : TypeId} {vs : List Value} (hi : bs[i]? = some (g, t, vs)) (vs' : List Value) (e : w' = wr.setRow g vs'.toArray) : Bxs w (bs.set i (g, t, vs')) w' := by
  subst e
  exact h.grown i hi (grown_setRow _ _ _) ((h.row i hi).whole _)
theorem Bxs.setc (h : Bxs w bs wr) (i : Nat) {g : Nat} {t : TypeId} {vs : List Value} (hi : bs[i]? = some (g, t, vs)) (j : Nat) (u : Value) : Bxs w (bs.set i (g, t, vs.set j u)) (wr.setCell ⟨g, j, none⟩ u) :=
  h.grown i hi (grown_set _ _ _ _) ((h.row i hi).set j u)
end

/-- The two cells of a number by 2^128. -/
def wc (z : Int) : List Value := [.int .u64 (hi (zN z) : Nat), .int .u64 (lo (zN z) : Nat)]
theorem wc_one (z : Int) : ∀ v ∈ wc z, v.oneCell' = true := two_ints _ _
theorem wz_eq {y z : Int} (h : y % 340282366920938463463374607431768211456 = z % 340282366920938463463374607431768211456) : wz y = wz z := by unfold wz zN; rw [h]
theorem wz_lit (h l : Nat) (hh : h < 18446744073709551616) (hl : l < 18446744073709551616) : Value.agg #[.int .u64 (h : Nat), .int .u64 (l : Nat)] = wz ((h * 18446744073709551616 + l : Nat) : Int) := by
  rw [← wz_nat]
  unfold wv
  rw [(of_parts hh hl).1, (of_parts hh hl).2]

set_option maxHeartbeats 1000000 in
theorem signed_any (z : Int) (hz : B64 z) (w : World) : Calls Try.prog 24 #[.int .i64 z] w fun e w' => e = .returned (wz z) ∧ Old w w' := by
  unfold B64 at hz
  by_cases h : z < 0
  · have t : decide (z < 0) = true := by simpa using h
    have e1 : IntKind.u64.wrap z = z + 18446744073709551616 := by rw [IntKind.wrap_u64]; omega
    have E : Hid (wz z = .agg #[.int .u64 18446744073709551615, .int .u64 (z + 18446744073709551616)]) := by
      have h1 := zN_cast z
      have h2 : ((hi (zN z) : Nat) : Int) = 18446744073709551615 := by unfold hi; omega
      have h3 : ((lo (zN z) : Nat) : Int) = z + 18446744073709551616 := by unfold lo; omega
      show Value.agg #[.int .u64 ((hi (zN z) : Nat) : Int), .int .u64 ((lo (zN z) : Nat) : Int)] = _
      rw [h2, h3]
    revert e1 E
    generalize z + 18446744073709551616 = y
    generalize wz z = v
    intro e1 E
    clear hz h
    go_enter Try.func24, Try.ntmps24
    go_wp2
    simp [bodyPost, results, Try.results24, go_sem]
    exact ⟨E.out.symm, Old.of_alloc _ _⟩
  · have t : decide (z < 0) = false := by simpa using h
    have e1 : IntKind.u64.wrap z = z := by rw [IntKind.wrap_u64]; omega
    have E : Hid (wz z = .agg #[.int .u64 0, .int .u64 z]) := by
      have h1 := zN_cast z
      have h2 : ((hi (zN z) : Nat) : Int) = 0 := by unfold hi; omega
      have h3 : ((lo (zN z) : Nat) : Int) = z := by unfold lo; omega
      show Value.agg #[.int .u64 ((hi (zN z) : Nat) : Int), .int .u64 ((lo (zN z) : Nat) : Int)] = _
      rw [h2, h3]
    revert E
    generalize wz z = v
    intro E
    clear hz h
    go_enter Try.func24, Try.ntmps24
    go_wp2
    simp [bodyPost, results, Try.results24, go_sem]
    exact ⟨E.out.symm, Old.of_alloc _ _⟩

theorem top_bit {h : Nat} (hh : h < 18446744073709551616) : bits .and .u64 (h : Int) 9223372036854775808 = if h < 9223372036854775808 then 0 else 9223372036854775808 := by
  rw [show (9223372036854775808 : Int) = ((9223372036854775808 : Nat) : Int) from rfl, bits_and_u64_nat h 9223372036854775808 hh (by omega)]
  rw [show (9223372036854775808 : Nat) = 2 ^ 63 from rfl]
  by_cases c : h < 2 ^ 63
  · rw [if_pos c]
    have : h &&& 2 ^ 63 = 0 := by
      apply Nat.eq_of_testBit_eq
      intro i
      rw [Nat.testBit_and, Nat.testBit_two_pow, Nat.zero_testBit]
      by_cases hi : 63 = i
      · subst hi; rw [Nat.testBit_lt_two_pow c]; rfl
      · simp [hi]
    rw [this]; rfl
  · rw [if_neg c]
    have hb : h.testBit 63 = true := by
      rw [Nat.testBit_eq_decide_div_mod_eq, decide_eq_true_eq]
      omega
    have : h &&& 2 ^ 63 = 2 ^ 63 := by
      apply Nat.eq_of_testBit_eq
      intro i
      rw [Nat.testBit_and, Nat.testBit_two_pow]
      by_cases hi : 63 = i
      · subst hi; rw [hb]; rfl
      · simp [hi]
    rw [this]

set_option maxHeartbeats 1000000 in
theorem withoutSign_any (z : Int) (h0 : -170141183460469231731687303715884105728 ≤ z) (h1 : z < 170141183460469231731687303715884105728) (w : World) :
    Calls Try.prog 43 #[wz z] w fun e w' => e = .returned (.tuple #[wv z.natAbs, .bool (decide (z < 0))]) ∧ Old w w' := by
  have TB := top_bit (hi_lt (zN z))
  have B0 : Hid (Bxs w [(w.heap.size, 27, wc z), (w.heap.size + 1, 27, [.int .u64 0, .int .u64 0])] ((w.alloc (.cells #[.int .u64 (hi (zN z) : Nat), .int .u64 (lo (zN z) : Nat)] 27)).alloc (.cells #[.int .u64 0, .int .u64 0] 27))) :=
    ((Bxs.nil w).alloc 27 (wc z) rfl).alloc 27 [.int .u64 0, .int .u64 0] (by rw [World.size_alloc])
  by_cases h : z < 0
  · have hh : ¬ hi (zN z) < 9223372036854775808 := by have := zN_cast z; unfold hi; omega
    rw [if_neg hh] at TB
    have N := hide (fun w => negZ z w)
    have E : wz (-z) = wv z.natAbs := by rw [wz_nat]; congr 1; omega
    have E2 : decide (z < 0) = true := by simpa using h
    rw [E] at N
    rw [E2]
    clear E E2 hh h h0 h1
    unfold wz wv wc at *
    revert TB B0 N
    generalize hi (zN z) = p
    generalize lo (zN z) = q
    generalize hi z.natAbs = s
    generalize lo z.natAbs = t
    intro TB B0 N
    go_enter Try.func43, Try.ntmps43
    go_wp2_with fail
    refine (N.out _).mono ?_
    rintro e w1 ⟨rfl, o1⟩
    have B1 := hide (B0.out.mono o1)
    clear B0 o1 N TB
    go_wp2_with (refine wp_store_whole rfl 27 _ _ rfl (w.heap.size + 1) rfl [.int .u64 (s : Nat), .int .u64 (t : Nat)] rfl (B1.out.row 1 rfl) infoW rfl (two_ints _ _) ?_; rintro w9 h9
                 have E9 := B1.out.store 1 rfl _ h9
                 clear h9)
    exact bodyPost_ret (v := .tuple #[.agg #[.int .u64 (s : Nat), .int .u64 (t : Nat)], .bool true]) (results_cell_tmp rfl rfl rfl (E9.row 1 rfl) Try.underlying27 rfl infoW) rfl ⟨rfl, E9.old⟩
  · have hh : hi (zN z) < 9223372036854775808 := by have := zN_cast z; unfold hi; omega
    rw [if_pos hh] at TB
    have E : wv z.natAbs = wz z := by rw [wz_nat]; congr 1; omega
    have E2 : decide (z < 0) = false := by simpa using h
    rw [E, E2]
    clear E E2 hh h h0 h1
    unfold wz wv wc at *
    revert TB B0
    generalize hi (zN z) = p
    generalize lo (zN z) = q
    intro TB B0
    go_enter Try.func43, Try.ntmps43
    go_wp2_with (refine wp_store_whole rfl 27 _ _ rfl (w.heap.size + 1) rfl [.int .u64 (p : Nat), .int .u64 (q : Nat)] rfl (B0.out.row 1 rfl) infoW rfl (two_ints _ _) ?_; rintro w9 h9
                 have E9 := B0.out.store 1 rfl _ h9
                 clear h9)
    exact bodyPost_ret (v := .tuple #[.agg #[.int .u64 (p : Nat), .int .u64 (q : Nat)], .bool false]) (results_cell_tmp rfl rfl rfl (E9.row 1 rfl) Try.underlying27 rfl infoW) rfl ⟨rfl, E9.old⟩

theorem cross0 {h l h' l' c q r k S : Int} (hk : h * l' + l * h' = c + S * k) :
    (S * S * q + (h * S + l)) * (S * S * r + (h' * S + l')) = (l * l' + c * S) + S * S * (q * (S * S * r + (h' * S + l')) + (h * S + l) * r + h * h' + k) := by
  grind
theorem cross {a b : Int} {h l h' l' c : Int} (ha : a % 340282366920938463463374607431768211456 = h * 18446744073709551616 + l) (hb : b % 340282366920938463463374607431768211456 = h' * 18446744073709551616 + l') (hc : c = (h * l' + l * h') % 18446744073709551616) :
    (l * l' + c * 18446744073709551616) % 340282366920938463463374607431768211456 = (a * b) % 340282366920938463463374607431768211456 := by
  obtain ⟨k, hk⟩ : ∃ k, h * l' + l * h' = c + 18446744073709551616 * k := ⟨(h * l' + l * h') / 18446744073709551616, by rw [hc]; have := Int.emod_add_mul_ediv (h * l' + l * h') 18446744073709551616; omega⟩
  obtain ⟨q, hq⟩ : ∃ q, a = 340282366920938463463374607431768211456 * q + (h * 18446744073709551616 + l) := ⟨a / 340282366920938463463374607431768211456, by have := Int.emod_add_mul_ediv a 340282366920938463463374607431768211456; omega⟩
  obtain ⟨r, hr⟩ : ∃ r, b = 340282366920938463463374607431768211456 * r + (h' * 18446744073709551616 + l') := ⟨b / 340282366920938463463374607431768211456, by have := Int.emod_add_mul_ediv b 340282366920938463463374607431768211456; omega⟩
  have e : a * b = (l * l' + c * 18446744073709551616) + 340282366920938463463374607431768211456 * (q * b + (h * 18446744073709551616 + l) * r + h * h' + k) := by
    have := cross0 (q := q) (r := r) hk
    rw [show (18446744073709551616 : Int) * 18446744073709551616 = 340282366920938463463374607431768211456 by decide +kernel, ← hr, ← hq] at this
    exact this
  rw [e, Int.add_mul_emod_self_left]

set_option maxHeartbeats 4000000 in
theorem product_core (h l h' l' c p q s t : Nat) (m0 : Value) (w : World) (x1 : IntKind.u64.wrap ((h : Int) * (l' : Int)) = (p : Int)) (x2 : IntKind.u64.wrap ((l : Int) * (h' : Int)) = (q : Int)) (x3 : IntKind.u64.wrap ((p : Int) + (q : Int)) = (c : Int))
    (ML : Hid (∀ w : World, Calls Try.prog 42 #[.int .u64 (l : Nat), .int .u64 (l' : Nat)] w fun e w' => e = .returned m0 ∧ Old w w'))
    (AD : Hid (∀ w : World, Calls Try.prog 25 #[m0, .agg #[.int .u64 (c : Nat), .int .u64 0]] w fun e w' => e = .returned (.agg #[.int .u64 (s : Nat), .int .u64 (t : Nat)]) ∧ Old w w')) :
    Calls Try.prog 26 #[.agg #[.int .u64 (h : Nat), .int .u64 (l : Nat)], .agg #[.int .u64 (h' : Nat), .int .u64 (l' : Nat)]] w fun e w' => e = .returned (.agg #[.int .u64 (s : Nat), .int .u64 (t : Nat)]) ∧ Old w w' := by
  have B0 : Hid (Bxs w [(w.heap.size, 27, [.int .u64 (h : Nat), .int .u64 (l : Nat)]), (w.heap.size + 1, 27, [.int .u64 (h' : Nat), .int .u64 (l' : Nat)]), (w.heap.size + 1 + 1, 27, [.int .u64 0, .int .u64 0]), (w.heap.size + 1 + 1 + 1, 27, [.int .u64 (c : Nat), .int .u64 0])] ((((w.alloc (.cells #[.int .u64 (h : Nat), .int .u64 (l : Nat)] 27)).alloc (.cells #[.int .u64 (h' : Nat), .int .u64 (l' : Nat)] 27)).alloc (.cells #[.int .u64 0, .int .u64 0] 27)).alloc (.cells #[.int .u64 (c : Nat), .int .u64 0] 27))) :=
    ((((Bxs.nil w).alloc 27 [.int .u64 (h : Nat), .int .u64 (l : Nat)] rfl).alloc 27 [.int .u64 (h' : Nat), .int .u64 (l' : Nat)] (by rw [World.size_alloc])).alloc 27 [.int .u64 0, .int .u64 0] (by simp only [World.size_alloc])).alloc 27 [.int .u64 (c : Nat), .int .u64 0] (by simp only [World.size_alloc])
  go_enter Try.func26, Try.ntmps26
  go_wp2_with fail
  refine Ssz.region (Ext := Old) 7 (fun w' => Bxs w [(w.heap.size, 27, [.int .u64 (h : Nat), .int .u64 (l : Nat)]), (w.heap.size + 1, 27, [.int .u64 (h' : Nat), .int .u64 (l' : Nat)]), (w.heap.size + 1 + 1, 27, [.int .u64 0, .int .u64 0]), (w.heap.size + 1 + 1 + 1, 27, [.int .u64 (c : Nat), .int .u64 0])] w') (Ssz.Apart []) [18, 19, 20, 21, 22, 23, 24]
    [(18, Ssx.cst (.pointer (some ⟨w.heap.size, 1, none⟩))), (19, Ssx.cst (.int .u64 (l : Nat))), (20, Ssx.cst (.pointer (some ⟨w.heap.size + 1, 1, none⟩))), (21, Ssx.cst (.int .u64 (l' : Nat))), (22, Ssx.cst (m0)), (23, Ssx.cst (.agg #[.int .u64 (c : Nat), .int .u64 0])), (24, Ssx.cst (.agg #[.int .u64 (s : Nat), .int .u64 (t : Nat)]))]
    [] (by kernel_rfl) (by kernel_rfl) (by kernel_rfl) (by simp) (by kernel_rfl) (by intro p hp; cases hp) (by kernel_rfl) (by kernel_rfl) Old.refl (B0.out.mono (Old.of_drewN _ _)) ?apart ?good ?behind
  case apart => exact ⟨fun s hs => by simp at hs, fun s hs => by simp at hs⟩
  case good =>
    have hE : ∀ w w' : World, Old w w' → w.heap.size ≤ w'.heap.size := fun _ _ h => h.size
    refine And.intro (.inr ⟨by kernel_rfl, Ssz.keep (Ssx.val1 Old.refl (x := 2) (.pointer (some ⟨w.heap.size, 0, none⟩)) (by simp [Op.operands]) rfl (fun _ _ h => h) (fun ρ h1 hc w => by unfold execOp; simp [h1, go_sem]) (fun _ => rfl)) hE (by kernel_rfl)⟩) ?_
    refine And.intro (.inr ⟨by kernel_rfl, Ssz.keep (Ssy.cell Old.refl rfl rfl (⟨w.heap.size, 1, none⟩) (.int .u64 (l : Nat)) (fun _ _ h => h) (fun _ h => (h.row 0 rfl).cell (i := 1) rfl) Try.underlying25 rfl (fun _ => rfl)) hE (by kernel_rfl)⟩) ?_
    refine And.intro (.inr ⟨by kernel_rfl, Ssz.keep (Ssx.val1 Old.refl (x := 3) (.pointer (some ⟨w.heap.size + 1, 0, none⟩)) (by simp [Op.operands]) rfl (fun _ _ h => h) (fun ρ h1 hc w => by unfold execOp; simp [h1, go_sem]) (fun _ => rfl)) hE (by kernel_rfl)⟩) ?_
    refine And.intro (.inr ⟨by kernel_rfl, Ssz.keep (Ssy.cell Old.refl rfl rfl (⟨w.heap.size + 1, 1, none⟩) (.int .u64 (l' : Nat)) (fun _ _ h => h) (fun _ h => (h.row 1 rfl).cell (i := 1) rfl) Try.underlying25 rfl (fun _ => rfl)) hE (by kernel_rfl)⟩) ?_
    refine And.intro (.inr ⟨by kernel_rfl, Ssz.keep (Ssx.call rfl fun a' w' hC hop => ⟨42, #[.int .u64 (l : Nat), .int .u64 (l' : Nat)], ?_, (ML.out w').mono fun _ _ ⟨h1, h2⟩ => ⟨_, h1, hC.mono h2, h2, rfl⟩⟩) hE (by kernel_rfl)⟩) ?_
    · have h0 : a'.eval (.tmp 19) = .int .u64 (l : Nat) := hop 19 (by simp [Op.operands, Call.operands])
      have h1 : a'.eval (.tmp 21) = .int .u64 (l' : Nat) := hop 21 (by simp [Op.operands, Call.operands])
      simp [Act.eval] at h0 h1
      simp [h0, h1, go_sem]
    refine And.intro (.inr ⟨by kernel_rfl, Ssz.keep (Ssx.whole Old.refl rfl rfl (w.heap.size + 1 + 1 + 1) ([.int .u64 (c : Nat), .int .u64 0]) (fun _ _ h => h) (fun _ h => (h.row 3 rfl).rngX) Try.underlying27 rfl infoW (fun _ => rfl)) hE (by kernel_rfl)⟩) ?_
    refine And.intro (.inr ⟨by kernel_rfl, Ssz.keep (Ssx.call rfl fun a' w' hC hop => ⟨25, #[m0, .agg #[.int .u64 (c : Nat), .int .u64 0]], ?_, (AD.out w').mono fun _ _ ⟨h1, h2⟩ => ⟨_, h1, hC.mono h2, h2, rfl⟩⟩) hE (by kernel_rfl)⟩) ?_
    · have h0 : a'.eval (.tmp 22) = m0 := hop 22 (by simp [Op.operands, Call.operands])
      have h1 : a'.eval (.tmp 23) = .agg #[.int .u64 (c : Nat), .int .u64 0] := hop 23 (by simp [Op.operands, Call.operands])
      simp [Act.eval] at h0 h1
      simp [h0, h1, go_sem]
    exact trivial
  case behind =>
    intro vals wb hC hD hv
    have v18 : vals 18 = _ := hv _ (.head _)
    have v19 : vals 19 = _ := hv _ (.tail _ (.head _))
    have v20 : vals 20 = _ := hv _ (.tail _ (.tail _ (.head _)))
    have v21 : vals 21 = _ := hv _ (.tail _ (.tail _ (.tail _ (.head _))))
    have v22 : vals 22 = _ := hv _ (.tail _ (.tail _ (.tail _ (.tail _ (.head _)))))
    have v23 : vals 23 = _ := hv _ (.tail _ (.tail _ (.tail _ (.tail _ (.tail _ (.head _))))))
    have v24 : vals 24 = _ := hv _ (.tail _ (.tail _ (.tail _ (.tail _ (.tail _ (.tail _ (.head _)))))))
    simp only [Ssa.putAll, List.map_cons, List.map_nil, List.foldl_cons, List.foldl_nil, List.setIfInBounds_toArray, List.set_cons_succ, List.set_cons_zero, v18, v19, v20, v21, v22, v23, v24, List.drop_succ_cons, List.drop_zero]
    have B1 := hide hC
    clear hC hD hv v18 v19 v20 v21 v22 v23 v24 B0 ML AD x1 x2 x3
    clear vals
    go_wp2_with (refine wp_store_whole rfl 27 _ _ rfl (w.heap.size + 1 + 1) rfl [.int .u64 (s : Nat), .int .u64 (t : Nat)] rfl (B1.out.row 2 rfl) infoW rfl (two_ints _ _) ?_; rintro w9 h9
                 have E9 := B1.out.store 2 rfl _ h9
                 clear h9)
    exact bodyPost_ret (v := .agg #[.int .u64 (s : Nat), .int .u64 (t : Nat)]) (results_whole rfl rfl (E9.row 2 rfl) Try.underlying27 rfl infoW) rfl ⟨rfl, E9.old⟩

theorem wz_low (c : Nat) (hc : c < 18446744073709551616) : Value.agg #[.int .u64 (c : Nat), .int .u64 0] = wz ((c * 18446744073709551616 : Nat) : Int) := by
  have := wz_lit c 0 hc (by omega)
  rw [Nat.add_zero] at this
  exact this

theorem product_any (a b : Int) (w : World) : Calls Try.prog 26 #[wz a, wz b] w fun e w' => e = .returned (wz (a * b)) ∧ Old w w' := by
  have h1 := zN_cast a
  have h2 := zN_cast b
  have h3 := hi_lo (zN a)
  have h4 := hi_lo (zN b)
  have h5 := zN_lt a
  have h6 := zN_lt b
  unfold M at h3 h4
  rw [Nat.mod_eq_of_lt h5] at h3
  rw [Nat.mod_eq_of_lt h6] at h4
  have la := lo_lt (zN a)
  have lb := lo_lt (zN b)
  have PC := product_core (hi (zN a)) (lo (zN a)) (hi (zN b)) (lo (zN b))
  show Calls Try.prog 26 #[.agg #[.int .u64 (hi (zN a) : Nat), .int .u64 (lo (zN a) : Nat)], .agg #[.int .u64 (hi (zN b) : Nat), .int .u64 (lo (zN b) : Nat)]] w fun e w' => e = .returned (wz (a * b)) ∧ Old w w'
  revert h3 h4 la lb PC
  generalize hi (zN a) = h
  generalize lo (zN a) = l
  generalize hi (zN b) = h'
  generalize lo (zN b) = l'
  intro h3 h4 la lb PC
  obtain ⟨c, hc⟩ : ∃ c, c = (h * l' + l * h') % 18446744073709551616 := ⟨_, rfl⟩
  obtain ⟨p, hp⟩ : ∃ p, p = h * l' % 18446744073709551616 := ⟨_, rfl⟩
  obtain ⟨q, hq⟩ : ∃ q, q = l * h' % 18446744073709551616 := ⟨_, rfl⟩
  have cl : c < 18446744073709551616 := by omega
  have CR := cross (a := a) (b := b) (h := h) (l := l) (h' := h') (l' := l') (c := c) (by omega) (by omega) (by rw [hc]; simp)
  refine PC c p q (hi (zN (a * b))) (lo (zN (a * b))) (wz ((l * l' : Nat) : Int)) w ?_ ?_ ?_ (fun w => mulZ l l' la lb w) (fun w => ?_)
  · rw [IntKind.wrap_u64, hp]; simp
  · rw [IntKind.wrap_u64, hq]; simp
  · rw [IntKind.wrap_u64]
    have e : (c : Int) = ((h * l' : Nat) + (l * h' : Nat) : Int) % 18446744073709551616 := by omega
    rw [e]
    revert hp hq
    generalize h * l' = u
    generalize l * h' = v
    intro hp hq
    omega
  · have := addZ ((l * l' : Nat) : Int) ((c * 18446744073709551616 : Nat) : Int) w
    rw [← wz_low c cl, wz_eq (y := ((l * l' : Nat) : Int) + ((c * 18446744073709551616 : Nat) : Int)) (z := a * b) (by rw [← CR]; simp)] at this
    exact this

set_option maxHeartbeats 4000000 in
theorem told_any (a : Option Addr) (n cap : Nat) (k : Int) (z q : Int) (h0 : -170141183460469231731687303715884105728 ≤ z) (h1 : z < 170141183460469231731687303715884105728) (w : World) :
    Calls Try.prog 27 #[.slice a n cap, .int .i64 k, wz z, wz q] w fun e w' => e = .returned (sv (SV.of k z (zN q)) a n cap) ∧ Old w w' := by
  have WS := hide (fun w => withoutSign_any z h0 h1 w)
  unfold wz wv sv SV.of at *
  dsimp only
  clear h0 h1
  revert WS
  generalize hi (zN z) = zh
  generalize lo (zN z) = zl
  generalize hi (zN q) = qh
  generalize lo (zN q) = ql
  generalize hi z.natAbs = s
  generalize lo z.natAbs = t
  generalize decide (z < 0) = d
  intro WS
  have B0 : Hid (Bxs w [(w.heap.size, 27, [.int .u64 (zh : Nat), .int .u64 (zl : Nat)]), (w.heap.size + 1, 27, [.int .u64 (qh : Nat), .int .u64 (ql : Nat)]), (w.heap.size + 1 + 1, 29, stz)] (((w.alloc (.cells #[.int .u64 (zh : Nat), .int .u64 (zl : Nat)] 27)).alloc (.cells #[.int .u64 (qh : Nat), .int .u64 (ql : Nat)] 27)).alloc (.cells stz.toArray 29))) :=
    (((Bxs.nil w).alloc 27 [.int .u64 (zh : Nat), .int .u64 (zl : Nat)] rfl).alloc 27 [.int .u64 (qh : Nat), .int .u64 (ql : Nat)] (by rw [World.size_alloc])).alloc 29 stz (by simp only [World.size_alloc])
  go_enter Try.func27, Try.ntmps27
  go_wp2_with fail
  refine (WS.out _).mono ?_
  rintro e w1 ⟨rfl, o1⟩
  have B1 := hide ((B0.out.mono o1).alloc 27 [.int .u64 (s : Nat), .int .u64 (t : Nat)] rfl)
  have c0 := (B1.out.row 1 rfl).cell (i := 0) rfl
  have c1 := (B1.out.row 1 rfl).cell (i := 1) rfl
  clear B0 o1 WS
  go_wp2_with (refine wp_store_whole rfl 29 _ _ rfl (w.heap.size + 1 + 1) rfl [.slice a n cap, .int .i64 k, .int .u64 (s : Nat), .int .u64 (t : Nat), .int .u64 (qh : Nat), .int .u64 (ql : Nat), .bool d] rfl (B1.out.row 2 rfl) infoSt rfl (by intro v hv; simp at hv; rcases hv with rfl | rfl | rfl | rfl | rfl | rfl | rfl <;> rfl) ?_; rintro w9 h9
               have E9 := B1.out.store 2 rfl _ h9
               clear h9)
  exact bodyPost_ret (v := .agg #[.slice a n cap, .int .i64 k, .int .u64 (s : Nat), .int .u64 (t : Nat), .int .u64 (qh : Nat), .int .u64 (ql : Nat), .bool d]) (results_whole rfl rfl (E9.row 2 rfl) Try.underlying29 rfl infoSt) rfl ⟨rfl, E9.old⟩

theorem Vc.part {w : World} {b off m : Nat} {vs : List Nat} (h : Vc w (some ⟨b, off, none⟩) m vs) (j k : Nat) (hj : j + k ≤ m) : Vc w (some ⟨b, off + j, none⟩) k ((vs.drop j).take k) := by
  refine ⟨by rw [List.length_take, List.length_drop, h.len]; omega, by have := h.small; omega, fun x hx => h.each x (List.mem_of_mem_drop (List.mem_of_mem_take hx)), ?_⟩
  intro i v hv
  have h1 : (nums .u32 vs)[j + i]? = some v := by
    have : nums .u32 ((vs.drop j).take k) = ((nums .u32 vs).drop j).take k := by simp [nums, List.map_take, List.map_drop]
    rw [this, List.getElem?_take] at hv
    split at hv
    · rw [List.getElem?_drop] at hv; exact hv
    · cases hv
  obtain ⟨b', off', e, c⟩ := h.rd (j + i) v h1
  obtain ⟨rfl, rfl⟩ : b = b' ∧ off = off' := by simpa using e
  exact ⟨b, off + j, rfl, by rw [Nat.add_assoc]; exact c⟩
theorem Vc.some_ {w : World} {b : Option Addr} {k : Nat} {xs : List Nat} (h : Vc w b k xs) {i : Nat} (hi : i < k) : ∃ b' off, b = some ⟨b', off, none⟩ := by
  obtain ⟨b', off, _, e, _⟩ := h.rd.num (i := i) (by rw [h.len]; exact hi)
  exact ⟨b', off, e⟩
theorem Vc.next {w : World} {b : Option Addr} {k : Nat} {xs : List Nat} (h : Vc w b k xs) {i : Nat} (hi : i < k) : xs.take (i + 1) = xs.take i ++ [xs.getD i 0] := by
  have hil : i < xs.length := by rw [h.len]; exact hi
  rw [List.take_add_one, List.getElem?_eq_getElem hil, Option.toList_some]
  simp [List.getD, hil]
theorem Vc.all {w : World} {b : Option Addr} {k : Nat} {xs : List Nat} (h : Vc w b k xs) : xs.take k = xs := List.take_of_length_le (by rw [h.len]; exact Nat.le_refl _)

set_option maxHeartbeats 1000000 in
theorem within_any {b : Option Addr} {k : Nat} (ck : Nat) {xs : List Nat} (c : Nat) (w : World) (V : Vc w b k xs) :
    Calls Try.prog 50 #[.slice b k ck, .int .u32 (c : Nat)] w fun e w' => e = .returned (.bool (!(xs.any fun x => decide (c < x)))) ∧ Old w w' := by
  have HV := hide V
  have HK := hide V.small
  clear V
  go_enter Try.func50, Try.ntmps50
  go_wp2_with fail
  go_loopw [9] (fun vi wr => ∃ i : Nat, i ≤ k ∧ vi = .int .i64 (i : Int) ∧ Hid ((xs.take i).any (fun x => decide (c < x)) = false) ∧ Hid (Old w wr)) (fun vi _ => k - (intOf vi).toNat)
  case atStart => exact ⟨0, Nat.zero_le _, rfl, rfl, Old.refl _⟩
  case round =>
    obtain ⟨i, hi, rfl, HA, O⟩ := hrel
    by_cases hl : i < k
    · have t3 : decide (i < k) = true := by simpa using hl
      have t3' : decide ((i : Int) < (k : Int)) = true := by simp; omega
      obtain ⟨b', off, rfl⟩ := HV.out.some_ hl
      have cx := (HV.out.mono O.out).at hl
      have NX : Hid (¬ c < xs.getD i 0 → (xs.take (i + 1)).any (fun x => decide (c < x)) = false) := fun h => by
        rw [HV.out.next hl, List.any_append, HA.out]
        simpa using h
      have ND : Hid (c < xs.getD i 0 → xs.any (fun x => decide (c < x)) = true) := fun h => by
        rw [List.any_eq_true]
        refine ⟨xs.getD i 0, ?_, by simpa using h⟩
        have hil : i < xs.length := by rw [HV.out.len]; exact hl
        simp [List.getD, hil]
      have q0 : (0 : Int) ≤ i := by omega
      have q1 : (i : Int) < k := by omega
      have iw : wrap64 ((i : Int) + 1) = ((i + 1 : Nat) : Int) := by have := HK.out; unfold wrap64; omega
      clear HA
      revert cx NX ND
      generalize xs.getD i 0 = x
      intro cx NX ND
      by_cases hx : c < x
      · have t4 : decide ((c : Int) < (x : Int)) = true := by simp; omega
        have t5 : decide ((x : Int) > (c : Int)) = true := t4
        have E := hide (ND.out hx)
        clear NX ND
        go_wp2_with fail
        go_ret
        exact ⟨by rw [E.out]; rfl, O.out⟩
      · have t4 : decide ((c : Int) < (x : Int)) = false := by simp; omega
        have t5 : decide ((x : Int) > (c : Int)) = false := t4
        have E := hide (NX.out hx)
        clear NX ND
        go_wp2_with fail
        try rw [iw]
        exact ⟨⟨i + 1, by omega, rfl, E, O⟩, by simp [intOf]; omega⟩
    · obtain rfl : i = k := by omega
      have t3 : decide (i < i) = false := by simp
      have t3' : decide ((i : Int) < (i : Int)) = false := by simp
      rw [HV.out.all] at HA
      go_wp2
      go_ret
      exact ⟨by rw [HA.out]; rfl, O.out⟩

theorem horN_take (l : List Nat) {i : Nat} (h : i < l.length) : horN (l.take (i + 1)) = horN (l.take i) + l.getD i 0 * 2 ^ i := by
  induction l generalizing i with
  | nil => simp at h
  | cons x r ih =>
    cases i with
    | zero => simp [horN]
    | succ i =>
      rw [List.take_succ_cons, List.take_succ_cons, horN, horN, ih (i := i) (by simpa using h), Nat.pow_succ]
      simp only [List.getD_cons_succ]
      rw [← Nat.mul_assoc]
      omega
theorem wc_zero : wc ((0 : Nat) : Int) = [.int .u64 0, .int .u64 0] := by
  unfold wc
  rw [show hi (zN ((0 : Nat) : Int)) = 0 by decide +kernel, show lo (zN ((0 : Nat) : Int)) = 0 by decide +kernel]
  rfl
theorem wz_one (x : Nat) (h : x < 18446744073709551616) : Value.agg #[.int .u64 0, .int .u64 (x : Nat)] = wz (x : Nat) := by
  have := wz_lit 0 x (by omega) h
  rw [Nat.zero_mul, Nat.zero_add] at this
  exact this

set_option maxHeartbeats 4000000 in
theorem worth_any {b : Option Addr} {k : Nat} (ck : Nat) {xs : List Nat} (w : World) (V : Vc w b k xs) (hk : k ≤ 80) :
    Calls Try.prog 51 #[.slice b k ck] w fun e w' => e = .returned (wz (horN xs : Nat)) ∧ Old w w' := by
  have HV := hide V
  have HK := hide hk
  have B0 : Hid (Bxs w [(w.heap.size, 27, [.int .u64 0, .int .u64 0]), (w.heap.size + 1, 27, [.int .u64 0, .int .u64 0])] ((w.alloc (.cells #[.int .u64 0, .int .u64 0] 27)).alloc (.cells #[.int .u64 0, .int .u64 0] 27))) :=
    ((Bxs.nil w).alloc 27 [.int .u64 0, .int .u64 0] rfl).alloc 27 [.int .u64 0, .int .u64 0] (by rw [World.size_alloc])
  clear V hk
  go_enter Try.func51, Try.ntmps51
  go_wp2_with fail
  go_loopw [9] (fun vi wr => ∃ i : Nat, i ≤ k ∧ vi = .int .i64 (i : Int) ∧ Hid (Bxs w [(w.heap.size, 27, [.int .u64 0, .int .u64 0]), (w.heap.size + 1, 27, wc (horN (xs.take i) : Nat))] wr)) (fun vi _ => k - (intOf vi).toNat)
  case atStart =>
    refine ⟨0, Nat.zero_le _, rfl, ?_⟩
    rw [List.take_zero, show horN [] = 0 from rfl, wc_zero]
    exact B0
  case round =>
    clear B0
    obtain ⟨i, hi', rfl, R⟩ := hrel
    by_cases hl : i < k
    · have t3 : decide (i < k) = true := by simpa using hl
      have t3' : decide ((i : Int) < (k : Int)) = true := by simp; omega
      obtain ⟨b', off, rfl⟩ := HV.out.some_ hl
      have cx := (HV.out.mono R.out.old).at hl
      have xl : Hid (xs.getD i 0 < 4294967296) := HV.out.lt i
      have NX := hide (horN_take xs (i := i) (by rw [HV.out.len]; exact hl))
      have q0 : (0 : Int) ≤ i := by omega
      have q1 : (i : Int) < k := by omega
      have iw : wrap64 ((i : Int) + 1) = ((i + 1 : Nat) : Int) := by have := HK.out; unfold wrap64; omega
      have i8 : Hid (i < 128) := by have := HK.out; show i < 128; omega
      revert cx NX xl R
      generalize xs.getD i 0 = x
      generalize horN (xs.take i) = s
      intro R cx xl NX
      have ew : IntKind.u64.wrap (x : Int) = (x : Int) := by have := xl.out; rw [IntKind.wrap_u64]; omega
      have SH := hide (fun w => shiftZ (x : Int) i i8.out w)
      have AD := hide (fun w => addZ (s : Int) ((x : Int) * 2 ^ i) w)
      rw [← wz_one x (by have := xl.out; omega)] at SH
      rw [show (s : Int) + (x : Int) * 2 ^ i = ((horN (xs.take (i + 1)) : Nat) : Int) by rw [NX.out]; simp] at AD
      obtain ⟨m0, hm⟩ : ∃ m0, m0 = wz ((x : Int) * 2 ^ i) := ⟨_, rfl⟩
      rw [← hm] at SH AD
      rw [show wz (s : Int) = .agg (wc (s : Int)).toArray from rfl, show wz ((horN (xs.take (i + 1)) : Nat) : Int) = .agg (wc ((horN (xs.take (i + 1)) : Nat) : Int)).toArray from rfl] at AD
      clear hm NX i8
      go_wp2_with fail
      refine Ssz.region (Ext := Old) 7 (fun w' => Bxs w [(w.heap.size, 27, [.int .u64 0, .int .u64 0]), (w.heap.size + 1, 27, wc (s : Int))] w') (Ssz.Apart []) [14, 15, 16, 17, 18, 19, 20]
        [(14, Ssx.cst (.agg (wc (s : Int)).toArray)), (15, Ssx.cst (.int .u32 (x : Int))), (16, Ssx.cst (.int .u64 (x : Int))), (17, Ssx.cst (.agg #[.int .u64 0, .int .u64 (x : Int)])), (18, Ssx.cst (.int .i64 (i : Int))), (19, Ssx.cst (m0)), (20, Ssx.cst (.agg (wc ((horN (xs.take (i + 1)) : Nat) : Int)).toArray))]
        [] (by kernel_rfl) (by kernel_rfl) (by kernel_rfl) (by simp) (by kernel_rfl) (by intro p hp; cases hp) (by kernel_rfl) (by kernel_rfl) Old.refl (R.out.mono (Old.of_drewN _ _)) ?apart ?good ?behind
      case apart => exact ⟨fun s hs => by simp at hs, fun s hs => by simp at hs⟩
      case good =>
        have hE : ∀ w w' : World, Old w w' → w.heap.size ≤ w'.heap.size := fun _ _ h => h.size
        refine And.intro (.inr ⟨by kernel_rfl, Ssz.keep (Ssx.whole Old.refl rfl rfl (w.heap.size + 1) (wc (s : Int)) (fun _ _ h => h) (fun _ h => (h.row 1 rfl).rngX) Try.underlying27 rfl infoW (fun _ => rfl)) hE (by kernel_rfl)⟩) ?_
        refine And.intro (.inr ⟨by kernel_rfl, Ssz.keep (Ssx.mv Old.refl rfl rfl (fun _ _ h => h)) hE (by kernel_rfl)⟩) ?_
        refine And.intro (.inr ⟨by kernel_rfl, Ssz.keep (Ssx.val1 Old.refl (x := 15) (.int .u32 (x : Int)) (by simp [Op.operands]) rfl (fun _ _ h => h) (fun ρ h1 hc w => by unfold execOp; simp [h1, ew, go_sem]) (fun _ => rfl)) hE (by kernel_rfl)⟩) ?_
        refine And.intro (.inr ⟨by kernel_rfl, Ssz.keep (Ssx.val1 Old.refl (x := 16) (.int .u64 (x : Int)) (by simp [Op.operands]) rfl (fun _ _ h => h) (fun ρ h1 hc w => by unfold execOp; simp [h1, go_sem]) (fun _ => rfl)) hE (by kernel_rfl)⟩) ?_
        refine And.intro (.inr ⟨by kernel_rfl, Ssz.keep (Ssx.mv Old.refl rfl rfl (fun _ _ h => h)) hE (by kernel_rfl)⟩) ?_
        refine And.intro (.inr ⟨by kernel_rfl, Ssz.keep (Ssx.call rfl fun a' w' hC hop => ⟨52, #[.agg #[.int .u64 0, .int .u64 (x : Int)], .int .i64 (i : Int)], ?_, (SH.out w').mono fun _ _ ⟨h1, h2⟩ => ⟨_, h1, hC.mono h2, h2, rfl⟩⟩) hE (by kernel_rfl)⟩) ?_
        · have h0 : a'.eval (.tmp 17) = .agg #[.int .u64 0, .int .u64 (x : Int)] := hop 17 (by simp [Op.operands, Call.operands])
          have h1 : a'.eval (.tmp 18) = .int .i64 (i : Int) := hop 18 (by simp [Op.operands, Call.operands])
          simp [Act.eval] at h0 h1
          simp [h0, h1, go_sem]
        refine And.intro (.inr ⟨by kernel_rfl, Ssz.keep (Ssx.call rfl fun a' w' hC hop => ⟨25, #[.agg (wc (s : Int)).toArray, m0], ?_, (AD.out w').mono fun _ _ ⟨h1, h2⟩ => ⟨_, h1, hC.mono h2, h2, rfl⟩⟩) hE (by kernel_rfl)⟩) ?_
        · have h0 : a'.eval (.tmp 14) = .agg (wc (s : Int)).toArray := hop 14 (by simp [Op.operands, Call.operands])
          have h1 : a'.eval (.tmp 19) = m0 := hop 19 (by simp [Op.operands, Call.operands])
          simp [Act.eval] at h0 h1
          simp [h0, h1, go_sem]
        exact trivial
      case behind =>
        intro vals wb hC hD hv
        have v14 : vals 14 = _ := hv _ (.head _)
        have v15 : vals 15 = _ := hv _ (.tail _ (.head _))
        have v16 : vals 16 = _ := hv _ (.tail _ (.tail _ (.head _)))
        have v17 : vals 17 = _ := hv _ (.tail _ (.tail _ (.tail _ (.head _))))
        have v18 : vals 18 = _ := hv _ (.tail _ (.tail _ (.tail _ (.tail _ (.head _)))))
        have v19 : vals 19 = _ := hv _ (.tail _ (.tail _ (.tail _ (.tail _ (.tail _ (.head _))))))
        have v20 : vals 20 = _ := hv _ (.tail _ (.tail _ (.tail _ (.tail _ (.tail _ (.tail _ (.head _)))))))
        simp only [Ssa.putAll, List.map_cons, List.map_nil, List.foldl_cons, List.foldl_nil, List.setIfInBounds_toArray, List.set_cons_succ, List.set_cons_zero, v14, v15, v16, v17, v18, v19, v20, List.drop_succ_cons, List.drop_zero]
        have B1 := hide hC
        clear hC hD hv v14 v15 v16 v17 v18 v19 v20 R SH AD cx ew
        clear vals
        go_wp2_with (refine wp_store_whole rfl 27 _ _ rfl (w.heap.size + 1) rfl (wc ((horN (xs.take (i + 1)) : Nat) : Int)) rfl (B1.out.row 1 rfl) infoW rfl (wc_one _) ?_; rintro w9 h9
                     have E9 := hide (B1.out.store 1 rfl _ h9)
                     clear h9)
        try rw [iw]
        exact ⟨⟨i + 1, by omega, rfl, E9⟩, by simp [intOf]; omega⟩
    · obtain rfl : i = k := by omega
      have t3 : decide (i < i) = false := by simp
      have t3' : decide ((i : Int) < (i : Int)) = false := by simp
      rw [HV.out.all] at R
      clear HV HK
      go_wp2_with (first
        | refine wp_load_whole rfl 27 _ rfl (w.heap.size + 1) rfl (R.out.row 1 rfl) Try.underlying27 rfl infoW ?_
        | (refine wp_store_whole rfl 27 _ _ rfl w.heap.size rfl (wc (horN xs : Nat)) rfl (R.out.row 0 rfl) infoW rfl (wc_one _) ?_; rintro w9 h9
           have E9 := R.out.store 0 rfl _ h9
           clear h9))
      exact bodyPost_ret (v := .agg (wc (horN xs : Nat)).toArray) (results_whole rfl rfl (E9.row 0 rfl) Try.underlying27 rfl infoW) rfl ⟨rfl, E9.old⟩

/-- The pieces of a vector that lies at b, off: bins, count, places, squares. -/
def prv (b off n bb : Nat) (c c0 c1 c2 : Nat) : List Value := [.slice (some ⟨b, off, none⟩) (n + 1) c0, .int .u32 (c : Nat), .slice (some ⟨b, off + (n + 2), none⟩) bb c1, .slice (some ⟨b, off + (n + 2 + bb), none⟩) (2 * bb) c2]
theorem prv_one (b off n bb c c0 c1 c2 : Nat) : ∀ v ∈ prv b off n bb c c0 c1 c2, v.oneCell' = true := by
  intro v hv
  simp [prv] at hv
  rcases hv with rfl | rfl | rfl | rfl <;> rfl
theorem infoPr {a b c d : Value} : (Try.prog.info? 61).map (·.size) = some [a, b, c, d].length := by kernel_rfl

set_option maxHeartbeats 1000000 in
theorem inBins_any {b off n bb c c0 c1 c2 : Nat} {xs : List Nat} (w : World) (V : Vc w (some ⟨b, off, none⟩) (n + 1) xs) (hn : n ≤ 64) :
    Calls Try.prog 49 #[.agg (prv b off n bb c c0 c1 c2).toArray] w fun e w' => e = .returned (.int .u64 (sumN xs : Nat)) ∧ Old w w' := by
  have HV := hide V
  have HS := hide (sumN_bound xs V.each)
  have HN := hide (And.intro hn V.len)
  have B0 : Hid (Bxs w [(w.heap.size, 61, prv b off n bb c c0 c1 c2)] (w.alloc (.cells (prv b off n bb c c0 c1 c2).toArray 61))) := (Bxs.nil w).alloc 61 (prv b off n bb c c0 c1 c2) rfl
  clear V hn
  unfold prv at *
  obtain ⟨k, hk⟩ : ∃ k, k = n + 1 := ⟨_, rfl⟩
  rw [← hk] at HV B0 ⊢
  have HK : Hid (k ≤ 65) := by have := HN.out; show k ≤ 65; omega
  have HL : Hid (xs.length = k) := HV.out.len
  clear HN hk
  go_enter Try.func49, Try.ntmps49
  go_wp2_with fail
  go_loopw [3, 9] (fun vs vi wr => ∃ i : Nat, i ≤ k ∧ vi = .int .i64 (i : Int) ∧ vs = .int .u64 (sumN (xs.take i) : Nat) ∧ Hid (Old w wr)) (fun _ vi _ => k - (intOf vi).toNat)
  case atStart => exact ⟨0, Nat.zero_le _, rfl, rfl, B0.out.old⟩
  case round =>
    clear B0
    obtain ⟨i, hi, rfl, rfl, O⟩ := hrel
    by_cases hl : i < k
    · have t3 : decide (i < k) = true := by simpa using hl
      have t3' : decide ((i : Int) < (k : Int)) = true := by simp; omega
      have cx := (HV.out.mono O.out).at hl
      have xl := HV.out.lt i
      have NX := hide (sumN_take xs (i := i) (by rw [HL.out]; exact hl))
      have BB : sumN (xs.take i) ≤ 4294967296 * 65 := by
        have h1 := sumN_bound (xs.take i) (fun x hx => HV.out.each x (List.mem_of_mem_take hx))
        have h2 : (xs.take i).length ≤ 65 := by rw [List.length_take]; have := HK.out; have := HL.out; omega
        omega
      have q0 : (0 : Int) ≤ i := by omega
      have q1 : (i : Int) < k := by omega
      have iw : wrap64 ((i : Int) + 1) = ((i + 1 : Nat) : Int) := by have := HK.out; unfold wrap64; omega
      revert cx NX xl BB
      generalize xs.getD i 0 = x
      generalize sumN (xs.take i) = s
      intro cx xl NX BB
      have ew : IntKind.u64.wrap (x : Int) = (x : Int) := by rw [IntKind.wrap_u64]; omega
      have es : IntKind.u64.wrap ((s : Int) + (x : Int)) = ((s + x : Nat) : Int) := by rw [IntKind.wrap_u64]; omega
      clear xl BB
      go_wp2_with fail
      try rw [iw]
      exact ⟨⟨i + 1, by omega, rfl, by rw [NX.out, Int.natCast_add], O⟩, by simp [intOf]; omega⟩
    · obtain rfl : i = k := by omega
      have t3 : decide (i < i) = false := by simp
      have t3' : decide ((i : Int) < (i : Int)) = false := by simp
      rw [HV.out.all]
      go_wp2
      go_ret
      exact ⟨rfl, O.out⟩

set_option maxHeartbeats 1000000 in
theorem counts_any {b off n bb c c0 c1 c2 : Nat} {xs : List Nat} (w : World) (V : Vc w (some ⟨b, off, none⟩) (n + 1) xs) (hn : n ≤ 64) :
    Calls Try.prog 53 #[.agg (prv b off n bb c c0 c1 c2).toArray] w fun e w' => ∃ g, w.heap.size ≤ g ∧ e = .returned (.slice (some ⟨g, 0, none⟩) (n + 1) (n + 1)) ∧ Row w' g 3 (ints (xs.map fun (x : Nat) => (x : Int))) ∧ Old w w' := by
  have HV := hide V
  have HN := hide (And.intro hn V.len)
  obtain ⟨k, hk⟩ : ∃ k, k = n + 1 := ⟨_, rfl⟩
  have B0 : Hid (Bxs w [(w.heap.size, 61, prv b off n bb c c0 c1 c2), (w.heap.size + 1, 3, ints (List.replicate k 0))] ((w.alloc (.cells (prv b off n bb c c0 c1 c2).toArray 61)).alloc (.cells (ints (List.replicate k 0)).toArray 3))) :=
    ((Bxs.nil w).alloc 61 (prv b off n bb c c0 c1 c2) rfl).alloc 3 _ (by rw [World.size_alloc])
  clear V hn
  unfold prv at *
  rw [← hk] at HV B0 ⊢
  have HK : Hid (k ≤ 65) := by have := HN.out; show k ≤ 65; omega
  have HL : Hid (xs.length = k) := HV.out.len
  have MK : ∀ w : World, (Instr.makeSlice 22 (.int .i64 (k : Int)) (.int .i64 (k : Int))).run Try.prog w = .ok (.slice (some ⟨w.heap.size, 0, none⟩) k k) (w.alloc (.cells (ints (List.replicate k 0)).toArray 3)) := make_ints k (by have := HK.out; omega)
  have k65 : (k : Int) ≤ 65 := by have := HK.out; omega
  clear HN hk
  go_enter Try.func53, Try.ntmps53
  go_wp2_with fail
  clear MK
  go_loopw [13] (fun vi wr => ∃ i : Nat, i ≤ k ∧ vi = .int .i64 (i : Int) ∧ Hid (Row wr (w.heap.size + 1) 3 (ints ((List.range k).map fun j => if j < i then ((xs.getD j 0 : Nat) : Int) else 0))) ∧ Hid (Old w wr)) (fun vi _ => k - (intOf vi).toNat)
  case atStart =>
    refine ⟨0, Nat.zero_le _, rfl, ?_, B0.out.old⟩
    have : (List.range k).map (fun j => if j < 0 then ((xs.getD j 0 : Nat) : Int) else 0) = List.replicate k 0 := by
      apply List.ext_getElem
      · simp
      · intro j h1 h2; simp
    show Row _ _ _ _
    rw [this]
    exact B0.out.row 1 rfl
  case round =>
    clear B0
    obtain ⟨i, hi, rfl, R, O⟩ := hrel
    by_cases hl : i < k
    · have t3 : decide (i < k) = true := by simpa using hl
      have t3' : decide ((i : Int) < (k : Int)) = true := by simp; omega
      have cx := (HV.out.mono O.out).at hl
      have xl := HV.out.lt i
      have NX : Hid (((List.range k).map fun j => if j < i then ((xs.getD j 0 : Nat) : Int) else 0).set i ((xs.getD i 0 : Nat) : Int) = (List.range k).map fun j => if j < i + 1 then ((xs.getD j 0 : Nat) : Int) else 0) := by
        show _ = _
        apply List.ext_getElem
        · simp
        · intro j h1 h2
          simp only [List.getElem_set, List.getElem_map, List.getElem_range]
          by_cases e : i = j
          · subst e; rw [if_pos rfl, if_pos (by omega)]
          · rw [if_neg e]
            by_cases hj : j < i
            · rw [if_pos hj, if_pos (by omega)]
            · rw [if_neg hj, if_neg (by omega)]
      have cz : ∃ z : Int, wr.cell? ⟨w.heap.size + 1, i, none⟩ = some (.int .i64 z) := ⟨_, row_at R.out (by simp; exact hl)⟩
      obtain ⟨z, cz⟩ := cz
      have fz := R.out.free i
      have q0 : (0 : Int) ≤ i := by omega
      have q1 : (i : Int) < k := by omega
      have iw : wrap64 ((i : Int) + 1) = ((i + 1 : Nat) : Int) := by have := HK.out; unfold wrap64; omega
      have R1 := hide (R.out.set i (.int .i64 ((xs.getD i 0 : Nat) : Int)))
      rw [ints_set, NX.out] at R1
      have O1 := hide (O.out.grown (grown_set wr (w.heap.size + 1) i (.int .i64 ((xs.getD i 0 : Nat) : Int))) (by omega))
      clear NX R O
      revert cx xl R1 O1
      generalize xs.getD i 0 = x
      intro cx xl R1 O1
      have ew : IntKind.i64.wrap (x : Int) = (x : Int) := by rw [IntKind.wrap_i64]; omega
      clear xl
      go_wp2_with fail
      try rw [iw]
      exact ⟨⟨i + 1, by omega, rfl, R1, O1⟩, by simp [intOf]; omega⟩
    · obtain rfl : i = k := by omega
      have t3 : decide (i < i) = false := by simp
      have t3' : decide ((i : Int) < (i : Int)) = false := by simp
      have E : (List.range i).map (fun j => if j < i then ((xs.getD j 0 : Nat) : Int) else 0) = xs.map fun (x : Nat) => (x : Int) := by
        apply List.ext_getElem
        · simp [HL.out]
        · intro j h1 h2
          have hj : j < xs.length := by simpa using h2
          simp only [List.getElem_map, List.getElem_range]
          rw [if_pos (by rw [← HL.out]; exact hj)]
          simp [List.getD, hj]
      rw [E] at R
      clear E
      go_wp2
      go_ret
      exact ⟨w.heap.size + 1, by omega, rfl, R.out, O.out⟩
end Go.Proofs.Ythaaajepolahfaa
