/-
  Package limb: what place, ofSeed, Cut and Glue answer.
-/
import Derived.Test.YtienijnggccnfaaLimbC
import Derived.Laws.Bits64b
namespace Go.Proofs.Ytienijnggccnfaa
open Go.RowKit Limb
set_option linter.unusedVariables false

/-- A number out of an array by value. -/
theorem index_num {P : Program} {t e : TypeId} {n : Nat} {k : IntKind} (hu : P.underlying t = some (.array n e)) (he : P.underlying e = some (.int k)) (hsz : ∀ w : World, (sizeOf e).run P w = .ok 1 w) {xs : List Nat} (hx : xs.length = n) {i z : Nat} (hi : xs[i]? = some z) (w : World) :
    (Instr.index t (.agg (nums k xs).toArray) (.int .i64 (i : Int))).run P w = .ok (.int k (z : Int)) w := by
  have hil : i < n := by rw [← hx]; exact (List.getElem?_eq_some_iff.1 hi).1
  have h1 : (0 : Int) ≤ i ∧ (i : Int) < (n : Int) := by omega
  simp [Instr.index, asIntOf, run_underlying hu, h1, hsz, part, isAgg, run_underlying he, nums, hi, hil]

theorem tmod7 (k : Nat) : Int.tmod (k : Int) 7 = ((k % 7 : Nat) : Int) := by
  rw [Int.tmod_eq_emod_of_nonneg (by omega)]; omega

theorem place_any (k : Nat) (hk : k < 32) (w : World) :
    Calls Try.prog 12 #[.int .i64 (k : Nat)] w fun e w' => e = .returned (.tuple #[.int .i64 ((k / 7 : Nat) : Int), .int .i64 ((8 * (k % 7) : Nat) : Int)]) ∧ w' = w := by
  have e7 := tdiv7 k
  have m7 := tmod7 k
  go_enter Try.func12, Try.ntmps12
  go_wp2
  go_ret2
  refine ⟨?_, rfl⟩
  congr 4 <;> omega

/-- The first i numbers of four are not too great. -/
def okTo (l : List Nat) (i : Nat) : Bool := (List.range i).all fun j => decide (l.getD j 0 < 72057594037927936)
theorem okTo_step {l : List Nat} {i y : Nat} (hy : l[i]? = some y) : okTo l (i + 1) = (okTo l i && decide (y < 72057594037927936)) := by
  unfold okTo
  rw [List.range_succ, List.all_append]
  simp only [List.all_cons, List.all_nil, Bool.and_true]
  rw [List.getD_eq_getElem?_getD (i := i), hy]
  rfl
theorem okTo_no {l : List Nat} {i y : Nat} (hi : i < 4) (hy : l[i]? = some y) (h : ¬ y < 72057594037927936) : glueOk l = false := by
  rw [← Bool.not_eq_true, glueOk_iff]
  intro hA
  have := hA i (by omega)
  rw [List.getD_eq_getElem?_getD, hy, Option.getD_some] at this
  unfold top at this
  rw [if_pos hi] at this
  exact h this
theorem okTo_all {l : List Nat} {y : Nat} (h4 : okTo l 4 = true) (hy : l[4]? = some y) : glueOk l = decide (y < 4294967296) := by
  rw [Bool.eq_iff_iff, glueOk_iff, decide_eq_true_iff]
  unfold okTo at h4
  simp only [List.all_eq_true, List.mem_range, decide_eq_true_eq] at h4
  constructor
  · intro h
    have := h 4 (by omega)
    rw [List.getD_eq_getElem?_getD, hy, Option.getD_some] at this
    exact this
  · intro h j hj
    unfold top
    split
    · rename_i hj4; exact h4 j hj4
    · obtain rfl : j = 4 := by omega
      rw [List.getD_eq_getElem?_getD, hy, Option.getD_some]; exact h

set_option maxHeartbeats 2000000 in
theorem ofSeed_any (l : List Nat) (hl : l.length = 5) (w : World) :
    Calls Try.prog 13 #[.agg (nums .u64 l).toArray] w fun e w' => e = .returned (.bool (glueOk l)) ∧ Old w w' := by
  have HL := hide hl
  clear hl
  have R0 : Hid (Row (w.alloc (.cells (nums .u64 l).toArray 24)) w.heap.size 24 (nums .u64 l)) := Row.new _ _ _
  have O0 := Old.of_alloc w (.cells (nums .u64 l).toArray 24)
  go_enter Try.func13, Try.ntmps13
  go_wp2_with fail
  go_loop [7] (fun vi => ∃ i : Nat, i ≤ 4 ∧ vi = .int .i64 (i : Nat) ∧ Hid (okTo l i = true)) (fun vi => (4 - intOf vi).toNat)
  case atStart => exact ⟨0, by omega, rfl, rfl⟩
  case round =>
    obtain ⟨i, hi, rfl, OK⟩ := hrel
    by_cases hi4 : i = 4
    · subst hi4
      rw [show ((4 : Nat) : Int) = 4 from rfl]
      obtain ⟨y, Hy, cy⟩ := R0.out.num (i := 4) (by rw [HL.out]; omega)
      have E := hide (okTo_all OK.out Hy.out)
      have D : decide ((y : Int) < 4294967296) = decide (y < 4294967296) := by rw [decide_eq_decide]; omega
      rw [← D] at E
      clear D
      by_cases hb : (y : Int) < 4294967296
      · have d1 : decide ((y : Int) < 4294967296) = true := decide_eq_true hb
        rw [d1] at E
        clear hb
        go_wp2
        go_ret
        exact ⟨by rw [E.out]; rfl, O0⟩
      · have d1 : decide ((y : Int) < 4294967296) = false := decide_eq_false hb
        rw [d1] at E
        clear hb
        go_wp2
        go_ret
        exact ⟨by rw [E.out]; rfl, O0⟩
    · have hil : i < 4 := by omega
      have i0 : (0 : Int) ≤ i := by omega
      have i1 : (i : Int) < 4 := by omega
      have d0 : decide ((i : Int) < 4) = true := decide_eq_true i1
      obtain ⟨y, Hy, cy⟩ := R0.out.num (i := i) (by rw [HL.out]; omega)
      by_cases hb : y < 72057594037927936
      · have d1 : decide ((72057594037927936 : Int) ≤ y) = false := decide_eq_false (by omega)
        have E := hide (okTo_step Hy.out)
        have HB := hide hb
        clear hb
        go_wp2
        go_round
        case rel => exact ⟨i + 1, by omega, by go_num, by show _ = _; rw [E.out, OK.out, decide_eq_true HB.out]; rfl⟩
        case measure => simp [intOf]; omega
      · have d1 : decide ((72057594037927936 : Int) ≤ y) = true := decide_eq_true (by omega)
        have E := hide (okTo_no hil Hy.out hb)
        clear hb
        go_wp2
        go_ret
        exact ⟨by rw [E.out]; rfl, O0⟩

/-- What stands of the numbers when the first i bytes have come. -/
def cutTo (s : List Nat) (i : Nat) : List Nat := (List.range 5).map fun j => leN (((s.take (7 * j + 7)).take i).drop (7 * j))
theorem cutTo_length (s : List Nat) (i : Nat) : (cutTo s i).length = 5 := by simp [cutTo]
theorem cutTo_get (s : List Nat) (i : Nat) {j : Nat} (hj : j < 5) : (cutTo s i)[j]? = some (leN (((s.take (7 * j + 7)).take i).drop (7 * j))) := by simp [cutTo, hj]
theorem cutTo_zero (s : List Nat) : cutTo s 0 = z5 := by simp [cutTo, leN, List.range_succ, z5]
theorem cutTo_all {s : List Nat} (hs : s.length = 32) : cutTo s 32 = cutL s := by
  unfold cutTo cutL
  apply List.map_congr_left
  intro j _
  rw [List.take_of_length_le (i := 32) (by rw [List.length_take]; omega)]
theorem leN_snoc : ∀ (xs : List Nat) (b : Nat), leN (xs ++ [b]) = leN xs + b * 256 ^ xs.length
  | [], b => by simp [leN]
  | x :: xs, b => by
    rw [List.cons_append, leN, leN_snoc xs b, leN, List.length_cons, Nat.pow_succ, Nat.mul_add, Nat.add_assoc]
    congr 2
    rw [← Nat.mul_assoc, ← Nat.mul_assoc, Nat.mul_comm 256 b, Nat.mul_assoc, Nat.mul_assoc, Nat.mul_comm 256]
/-- One byte more, above the others. -/
theorem cutTo_step {s : List Nat} (hb : ∀ b ∈ s, b < 256) {i b y : Nat} (hi : s[i]? = some b) (hl : i < 35) (hy : (cutTo s i)[i / 7]? = some y) :
    y < 2 ^ (8 * (i % 7)) ∧ (cutTo s i).set (i / 7) (y + b * 2 ^ (8 * (i % 7))) = cutTo s (i + 1) := by
  have hq : i / 7 < 5 := by omega
  have hil : i < s.length := (List.getElem?_eq_some_iff.1 hi).1
  rw [cutTo_get s i hq] at hy
  have hy' := Option.some.inj hy
  have hlen : (((s.take (7 * (i / 7) + 7)).take i).drop (7 * (i / 7))).length = i % 7 := by
    rw [List.length_drop, List.length_take, List.length_take]; omega
  have hp : (2 : Nat) ^ (8 * (i % 7)) = 256 ^ (i % 7) := by rw [Nat.pow_mul]
  refine ⟨?_, ?_⟩
  · have := leN_lt (l := ((s.take (7 * (i / 7) + 7)).take i).drop (7 * (i / 7))) fun b hx => hb b (List.mem_of_mem_take (List.mem_of_mem_take (List.mem_of_mem_drop hx)))
    rw [hlen, hy'] at this
    rw [hp]; exact this
  · apply List.ext_getElem?
    intro j
    rw [List.getElem?_set]
    by_cases hj : j < 5
    · rw [cutTo_get s (i + 1) hj, cutTo_length]
      by_cases e : i / 7 = j
      · rw [if_pos e, if_pos (by omega)]
        subst e
        have hit : i < (s.take (7 * (i / 7) + 7)).length := by rw [List.length_take]; omega
        have hg : (s.take (7 * (i / 7) + 7))[i] = b := by
          have := (List.getElem?_eq_some_iff.1 hi).2
          simp [this]
        rw [List.take_succ_eq_append_getElem hit, hg, List.drop_append_of_le_length (by rw [List.length_take, List.length_take]; omega), leN_snoc, hlen, hy', hp]
      · rw [if_neg e, cutTo_get s i hj]
        by_cases h1 : i < 7 * j
        · rw [List.drop_eq_nil_of_le (by rw [List.length_take, List.length_take]; omega), List.drop_eq_nil_of_le (by rw [List.length_take, List.length_take]; omega)]
        · rw [List.take_of_length_le (i := i) (by rw [List.length_take]; omega), List.take_of_length_le (i := i + 1) (by rw [List.length_take]; omega)]
    · rw [List.getElem?_eq_none (by rw [cutTo_length]; omega), List.getElem?_eq_none (by rw [cutTo_length]; omega)]
      split
      · rename_i e; omega
      · rfl

/-- Three blocks: the seed, and twice five numbers. -/
structure DC (w : World) (s : List Nat) (l m : List Nat) (wr : World) : Prop where
  a : Row wr w.heap.size 26 (nums .u8 s)
  b : Row wr (w.heap.size + 1) 24 (nums .u64 l)
  c : Row wr (w.heap.size + 2) 24 (nums .u64 m)
  old : Old w wr
theorem DC.start (w : World) (s : List Nat) : DC w s z5 z5 (((w.alloc (.cells (nums .u8 s).toArray 26)).alloc (.cells (nums .u64 z5).toArray 24)).alloc (.cells (nums .u64 z5).toArray 24)) := by
  have B := Row.new (w.alloc (.cells (nums .u8 s).toArray 26)) 24 (nums .u64 z5)
  have C := Row.new ((w.alloc (.cells (nums .u8 s).toArray 26)).alloc (.cells (nums .u64 z5).toArray 24)) 24 (nums .u64 z5)
  rw [size_allocL] at B C
  rw [size_allocL] at C
  exact ⟨((Row.new _ _ _).mono (Old.of_alloc _ _)).mono (Old.of_alloc _ _), B.mono (Old.of_alloc _ _), C, ((Old.of_alloc _ _).alloc _).alloc _⟩
theorem DC.set {w : World} {s l m : List Nat} {wr : World} (h : DC w s l m wr) (i z : Nat) : DC w s l (m.set i z) (wr.setCell ⟨w.heap.size + 2, i, none⟩ (.int .u64 (z : Int))) :=
  ⟨h.a.grown (grown_set _ _ _ _) (by omega), h.b.grown (grown_set _ _ _ _) (by omega), by rw [← nums_set]; exact h.c.set _ _, h.old.grown (grown_set _ _ _ _) (by omega)⟩
theorem DC.drewN {w : World} {s l m : List Nat} {wr : World} (h : DC w s l m wr) (n : Nat) : DC w s l m (wr.drewN n) := ⟨h.a.drewN n, h.b.drewN n, h.c.drewN n, h.old.drewN n⟩

theorem shl_or {y b c z : Nat} (hb : b < 256) (hc : c ≤ 48) (hy : y < 2 ^ c) (hz : z = b * 2 ^ c) : IntKind.u64.wrap ((b : Int) * 2 ^ c) = (z : Int) ∧ bits .or .u64 (y : Int) (z : Int) = ((y + z : Nat) : Int) := by
  have hp : (2 : Nat) ^ c ≤ 2 ^ 48 := Nat.pow_le_pow_right (by omega) hc
  have hzl : z < 18446744073709551616 := by
    rw [hz]
    have : b * 2 ^ c ≤ 255 * 2 ^ 48 := Nat.mul_le_mul (by omega) hp
    exact Nat.lt_of_le_of_lt this (by decide)
  have hyl : y < 18446744073709551616 := Nat.lt_of_lt_of_le hy (Nat.le_trans hp (by decide))
  constructor
  · have e : (b : Int) * 2 ^ c = ((z : Nat) : Int) := by rw [hz]; simp
    rw [e]
    show (z : Int) % 18446744073709551616 = z
    omega
  · rw [bits_or_u64_nat y z hyl hzl]
    have := Nat.shiftLeft_add_eq_or_of_lt hy b
    rw [Nat.shiftLeft_eq, ← hz, Nat.or_comm] at this
    rw [← this, Nat.add_comm]

set_option maxHeartbeats 4000000 in
theorem cut_any : CutC := by
  intro s hl hb w
  have HL := hide hl
  have HB := hide hb
  have K0 := hide (DC.start w s)
  clear hl hb
  go_enter Try.func7, Try.ntmps7
  go_wp2_with (refine wp_load_whole rfl 26 _ rfl w.heap.size rfl K0.out.a Try.underlying26 rfl (infoS HL.out) ?_)
  go_loopw [9] (fun vi wr => ∃ k : Nat, k ≤ 32 ∧ vi = .int .i64 (k : Nat) ∧ Hid (DC w s z5 (cutTo s k) wr)) (fun vi _ => (32 - intOf vi).toNat)
  case atStart => exact ⟨0, by omega, rfl, by show DC _ _ _ _ _; rw [cutTo_zero]; exact K0.out⟩
  case round =>
    clear K0
    obtain ⟨k, hk, rfl, R⟩ := hrel
    by_cases hk32 : k = 32
    · subst hk32
      rw [show ((32 : Nat) : Int) = 32 from rfl]
      have R2 := hide R.out
      rw [cutTo_all HL.out] at R2
      clear R
      go_wp2_with (first
        | refine wp_load_whole rfl 24 _ rfl (w.heap.size + 2) rfl R2.out.c Try.underlying24 rfl (info5 (cutL_length s)) ?_
        | (refine wp_store_whole rfl 24 _ _ rfl (w.heap.size + 1) rfl (nums .u64 (cutL s)) rfl R2.out.b (info5 (cutL_length s)) (by rw [nums_length, nums_length, cutL_length]; rfl) (nums_oneCell _ _) ?_; rintro w9 h9))
      have K9 : Row w9 (w.heap.size + 1) 24 (nums .u64 (cutL s)) := by rw [h9]; exact R2.out.b.whole _
      have O9 : Old w w9 := by rw [h9]; exact R2.out.old.grown (grown_setRow _ _ _) (by omega)
      exact bodyPost_ret (v := .agg (nums .u64 (cutL s)).toArray) (results_whole rfl rfl K9 Try.underlying24 rfl (info5 (cutL_length s))) rfl ⟨rfl, O9⟩
    · have hkl : k < 32 := by omega
      have hq : k / 7 < 5 := by omega
      obtain ⟨b, Hb, cb⟩ := R.out.a.num (i := k) (by rw [HL.out]; omega)
      have lb := HB.out b (List.mem_of_getElem? Hb.out)
      obtain ⟨y, Hy, cy⟩ := R.out.c.num (i := k / 7) (by rw [cutTo_length]; exact hq)
      have fy := R.out.c.free (k / 7)
      have IX : ∀ w', (Instr.index 26 (.agg (nums .u8 s).toArray) (.int .i64 (k : Int))).run Try.prog w' = .ok (.int .u8 (b : Int)) w' := fun w' => index_num Try.underlying26 Try.underlying5 (fun w => by kernel_rfl) HL.out Hb.out w'
      obtain ⟨yl, ST⟩ := cutTo_step HB.out Hb.out (by omega) Hy.out
      obtain ⟨e1, e2⟩ := shl_or lb (show 8 * (k % 7) ≤ 48 by omega) yl rfl
      have R3 := hide (R.out.set (k / 7) (y + b * 2 ^ (8 * (k % 7))))
      rw [ST] at R3
      have P0 := hide (place_any k hkl)
      have c0 : 8 * (k % 7) ≤ 48 := by omega
      clear yl ST cb
      revert P0 e1 e2 R3 c0
      generalize 8 * (k % 7) = c
      generalize b * 2 ^ c = z
      intro e1 e2 R3 P0 c0
      have k0 : (0 : Int) ≤ k := by omega
      have k1 : (k : Int) < 32 := by omega
      have d0 : decide ((k : Int) < 32) = true := decide_eq_true k1
      have q0 : (0 : Int) ≤ ((k / 7 : Nat) : Int) := by omega
      have q1 : ((k / 7 : Nat) : Int) < 5 := by omega
      have c1 : (0 : Int) ≤ c := by omega
      have c2 : (c : Int) ≤ 64 := by omega
      go_wp2_with fail
      refine (P0.out _).mono ?_
      rintro e w' ⟨rfl, rfl⟩
      go_wp2_with fail
      go_region
      go_wp2
      go_roundw
      case rel =>
        refine ⟨k + 1, by omega, by go_num, ?_⟩
        rw [← Int.natCast_add]
        exact R3.out.drewN 1
      case measure => simp [intOf]; omega

/-- The bytes so far. -/
theorem shr_byte {y c z : Nat} (hz : z = y / 2 ^ c % 256) : IntKind.u8.wrap ((y : Int) / 2 ^ c) = (z : Int) := by
  show ((y : Int) / 2 ^ c) % 256 = z
  rw [hz, show (y : Int) / 2 ^ c = ((y / 2 ^ c : Nat) : Int) by simp]
  omega

theorem gluePart_next (l : List Nat) {i y : Nat} (hi : i < 32) (hy : l[i / 7]? = some y) : (gluePart l i).set i (y / 2 ^ (8 * (i % 7)) % 256) = gluePart l (i + 1) := by
  have e : y / 2 ^ (8 * (i % 7)) % 256 = byteN (l.getD (i / 7) 0) (i % 7) := by
    rw [List.getD_eq_getElem?_getD, hy, Option.getD_some]
    unfold byteN
    rw [Nat.pow_mul]
  rw [e]
  apply List.ext_getElem?
  intro m
  rw [List.getElem?_set, gluePart_length]
  by_cases hm : m < 32
  · rw [gluePart_get l (i + 1) hm]
    by_cases e : i = m
    · rw [if_pos e, if_pos hi]
      subst e
      rw [if_pos (by omega)]
    · rw [if_neg e, gluePart_get l i hm]
      by_cases h1 : m < i
      · rw [if_pos h1, if_pos (by omega)]
      · rw [if_neg h1, if_neg (by omega)]
  · rw [List.getElem?_eq_none (by rw [gluePart_length]; omega), List.getElem?_eq_none (by rw [gluePart_length]; omega), if_neg (by omega)]

/-- Three blocks: five numbers, and twice a seed. -/
structure DG (w w2 : World) (l : List Nat) (s t : List Nat) (wr : World) : Prop where
  a : Row wr w.heap.size 24 (nums .u64 l)
  b : Row wr (w.heap.size + 1) 26 (nums .u8 s)
  c : Row wr w2.heap.size 26 (nums .u8 t)
  lt : w.heap.size + 2 ≤ w2.heap.size
  old : Old w wr
theorem DG.set {w w2 : World} {l s t : List Nat} {wr : World} (h : DG w w2 l s t wr) (i z : Nat) : DG w w2 l s (t.set i z) (wr.setCell ⟨w2.heap.size, i, none⟩ (.int .u8 (z : Int))) :=
  have := h.lt
  ⟨h.a.grown (grown_set _ _ _ _) (by omega), h.b.grown (grown_set _ _ _ _) (by omega), by rw [← nums_set]; exact h.c.set _ _, h.lt, h.old.grown (grown_set _ _ _ _) (by omega)⟩

set_option maxHeartbeats 4000000 in
theorem glue_any : GlueC := by
  intro l hl hb w
  have HL := hide hl
  have HB := hide hb
  clear hb
  have A0 : Hid (Row ((w.alloc (.cells (nums .u64 l).toArray 24)).alloc (.cells (nums .u8 z32).toArray 26)) w.heap.size 24 (nums .u64 l)) := (Row.new _ _ _).mono (Old.of_alloc _ _)
  have B0 : Hid (Row ((w.alloc (.cells (nums .u64 l).toArray 24)).alloc (.cells (nums .u8 z32).toArray 26)) (w.heap.size + 1) 26 (nums .u8 z32)) := by
    have B := Row.new (w.alloc (.cells (nums .u64 l).toArray 24)) 26 (nums .u8 z32)
    rw [size_allocL] at B
    exact B
  have O0 := (Old.of_alloc w (.cells (nums .u64 l).toArray 24)).alloc (.cells (nums .u8 z32).toArray 26)
  have C0 := hide (ofSeed_any l hl)
  clear hl
  by_cases hok : glueOk l = true
  · have HS : Hid (glueS l = glueL l) := by show _ = _; unfold glueS; rw [if_pos hok]
    have HE : Hid (glueE l = 0) := by show _ = _; unfold glueE; rw [if_pos hok]
    rw [hok] at C0
    clear hok
    go_enter Try.func10, Try.ntmps10
    go_wp2_with (refine wp_load_whole rfl 24 _ rfl w.heap.size rfl A0.out Try.underlying24 rfl (info5 HL.out) ?_)
    refine (C0.out _).mono ?_
    rintro e w2 ⟨rfl, o2⟩
    have K2 : Hid (DG w w2 l z32 z32 (w2.alloc (.cells (nums .u8 z32).toArray 26))) := by
      have := o2.size
      rw [size_allocL, size_allocL] at this
      exact ⟨(A0.out.mono o2).mono (Old.of_alloc _ _), (B0.out.mono o2).mono (Old.of_alloc _ _), Row.new _ _ _, by omega, (O0.trans o2).alloc _⟩
    clear A0 B0 O0 C0 o2
    go_wp2_with fail
    go_loopw [12] (fun vi wr => ∃ k : Nat, k ≤ 32 ∧ vi = .int .i64 (k : Nat) ∧ Hid (DG w w2 l z32 (gluePart l k) wr)) (fun vi _ => (32 - intOf vi).toNat)
    case atStart => exact ⟨0, by omega, rfl, by show DG _ _ _ _ _ _; rw [gluePart_zero]; exact K2.out⟩
    case round =>
      clear K2
      obtain ⟨k, hk, rfl, R⟩ := hrel
      by_cases hk32 : k = 32
      · subst hk32
        rw [show ((32 : Nat) : Int) = 32 from rfl]
        have R2 := hide R.out
        rw [gluePart_all] at R2
        clear R
        go_wp2_with (first
          | refine wp_load_whole rfl 26 _ rfl w2.heap.size rfl R2.out.c Try.underlying26 rfl (infoS (glueL_length l)) ?_
          | (refine wp_store_whole rfl 26 _ _ rfl (w.heap.size + 1) rfl (nums .u8 (glueL l)) rfl R2.out.b (infoS (glueL_length l)) (by rw [nums_length, nums_length, glueL_length]; rfl) (nums_oneCell _ _) ?_; rintro w9 h9
             have K9 : Row w9 (w.heap.size + 1) 26 (nums .u8 (glueL l)) := by rw [h9]; exact R2.out.b.whole _
             have O9 : Old w w9 := by rw [h9]; exact R2.out.old.grown (grown_setRow _ _ _) (by omega)
             clear h9))
        rw [HS.out, HE.out]
        exact bodyPost_ret (v := .tuple #[.agg (nums .u8 (glueL l)).toArray, .int .i64 0]) (results_whole2 rfl rfl rfl K9 Try.underlying26 rfl (infoS (glueL_length l))) rfl ⟨rfl, O9⟩
      · have hkl : k < 32 := by omega
        have hq : k / 7 < 5 := by omega
        obtain ⟨y, Hy, cy⟩ := R.out.a.num (i := k / 7) (by rw [HL.out]; exact hq)
        obtain ⟨x, Hx, cx⟩ := R.out.c.num (i := k) (by rw [gluePart_length]; exact hkl)
        have fx := R.out.c.free k
        have P0 := hide (place_any k hkl)
        have c0 : 8 * (k % 7) ≤ 48 := by omega
        have e1 := shr_byte (y := y) (c := 8 * (k % 7)) rfl
        have R3 := hide (R.out.set k (y / 2 ^ (8 * (k % 7)) % 256))
        rw [gluePart_next l hkl Hy.out] at R3
        revert P0 c0 e1 R3
        generalize 8 * (k % 7) = c
        generalize y / 2 ^ c % 256 = z
        intro P0 c0 e1 R3
        have k0 : (0 : Int) ≤ k := by omega
        have k1 : (k : Int) < 32 := by omega
        have d0 : decide ((k : Int) < 32) = true := decide_eq_true k1
        have q0 : (0 : Int) ≤ ((k / 7 : Nat) : Int) := by omega
        have q1 : ((k / 7 : Nat) : Int) < 5 := by omega
        have c1 : (0 : Int) ≤ c := by omega
        have c2 : (c : Int) ≤ 64 := by omega
        go_wp2_with fail
        refine (P0.out _).mono ?_
        rintro e w' ⟨rfl, rfl⟩
        go_wp2
        go_roundw
        case rel =>
          refine ⟨k + 1, by omega, by go_num, ?_⟩
          exact R3
        case measure => simp [intOf]; omega
  · have hok' : glueOk l = false := by simpa using hok
    have HS : Hid (glueS l = z32) := by show _ = _; unfold glueS; rw [if_neg hok]; rfl
    have HE : Hid (glueE l = 4) := by show _ = _; unfold glueE; rw [if_neg hok]
    rw [hok'] at C0
    clear hok hok'
    go_enter Try.func10, Try.ntmps10
    go_wp2_with (refine wp_load_whole rfl 24 _ rfl w.heap.size rfl A0.out Try.underlying24 rfl (info5 HL.out) ?_)
    refine (C0.out _).mono ?_
    rintro e w2 ⟨rfl, o2⟩
    have B2 := hide (B0.out.mono o2)
    have O2 := O0.trans o2
    clear A0 B0 O0 C0 o2
    go_wp2_with (first
      | (refine wp_store_whole rfl 26 _ _ rfl (w.heap.size + 1) rfl (nums .u8 z32) rfl B2.out (infoS rfl) rfl (nums_oneCell _ _) ?_; rintro w9 h9
         have K9 : Row w9 (w.heap.size + 1) 26 (nums .u8 z32) := by rw [h9]; exact B2.out.whole _
         have O9 : Old w w9 := by rw [h9]; exact O2.grown (grown_setRow _ _ _) (by omega)
         clear h9))
    rw [HS.out, HE.out]
    exact bodyPost_ret (v := .tuple #[.agg (nums .u8 z32).toArray, .int .i64 4]) (results_whole2 rfl rfl rfl K9 Try.underlying26 rfl (infoS rfl)) rfl ⟨rfl, O9⟩

theorem limbK : LimbK := ⟨cut_any, glue_any⟩

end Go.Proofs.Ytienijnggccnfaa
