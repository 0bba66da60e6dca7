/-
  The walks of layer 4's statements: each law returns true at any key, counter, nonce and bytes, where the package's table is as its initialiser lays it.
-/
import Derived.Test.YtcnggbmgmegogaaDoorAwake4
import Derived.Test.YtcnggbmgmegogaaDoorOpen
namespace Go.Proofs.YtcnggbmgmegogaaDoor
open Go.RowKit Cha
set_option linter.unusedVariables false

theorem is32 {v : Value} (h : IsInt .u32 v) : ∃ n : Nat, n < 4294967296 ∧ v = .int .u32 (n : Int) := by
  obtain ⟨a, rfl, h⟩ := h
  have := bounds_u32 h
  exact ⟨a.toNat, by omega, by congr; omega⟩

def four (a b c d : Nat) : List Nat := [a, b, c, d, 0, 0, 0, 0, 0, 0, 0, 0, 0, 0, 0, 0]
theorem four_lt {a b c d : Nat} (ha : a < 4294967296) (hb : b < 4294967296) (hc : c < 4294967296) (hd : d < 4294967296) : ∀ x ∈ four a b c d, x < 4294967296 := by
  intro x hx
  simp only [four, List.mem_cons, List.not_mem_nil, or_false] at hx
  rcases hx with rfl | rfl | rfl | rfl | rfl | rfl | rfl | rfl | rfl | rfl | rfl | rfl | rfl | rfl | rfl | rfl <;> omega
theorem four_quart (a b c d : Nat) : quart (four a b c d) 0 1 2 3 = four (qA a b c d) (qB a b c d) (qC a b c d) (qD a b c d) := rfl
theorem four_call (a b c d : Nat) (ha : a < 4294967296) (hb : b < 4294967296) (hc : c < 4294967296) (hd : d < 4294967296) (w : World) :
    Calls Tryd.prog 9 #[.agg (nums .u32 (four a b c d)).toArray, .int .i64 0, .int .i64 1, .int .i64 2, .int .i64 3] w fun e w' =>
      e = .returned (.agg (nums .u32 (four (qA a b c d) (qB a b c d) (qC a b c d) (qD a b c d))).toArray) ∧ Old w w' := by
  have := refQuarter_any (four a b c d) rfl (four_lt ha hb hc hd) 0 1 2 3 (by constructor <;> simp) w
  rw [four_quart] at this
  exact this

set_option maxHeartbeats 2000000 in
theorem walk_CipherQuarters (v0 v1 v2 v3 : Value) (w : World) (w0 : IsInt .u32 v0) (w1 : IsInt .u32 v1) (w2 : IsInt .u32 v2) (w3 : IsInt .u32 v3) (ht : QTab w) :
    Calls Tryd.prog 3 #[v0, v1, v2, v3] w fun e w' => e = .returned (.bool true) ∧ Old w w' := by
  obtain ⟨a, ha, rfl⟩ := is32 w0
  obtain ⟨b, hb, rfl⟩ := is32 w1
  obtain ⟨c, hc, rfl⟩ := is32 w2
  obtain ⟨d, hd, rfl⟩ := is32 w3
  have HT := hide ht
  clear w0 w1 w2 w3 ht
  go_enter Tryd.func3, Tryd.ntmps3
  go_wp2_with fail
  refine (Quarter_any a b c d ha hb hc hd _).mono ?_
  rintro e w' ⟨rfl, rfl⟩
  go_wp2_with fail
  refine (four_call a b c d ha hb hc hd _).mono ?_
  rintro e w1 ⟨rfl, o1⟩
  generalize qA a b c d = qa
  generalize qB a b c d = qb
  generalize qC a b c d = qc
  generalize qD a b c d = qd
  have Z1 : Hid (Row (w1.alloc (.cells (nums .u32 (List.replicate 16 0)).toArray 25)) w1.heap.size 25 (nums .u32 (List.replicate 16 0))) := Row.new _ _ _
  have HI : Hid ((Tryd.prog.info? 25).map (·.size) = some (nums .u32 (four qa qb qc qd)).length) := by
    show _ = _
    rw [nums_length]; kernel_rfl
  go_wp2_with (first
    | (refine wp_store_whole rfl 25 _ _ rfl w1.heap.size rfl (nums .u32 (four qa qb qc qd)) rfl Z1.out HI.out rfl (nums_oneCell _ _) ?_; rintro w2 h2
       have K2 : Row w2 w1.heap.size 25 (nums .u32 (four qa qb qc qd)) := by rw [h2]; exact Z1.out.whole _
       have o2 : Old w1 w2 := by rw [h2]; exact (Old.of_alloc _ _).grown (grown_setRow _ _ _) (Nat.le_refl _)
       have O2 := o1.trans o2
       clear h2 o2 o1 Z1 HI))
  refine (awake4 _ (HT.out.mono O2)).mono ?_
  rintro e w3 ⟨rfl, o3⟩
  have K3 := K2.mono o3
  have O3 := O2.trans o3
  have h0 : w3.cell? ⟨w1.heap.size, 0, none⟩ = some (.int .u32 (qa : Nat)) := K3.cell rfl
  have h1 : w3.cell? ⟨w1.heap.size, 1, none⟩ = some (.int .u32 (qb : Nat)) := K3.cell rfl
  have h2 : w3.cell? ⟨w1.heap.size, 2, none⟩ = some (.int .u32 (qc : Nat)) := K3.cell rfl
  have h3 : w3.cell? ⟨w1.heap.size, 3, none⟩ = some (.int .u32 (qd : Nat)) := K3.cell rfl
  clear K2 K3 O2 o3
  go_wp2
  go_ret
  exact ⟨by simp, O3⟩

/-- One step back: turned to the right, then under y. -/
theorem back_ror (n m k : Nat) (hn : n ≤ 32) (hm : m = 2 ^ n) (hk : k = 2 ^ (32 - n)) {x y z : Nat} (hx : x < 4294967296) (hy : y < 4294967296) (hz : z < 4294967296) (e : x = rot n (z ^^^ y)) :
    bits .xor .u32 (bits .or .u32 ((x : Int) / (m : Int)) ((x : Int) * (k : Int) % 4294967296)) (y : Int) = (z : Int) := by
  rw [or_ror n x m k hn hm hk hx, e, ror_rot n _ hn (xor_lt hz hy), u32_xor_nat _ _ (xor_lt hz hy) hy, xor_back]
theorem back_sub {x y z : Nat} (hz : z < 4294967296) (hy : y < 4294967296) (e : x = add z y) : ((x : Int) - (y : Int)) % 4294967296 = (z : Int) := by
  rw [e]; unfold add; omega

set_option maxHeartbeats 2000000 in
theorem walk_CipherTurns (v0 v1 v2 v3 : Value) (w : World) (w0 : IsInt .u32 v0) (w1 : IsInt .u32 v1) (w2 : IsInt .u32 v2) (w3 : IsInt .u32 v3) (ht : QTab w) :
    Calls Tryd.prog 7 #[v0, v1, v2, v3] w fun e w' => e = .returned (.bool true) ∧ Old w w' := by
  obtain ⟨a, ha, rfl⟩ := is32 w0
  obtain ⟨b, hb, rfl⟩ := is32 w1
  obtain ⟨c, hc, rfl⟩ := is32 w2
  obtain ⟨d, hd, rfl⟩ := is32 w3
  have HT := hide ht
  have hq := hide (Quarter_any a b c d ha hb hc hd w)
  have LA := a1_lt a b
  have LD := d1_lt (a := a) (b := b) hd
  have LC := c1_lt a b c d
  have LB := b1_lt (a := a) (c := c) (d := d) hb
  have h1 := back_ror 7 128 33554432 (by omega) (by decide) (by decide) (qB_lt hb) (qC_lt a b c d) LB (x := qB a b c d) rfl
  have h2 := back_sub (c1_lt a b c d) (qD_lt hd) (x := qC a b c d) rfl
  have h3 := back_ror 8 256 16777216 (by omega) (by decide) (by decide) (qD_lt hd) (qA_lt a b c d) LD (x := qD a b c d) rfl
  have h4 := back_sub (a1_lt a b) LB (x := qA a b c d) rfl
  have h5 := back_ror 12 4096 1048576 (by omega) (by decide) (by decide) LB LC hb (x := b1 a b c d) rfl
  have h6 := back_sub hc LD (x := c1 a b c d) rfl
  have h7 := back_ror 16 65536 65536 (by omega) (by decide) (by decide) LD LA hd (x := d1 a b d) rfl
  have h8 := back_sub ha hb (x := a1 a b) rfl
  revert hq h1 h2 h3 h4 h5 h6 h7 h8
  generalize qA a b c d = qa
  generalize qB a b c d = qb
  generalize qC a b c d = qc
  generalize qD a b c d = qd
  generalize a1 a b = x1
  generalize b1 a b c d = y1
  generalize c1 a b c d = z1
  generalize d1 a b d = t1
  intro hq h1 h2 h3 h4 h5 h6 h7 h8
  simp only [Int.cast_ofNat_Int] at h1 h3 h5 h7
  clear w0 w1 w2 w3 ht ha hb hc hd LA LB LC LD
  go_enter Tryd.func7, Tryd.ntmps7
  go_wp2_with fail
  refine hq.out.mono ?_
  rintro e w' ⟨rfl, rfl⟩
  go_wp2_with fail
  refine (awake4 _ HT.out).mono ?_
  rintro e w3 ⟨rfl, o3⟩
  rw [h6, h8]
  clear h1 h2 h3 h4 h5 h6 h7 h8 hq
  go_wp2
  go_ret
  exact ⟨by simp, o3⟩
end Go.Proofs.YtcnggbmgmegogaaDoor
