/-
  What the turns and the quarter rounds answer: math/bits.RotateLeft32, cipher.Quarter; the document's turn.
-/
import Derived.Test.YtjbpnhibgafdmaaDoorProg
import Derived.Test.YtjbpnhibgafdmaaDoorCha
import Derived.Test.YtjbpnhibgafdmaaDoorMem
namespace Go.Proofs.YtjbpnhibgafdmaaDoor
open Go.RowKit Cha
set_option linter.unusedVariables false

theorem or_rot (n x m k : Nat) (hn : n ≤ 32) (hm : m = 2 ^ n) (hk : k = 2 ^ (32 - n)) (hx : x < 4294967296) : bits .or .u32 ((x : Int) * (m : Int) % 4294967296) ((x : Int) / (k : Int)) = ((rot n x : Nat) : Int) := by
  have e1 : (x : Int) * (m : Int) % 4294967296 = ((x * m % 4294967296 : Nat) : Int) := by rw [Int.natCast_emod, Int.natCast_mul]; rfl
  have e2 : (x : Int) / (k : Int) = ((x / k : Nat) : Int) := (Int.natCast_ediv _ _).symm
  have h2 : x / k < 4294967296 := Nat.lt_of_le_of_lt (Nat.div_le_self _ _) hx
  rw [e1, e2, u32_or_nat _ _ (Nat.mod_lt _ (by omega)) h2, hm, hk, rot_or n x hn hx]
theorem or_ror (n x m k : Nat) (hn : n ≤ 32) (hm : m = 2 ^ n) (hk : k = 2 ^ (32 - n)) (hx : x < 4294967296) : bits .or .u32 ((x : Int) / (m : Int)) ((x : Int) * (k : Int) % 4294967296) = ((ror n x : Nat) : Int) := by
  have e1 : (x : Int) * (k : Int) % 4294967296 = ((x * k % 4294967296 : Nat) : Int) := by rw [Int.natCast_emod, Int.natCast_mul]; rfl
  have e2 : (x : Int) / (m : Int) = ((x / m : Nat) : Int) := (Int.natCast_ediv _ _).symm
  have h2 : x / m < 4294967296 := Nat.lt_of_le_of_lt (Nat.div_le_self _ _) hx
  rw [e1, e2, u32_or_nat _ _ h2 (Nat.mod_lt _ (by omega)), hm, hk, ror_or n x hn hx]
theorem xor_nat {x y : Int} {a b : Nat} (hx : x = a) (hy : y = b) (ha : a < 4294967296) (hb : b < 4294967296) : bits .xor .u32 x y = ((a ^^^ b : Nat) : Int) := by
  rw [hx, hy]; exact u32_xor_nat a b ha hb
theorem add_nat {x y : Int} {a b : Nat} (hx : x = a) (hy : y = b) : (x + y) % 4294967296 = ((add a b : Nat) : Int) := by
  rw [hx, hy]
  unfold add
  omega
theorem add3_nat {x y z : Int} {a b c : Nat} (hx : x = a) (hy : y = b) (hz : z = c) : (x + y + z) % 4294967296 = ((add (add a b) c : Nat) : Int) := by
  rw [hx, hy, hz]
  unfold add
  omega

theorem Rot16_any (z : Int) (x : Nat) (hz : z = x) (hx : x < 4294967296) (w : World) :
    Calls Tryd.prog 66 #[.int .u32 z, .int .i64 16] w fun e w' => e = .returned (.int .u32 (rot 16 x : Nat)) ∧ w' = w := by
  subst hz
  have hb : bits .and .u64 16 31 = 16 := by decide
  go_enter Tryd.func66, Tryd.ntmps66
  go_wp2
  go_ret
  exact ⟨congrArg (fun z => Ending.returned (.int .u32 z)) (or_rot 16 x 65536 65536 (by omega) (by decide) (by decide) hx), rfl⟩

theorem turn16_any (z : Int) (x : Nat) (hz : z = x) (hx : x < 4294967296) (w : World) :
    Calls Tryd.prog 65 #[.int .u32 z, .int .u64 16] w fun e w' => e = .returned (.int .u32 (rot 16 x : Nat)) ∧ w' = w := by
  subst hz
  go_enter Tryd.func65, Tryd.ntmps65
  go_wp2
  go_ret
  exact ⟨congrArg (fun z => Ending.returned (.int .u32 z)) (or_rot 16 x 65536 65536 (by omega) (by decide) (by decide) hx), rfl⟩

theorem Rot12_any (z : Int) (x : Nat) (hz : z = x) (hx : x < 4294967296) (w : World) :
    Calls Tryd.prog 66 #[.int .u32 z, .int .i64 12] w fun e w' => e = .returned (.int .u32 (rot 12 x : Nat)) ∧ w' = w := by
  subst hz
  have hb : bits .and .u64 12 31 = 12 := by decide
  go_enter Tryd.func66, Tryd.ntmps66
  go_wp2
  go_ret
  exact ⟨congrArg (fun z => Ending.returned (.int .u32 z)) (or_rot 12 x 4096 1048576 (by omega) (by decide) (by decide) hx), rfl⟩

theorem turn12_any (z : Int) (x : Nat) (hz : z = x) (hx : x < 4294967296) (w : World) :
    Calls Tryd.prog 65 #[.int .u32 z, .int .u64 12] w fun e w' => e = .returned (.int .u32 (rot 12 x : Nat)) ∧ w' = w := by
  subst hz
  go_enter Tryd.func65, Tryd.ntmps65
  go_wp2
  go_ret
  exact ⟨congrArg (fun z => Ending.returned (.int .u32 z)) (or_rot 12 x 4096 1048576 (by omega) (by decide) (by decide) hx), rfl⟩

theorem Rot8_any (z : Int) (x : Nat) (hz : z = x) (hx : x < 4294967296) (w : World) :
    Calls Tryd.prog 66 #[.int .u32 z, .int .i64 8] w fun e w' => e = .returned (.int .u32 (rot 8 x : Nat)) ∧ w' = w := by
  subst hz
  have hb : bits .and .u64 8 31 = 8 := by decide
  go_enter Tryd.func66, Tryd.ntmps66
  go_wp2
  go_ret
  exact ⟨congrArg (fun z => Ending.returned (.int .u32 z)) (or_rot 8 x 256 16777216 (by omega) (by decide) (by decide) hx), rfl⟩

theorem turn8_any (z : Int) (x : Nat) (hz : z = x) (hx : x < 4294967296) (w : World) :
    Calls Tryd.prog 65 #[.int .u32 z, .int .u64 8] w fun e w' => e = .returned (.int .u32 (rot 8 x : Nat)) ∧ w' = w := by
  subst hz
  go_enter Tryd.func65, Tryd.ntmps65
  go_wp2
  go_ret
  exact ⟨congrArg (fun z => Ending.returned (.int .u32 z)) (or_rot 8 x 256 16777216 (by omega) (by decide) (by decide) hx), rfl⟩

theorem Rot7_any (z : Int) (x : Nat) (hz : z = x) (hx : x < 4294967296) (w : World) :
    Calls Tryd.prog 66 #[.int .u32 z, .int .i64 7] w fun e w' => e = .returned (.int .u32 (rot 7 x : Nat)) ∧ w' = w := by
  subst hz
  have hb : bits .and .u64 7 31 = 7 := by decide
  go_enter Tryd.func66, Tryd.ntmps66
  go_wp2
  go_ret
  exact ⟨congrArg (fun z => Ending.returned (.int .u32 z)) (or_rot 7 x 128 33554432 (by omega) (by decide) (by decide) hx), rfl⟩

theorem turn7_any (z : Int) (x : Nat) (hz : z = x) (hx : x < 4294967296) (w : World) :
    Calls Tryd.prog 65 #[.int .u32 z, .int .u64 7] w fun e w' => e = .returned (.int .u32 (rot 7 x : Nat)) ∧ w' = w := by
  subst hz
  go_enter Tryd.func65, Tryd.ntmps65
  go_wp2
  go_ret
  exact ⟨congrArg (fun z => Ending.returned (.int .u32 z)) (or_rot 7 x 128 33554432 (by omega) (by decide) (by decide) hx), rfl⟩

theorem Quarter_any (a b c d : Nat) (ha : a < 4294967296) (hb : b < 4294967296) (hc : c < 4294967296) (hd : d < 4294967296) (w : World) :
    Calls Tryd.prog 64 #[.int .u32 a, .int .u32 b, .int .u32 c, .int .u32 d] w fun e w' =>
      e = .returned (.tuple #[.int .u32 (qA a b c d : Nat), .int .u32 (qB a b c d : Nat), .int .u32 (qC a b c d : Nat), .int .u32 (qD a b c d : Nat)]) ∧ w' = w := by
  go_enter Tryd.func64, Tryd.ntmps64
  go_wp2_with fail
  refine (Rot16_any _ (d ^^^ a1 a b) (xor_nat rfl (add_nat rfl rfl) hd (a1_lt _ _)) (xor_lt hd (a1_lt _ _)) _).mono ?_
  rintro e w' ⟨rfl, rfl⟩
  rw [show rot 16 (d ^^^ a1 a b) = d1 a b d from rfl]
  go_wp2_with fail
  refine (Rot12_any _ (b ^^^ c1 a b c d) (xor_nat rfl (add_nat rfl rfl) hb (c1_lt _ _ _ _)) (xor_lt hb (c1_lt _ _ _ _)) _).mono ?_
  rintro e w' ⟨rfl, rfl⟩
  rw [show rot 12 (b ^^^ c1 a b c d) = b1 a b c d from rfl]
  go_wp2_with fail
  refine (Rot8_any _ (d1 a b d ^^^ qA a b c d) (xor_nat rfl (add3_nat rfl rfl rfl) (d1_lt hd) (qA_lt _ _ _ _)) (xor_lt (d1_lt hd) (qA_lt _ _ _ _)) _).mono ?_
  rintro e w' ⟨rfl, rfl⟩
  rw [show rot 8 (d1 a b d ^^^ qA a b c d) = qD a b c d from rfl]
  go_wp2_with fail
  refine (Rot7_any _ (b1 a b c d ^^^ qC a b c d) (xor_nat rfl (add3_nat rfl rfl rfl) (b1_lt hb) (qC_lt _ _ _ _)) (xor_lt (b1_lt hb) (qC_lt _ _ _ _)) _).mono ?_
  rintro e w' ⟨rfl, rfl⟩
  rw [show rot 7 (b1 a b c d ^^^ qC a b c d) = qB a b c d from rfl]
  go_wp2
  have h1 : ((a : Int) + b + (b1 a b c d : Nat)) % 4294967296 = ((qA a b c d : Nat) : Int) := add3_nat rfl rfl rfl
  have h2 : ((c : Int) + (d1 a b d : Nat) + (qD a b c d : Nat)) % 4294967296 = ((qC a b c d : Nat) : Int) := add3_nat rfl rfl rfl
  rw [h1, h2]
  exact bodyPost_ret (v := .tuple #[.int .u32 (qA a b c d : Nat), .int .u32 (qB a b c d : Nat), .int .u32 (qC a b c d : Nat), .int .u32 (qD a b c d : Nat)]) (by kernel_rfl) rfl ⟨rfl, rfl⟩
end Go.Proofs.YtjbpnhibgafdmaaDoor
