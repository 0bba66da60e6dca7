/-
  The landed mask, first part: isDonor, rise, Own, Pair, and vectors added and taken away in rows of the call's own.
-/
import Derived.Test.YtjbpnhibgafdmaaDoorMaskC
import Derived.Test.YtjbpnhibgafdmaaDoorRing
import Derived.Test.YtjbpnhibgafdmaaDoorBxs
namespace Go.Proofs.YtjbpnhibgafdmaaDoor
open Go.RowKit Cha M Vec Sl Mk
set_option linter.unusedVariables false

theorem maskDonor_any (z : Int) (w : World) :
    Calls Tryd.prog 27 #[.int .i64 z] w fun e w' => e = .returned (.bool (decide (1 ≤ z) && decide (z ≤ 64))) ∧ w' = w := by
  by_cases h1 : 1 ≤ z
  · have d1 : decide (1 ≤ z) = true := decide_eq_true h1
    rw [d1, Bool.true_and]
    clear h1
    go_enter Tryd.func27, Tryd.ntmps27
    go_wp2
    go_ret
    exact ⟨rfl, rfl⟩
  · have d1 : decide (1 ≤ z) = false := decide_eq_false h1
    rw [d1, Bool.false_and]
    clear h1
    go_enter Tryd.func27, Tryd.ntmps27
    go_wp2
    go_ret
    exact ⟨rfl, rfl⟩

set_option maxHeartbeats 1000000 in
theorem maskOwn_any (s : List Nat) (hl : s.length = 32) (hb : ∀ x ∈ s, x < 256) (n : Int) (w : World) (q : QTab w) :
    Calls Tryd.prog 11 #[.agg (nums .u8 s).toArray, .int .i64 n] w fun e w' =>
      ∃ g, w.heap.size ≤ g ∧ e = .returned (.slice (some ⟨g, 0, none⟩) (kept n 256) (kept n 256)) ∧ Row w' g 41 (nums .u32 (ownV s (kept n 256))) ∧ Old w w' := by
  have C := hide (fun (w' : World) (q : QTab w') => Vector_any s hl hb 4 (by omega) n w' q)
  have R0 : Hid (Row (w.alloc (.cells (nums .u8 s).toArray 32)) w.heap.size 32 (nums .u8 s)) := Row.new w _ _
  have O0 := Old.of_alloc w (.cells (nums .u8 s).toArray 32)
  have HQ := hide (q.mono O0)
  have HI : Hid ((Tryd.prog.info? 32).map (·.size) = some (nums .u8 s).length) := info_k hl
  unfold ownV
  clear hl hb q
  generalize kept n 256 = m at *
  go_enter Tryd.func11, Tryd.ntmps11
  go_wp2_with (refine wp_load_whole rfl 32 _ rfl w.heap.size rfl R0.out Tryd.underlying32 rfl HI.out ?_)
  refine (C.out _ HQ.out).mono ?_
  rintro e w1 ⟨g, g0, rfl, g1, o1⟩
  go_wp2
  go_ret
  exact ⟨g, Nat.le_trans O0.size g0, rfl, g1, O0.trans o1⟩

set_option maxHeartbeats 1000000 in
theorem maskPair_any (s p : Nat) (hp : p < 18446744073709551616) (n : Int) (w : World) (q : QTab w) :
    Calls Tryd.prog 8 #[.int .u64 s, .int .u64 p, .int .i64 n] w (MR w (agE s p) (kept n 256) (pairV (powP p s) (kept n 256))) := by
  have HQ := hide q
  have CA := hide (agree_any s p hp)
  have C1 := hide (fun (w' : World) (q : QTab w') => Derive_any (agN s p) (Nat.lt_trans (agN_lt s p) (by decide)) 2 (by omega) w' q)
  have C2 := hide (fun (w' : World) (q : QTab w') => Vector_any (derive (agN s p) 2) (derive_length _ _) (derive_lt _ _) 3 (by omega) n w' q)
  have EN : Hid (agE s p = 0 → agN s p = powP p s) := fun h => by unfold agN; rw [if_pos h]
  unfold pairV
  clear hp q
  revert CA C1 C2 EN
  generalize agN s p = k
  generalize agE s p = E
  generalize powP p s = k'
  generalize kept n 256 = m
  intro CA C1 C2 EN
  by_cases h0 : E = 0
  · subst h0
    obtain rfl : k = k' := EN.out rfl
    clear EN
    go_enter Tryd.func8, Tryd.ntmps8
    go_wp2_with fail
    refine (CA.out _).mono ?_
    rintro e w1 ⟨rfl, rfl⟩
    go_wp2_with fail
    refine (C1.out _ HQ.out).mono ?_
    rintro e w2 ⟨rfl, o1⟩
    go_wp2_with fail
    refine (C2.out _ (HQ.out.mono o1)).mono ?_
    rintro e w3 ⟨g, g0, rfl, g1, o2⟩
    go_wp2
    go_ret2
    exact ⟨fun h => absurd rfl h, fun _ => ⟨g, Nat.le_trans o1.size g0, rfl, g1⟩, o1.trans o2⟩
  · have t1 : ((E : Int) != 0) = true := by rw [bne_iff_ne]; omega
    have H0 := hide h0
    clear h0 EN
    go_enter Tryd.func8, Tryd.ntmps8
    go_wp2_with fail
    refine (CA.out _).mono ?_
    rintro e w1 ⟨rfl, rfl⟩
    go_wp2
    go_ret2
    exact ⟨fun _ => rfl, fun h => absurd h H0.out, Old.refl _⟩
end Go.Proofs.YtjbpnhibgafdmaaDoor
