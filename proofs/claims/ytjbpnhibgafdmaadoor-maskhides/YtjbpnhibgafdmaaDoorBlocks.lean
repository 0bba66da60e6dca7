/-
  (*cipher.state).add, (*cipher.state).bytes, cipher.Block.
-/
import Derived.Test.YtjbpnhibgafdmaaDoorRound
import Derived.Test.YtjbpnhibgafdmaaDoorStart
import Derived.Test.YtjbpnhibgafdmaaDoorVec
namespace Go.Proofs.YtjbpnhibgafdmaaDoor
open Go.RowKit Cha
set_option linter.unusedVariables false

set_option maxHeartbeats 1000000 in
theorem add_any (g : Nat) (xs ys : List Nat) (hx : xs.length = 16) (hy : ys.length = 16) (w : World) (row : Row w g 90 (nums .u32 xs)) :
    Calls Tryd.prog 59 #[.pointer (some ⟨g, 0, none⟩), .agg (nums .u32 ys).toArray] w fun e w' =>
      e = .returned (.tuple #[]) ∧ Row w' g 90 (nums .u32 (List.zipWith add xs ys)) ∧ w.grownBy w' (some g) := by
  have HX := hide hx
  have HY := hide hy
  have hxy := hide (hx.trans hy.symm)
  have hgl := row.lt
  clear hx hy
  go_enter Tryd.func59, Tryd.ntmps59
  go_wp2
  go_loopw [5] (fun vi wr => ∃ k : Nat, k ≤ 16 ∧ vi = .int .i64 (k : Nat) ∧ Row wr g 90 (nums .u32 (Vec.vpart add k xs ys)) ∧ Row wr w.heap.size 90 (nums .u32 ys) ∧ w.grownBy wr (some g)) (fun vi _ => (16 - intOf vi).toNat)
  case atStart => exact ⟨0, by omega, rfl, by rw [Vec.vpart_zero]; exact row.mono (Old.of_alloc _ _), Row.new _ _ _, grown_old (Old.of_alloc _ _) _⟩
  case round =>
    obtain ⟨k, hk, rfl, R1, R2, hgr⟩ := hrel
    by_cases hk16 : k = 16
    · subst hk16
      go_wp2
      go_end0
      refine ⟨rfl, ?_, hgr⟩
      rw [Vec.vpart_all _ _ _ _ HX.out HY.out] at R1
      exact R1
    · have hkl : k < 16 := by omega
      have hb : decide ((k : Int) < 16) = true := decide_eq_true (by omega)
      have hki : (0 : Int) ≤ k := by omega
      have hki2 : (k : Int) < 16 := by omega
      have h1 := R1.some (i := k) (by rw [Vec.vpart_length _ _ _ _ hxy.out, HX.out]; exact hkl)
      have h2 := R2.some (i := k) (by rw [HY.out]; exact hkl)
      have h3 := R1.free k
      go_wp2_with fail
      go_region
      go_wp2
      go_roundw
      case rel =>
        have hwx : k < xs.length := by rw [HX.out]; exact hkl
        have hwy : k < ys.length := by rw [HY.out]; exact hkl
        refine ⟨k + 1, by omega, by go_num, ?_, (R2.drewN 1).grown (grown_set _ _ _ _) (by omega), grown_trans hgr (grown_trans (grown_old ((Old.refl wr).drewN 1) _) (grown_set _ _ _ _))⟩
        have hv := Vec.vpart_step add k xs ys hxy.out xs[k] ys[k] (by simp [hwx]) (by simp [hwy])
        rw [← hv, ← nums_set]
        have e1 : at_ (Vec.vpart add k xs ys) k = xs[k] := by
          unfold at_
          rw [List.getD_eq_getElem?_getD, Vec.vpart_get _ _ _ _ hxy.out hwx]
          simp [hwx]
        have e2 : at_ ys k = ys[k] := by simp [at_, hwy]
        have e3 : ((at_ (Vec.vpart add k xs ys) k : Int) + (at_ ys k : Int)) % 4294967296 = ((add xs[k] ys[k] : Nat) : Int) := add_nat (by rw [e1]) (by rw [e2])
        rw [← e3]
        exact (R1.drewN 1).set _ _
      case measure => simp [intOf]; omega

/-- The first k bytes, zeros behind them. -/
def partB (s : List Nat) (k : Nat) : List Nat := (List.range 64).map fun i => if i < k then byte s i else 0
theorem partB_zero (s : List Nat) : partB s 0 = List.replicate 64 0 := by
  apply List.ext_getElem?
  intro i
  by_cases h : i < 64 <;> simp [partB, h, -List.reduceReplicate]
theorem partB_all (s : List Nat) : partB s 64 = Cha.bytes s := by
  apply List.ext_getElem?
  intro i
  by_cases h : i < 64 <;> simp [partB, Cha.bytes, h]
theorem partB_length (s : List Nat) (k : Nat) : (partB s k).length = 64 := by simp [partB]
theorem partB_step (s : List Nat) (k : Nat) (hk : k < 64) : (partB s k).set k (byte s k) = partB s (k + 1) := by
  apply List.ext_getElem?
  intro i
  rw [List.getElem?_set, partB_length]
  by_cases h : k = i
  · subst h; simp [partB, hk]
  · by_cases h' : i < 64
    · simp only [h, if_false, partB]
      simp [h']
      split <;> split <;> first | rfl | omega
    · simp [partB, h, h']

set_option maxHeartbeats 1000000 in
theorem bytes_any (g : Nat) (s : List Nat) (hs : s.length = 16) (w : World) (row : Row w g 90 (nums .u32 s)) :
    Calls Tryd.prog 60 #[.pointer (some ⟨g, 0, none⟩)] w fun e w' =>
      e = .returned (.agg (nums .u8 (Cha.bytes s)).toArray) ∧ Old w w' := by
  have HS := hide hs
  have hgl := row.lt
  clear hs
  go_enter Tryd.func60, Tryd.ntmps60
  go_wp2
  go_loopw [5] (fun vi wr => ∃ k : Nat, k ≤ 64 ∧ vi = .int .i64 (k : Nat) ∧ Row wr w.heap.size 83 (nums .u8 (List.replicate 64 0)) ∧ Row wr (w.heap.size + 1) 83 (nums .u8 (partB s k)) ∧ Old w wr) (fun vi _ => (64 - intOf vi).toNat)
  case atStart =>
    have e1 := size_alloc w (.cells (nums .u8 (List.replicate 64 0)).toArray 83)
    have K1 := Row.new w 83 (nums .u8 (List.replicate 64 0))
    have O1 := Old.of_alloc w (.cells (nums .u8 (List.replicate 64 0)).toArray 83)
    have K2 := Row.new (w.alloc (.cells (nums .u8 (List.replicate 64 0)).toArray 83)) 83 (nums .u8 (List.replicate 64 0))
    have O2 := Old.of_alloc (w.alloc (.cells (nums .u8 (List.replicate 64 0)).toArray 83)) (.cells (nums .u8 (List.replicate 64 0)).toArray 83)
    rw [e1] at K2
    refine ⟨0, by omega, rfl, K1.mono O2, ?_, O1.trans O2⟩
    rw [partB_zero]
    exact K2
  case round =>
    obtain ⟨k, hk, rfl, R2, R3, hol⟩ := hrel
    have R1 := row.mono hol
    by_cases hk64 : k = 64
    · subst hk64
      rw [partB_all] at R3
      have HI : Hid ((Tryd.prog.info? 83).map (·.size) = some (nums .u8 (Cha.bytes s)).length) := by
        show _ = _
        rw [nums_length, bytes_length]; kernel_rfl
      have HL : Hid ((nums .u8 (List.replicate 64 0)).length = (nums .u8 (Cha.bytes s)).length) := by
        show _ = _
        rw [nums_length, nums_length, bytes_length]; rfl
      go_wp2_with (first
        | refine wp_load_whole rfl 83 _ rfl (w.heap.size + 1) rfl R3 Tryd.underlying83 rfl HI.out ?_
        | (refine wp_store_whole rfl 83 _ _ rfl w.heap.size rfl (nums .u8 (Cha.bytes s)) rfl R2 HI.out HL.out (nums_oneCell _ _) ?_; rintro w9 h9))
      have K9 : Row w9 w.heap.size 83 (nums .u8 (Cha.bytes s)) := by rw [h9]; exact R2.whole _
      have O9 : Old w w9 := by rw [h9]; exact hol.grown (grown_setRow _ _ _) (by omega)
      exact bodyPost_ret (v := .agg (nums .u8 (Cha.bytes s)).toArray) (results_whole rfl rfl K9 Tryd.underlying83 rfl HI.out) rfl ⟨rfl, O9⟩
    · have hkl : k < 64 := by omega
      have hb : decide ((k : Int) < 64) = true := decide_eq_true (by omega)
      have hki : (0 : Int) ≤ k := by omega
      have hki2 : (k : Int) < 64 := by omega
      have h1 := R1.some (i := k / 4) (by rw [HS.out]; omega)
      have h2 := R3.some (i := k) (by rw [partB_length]; exact hkl)
      have h3 := R3.free k
      go_wp2
      go_roundw
      case rel =>
        refine ⟨k + 1, by omega, by go_num, R2.grown (grown_set _ _ _ _) (by omega), ?_, hol.grown (grown_set _ _ _ _) (by omega)⟩
        have e : ((at_ s (k / 4) : Nat) : Int) / 2 ^ (8 * (k % 4)) % 256 = ((byte s k : Nat) : Int) := by
          unfold byte
          rw [Int.natCast_emod, Int.natCast_ediv, Int.natCast_pow]; rfl
        rw [← partB_step s k hkl, ← nums_set, e]
        exact R3.set _ _
      case measure => simp [intOf]; omega

theorem QTab.mono {w w' : World} (h : QTab w) (o : Old w w') : QTab w' := by
  obtain ⟨t, fr, hr⟩ := h
  exact ⟨t, fr, (o.block 0 (Array.getElem?_eq_some_iff.1 hr).1).trans hr⟩

set_option maxHeartbeats 1000000 in
theorem Block_any (ks ns : List Nat) (n : Nat) (hk : ks.length = 32) (hn : ns.length = 12) (bk : ∀ x ∈ ks, x < 256) (hn2 : n < 4294967296) (bn : ∀ x ∈ ns, x < 256) (w : World) (ht : QTab w) :
    Calls Tryd.prog 53 #[.agg (nums .u8 ks).toArray, .int .u32 (n : Nat), .agg (nums .u8 ns).toArray] w fun e w' => e = .returned (.agg (nums .u8 (block ks n ns)).toArray) ∧ Old w w' := by
  have HT := hide ht
  have C1 := hide (start_any ks ns n hk hn bk bn)
  have FL := hide (first_lt bk hn2 bn)
  have HIk : Hid ((Tryd.prog.info? 32).map (·.size) = some (nums .u8 ks).length) := by
    show _ = _
    rw [nums_length, hk]; kernel_rfl
  have HIn : Hid ((Tryd.prog.info? 77).map (·.size) = some (nums .u8 ns).length) := by
    show _ = _
    rw [nums_length, hn]; kernel_rfl
  have HIs : Hid (∀ l : List Nat, l.length = 16 → (Tryd.prog.info? 90).map (·.size) = some (nums .u32 l).length) := by
    intro l hl
    rw [nums_length, hl]; kernel_rfl
  have HIb : Hid (∀ l : List Nat, l.length = 64 → (Tryd.prog.info? 83).map (·.size) = some (nums .u8 l).length) := by
    intro l hl
    rw [nums_length, hl]; kernel_rfl
  have KA : Hid (∀ o, Row (((w.alloc (.cells (nums .u8 ks).toArray 32)).alloc (.cells (nums .u8 ns).toArray 77)).alloc o) w.heap.size 32 (nums .u8 ks)) := fun o =>
    ((Row.new w _ _).mono (Old.of_alloc _ _)).mono (Old.of_alloc _ _)
  have KB : Hid (∀ o, Row (((w.alloc (.cells (nums .u8 ks).toArray 32)).alloc (.cells (nums .u8 ns).toArray 77)).alloc o) (w.heap.size + 1) 77 (nums .u8 ns)) := fun o => by
    have := Row.new (w.alloc (.cells (nums .u8 ks).toArray 32)) 77 (nums .u8 ns)
    rw [size_alloc] at this
    exact this.mono (Old.of_alloc _ _)
  have KC : Hid (Row (((w.alloc (.cells (nums .u8 ks).toArray 32)).alloc (.cells (nums .u8 ns).toArray 77)).alloc (.cells (nums .u8 (List.replicate 64 0)).toArray 83)) (w.heap.size + 1 + 1) 83 (nums .u8 (List.replicate 64 0))) := by
    have := Row.new ((w.alloc (.cells (nums .u8 ks).toArray 32)).alloc (.cells (nums .u8 ns).toArray 77)) 83 (nums .u8 (List.replicate 64 0))
    rw [size_alloc, size_alloc] at this
    exact this
  have OC : Hid (Old w (((w.alloc (.cells (nums .u8 ks).toArray 32)).alloc (.cells (nums .u8 ns).toArray 77)).alloc (.cells (nums .u8 (List.replicate 64 0)).toArray 83))) := ((Old.of_alloc _ _).alloc _).alloc _
  clear hk hn bk bn ht hn2
  go_enter Tryd.func53, Tryd.ntmps53
  go_wp2_with (first
    | refine wp_load_whole rfl 32 _ rfl w.heap.size rfl (KA.out _) Tryd.underlying32 rfl HIk.out ?_
    | refine wp_load_whole rfl 77 _ rfl (w.heap.size + 1) rfl (KB.out _) Tryd.underlying77 rfl HIn.out ?_)
  refine (C1.out _).mono ?_
  rintro e w1 ⟨rfl, o1⟩
  have M1 : Row w1 (w.heap.size + 1 + 1) 83 (nums .u8 (List.replicate 64 0)) := KC.out.mono o1
  have O1 : Old w w1 := OC.out.trans o1
  clear KA KB KC OC o1 C1
  have Z1 : Hid (Row (w1.alloc (.cells (nums .u32 (List.replicate 16 0)).toArray 90)) w1.heap.size 90 (nums .u32 (List.replicate 16 0))) := Row.new _ _ _
  go_wp2_with (first
    | (refine wp_store_whole rfl 90 _ _ rfl w1.heap.size rfl (nums .u32 (first ks n ns)) rfl Z1.out (HIs.out _ (first_length _ _ _)) (by rw [nums_length, nums_length, first_length]; rfl) (nums_oneCell _ _) ?_; rintro w2 h2
       have K2 : Row w2 w1.heap.size 90 (nums .u32 (first ks n ns)) := by rw [h2]; exact Z1.out.whole _
       have o2 : Old w1 w2 := by rw [h2]; exact (Old.of_alloc _ _).grown (grown_setRow _ _ _) (Nat.le_refl _)
       have M2 : Row w2 (w.heap.size + 1 + 1) 83 (nums .u8 (List.replicate 64 0)) := M1.mono o2
       have O2 : Old w w2 := O1.trans o2
       have L2 : w1.heap.size < w2.heap.size := K2.lt
       have l2 : w.heap.size + 1 + 1 < w1.heap.size := M1.lt
       clear h2 o2 Z1 M1 O1
       have Z2 : Hid (Row (w2.alloc (.cells (nums .u32 (List.replicate 16 0)).toArray 90)) w2.heap.size 90 (nums .u32 (List.replicate 16 0))) := Row.new _ _ _)
    | refine wp_load_whole rfl 90 _ rfl w1.heap.size rfl K2 Tryd.underlying90 rfl (HIs.out _ (first_length _ _ _)) ?_
    | (refine wp_store_whole rfl 90 _ _ rfl w2.heap.size rfl (nums .u32 (first ks n ns)) rfl Z2.out (HIs.out _ (first_length _ _ _)) (by rw [nums_length, nums_length, first_length]; rfl) (nums_oneCell _ _) ?_; rintro w3 h3
       have K3 : Row w3 w2.heap.size 90 (nums .u32 (first ks n ns)) := by rw [h3]; exact Z2.out.whole _
       have o3 : Old w2 w3 := by rw [h3]; exact (Old.of_alloc _ _).grown (grown_setRow _ _ _) (Nat.le_refl _)
       have K3' := K2.mono o3
       have M3 := M2.mono o3
       have O3 := O2.trans o3
       clear h3 o3 Z2 M2 O2 K2))
  go_loopw [14] (fun vi wr => ∃ k : Nat, k ≤ 10 ∧ vi = .int .i64 (k : Nat) ∧ Row wr w2.heap.size 90 (nums .u32 (doubles k (first ks n ns))) ∧ Row wr w1.heap.size 90 (nums .u32 (first ks n ns)) ∧ Row wr (w.heap.size + 1 + 1) 83 (nums .u8 (List.replicate 64 0)) ∧ Old w wr) (fun vi _ => (10 - intOf vi).toNat)
  case atStart => exact ⟨0, by omega, rfl, K3, K3', M3, O3⟩
  case round =>
    obtain ⟨k, hk, rfl, R8, R7, R6, hol⟩ := hrel
    by_cases hk10 : k = 10
    · subst hk10
      go_wp2_with (refine wp_load_whole rfl 90 _ rfl w1.heap.size rfl R7 Tryd.underlying90 rfl (HIs.out _ (first_length _ _ _)) ?_)
      refine (add_any w2.heap.size (doubles 10 (first ks n ns)) (first ks n ns) (doubles_length _ _) (first_length _ _ _) _ R8).mono ?_
      rintro e w4 ⟨rfl, R8', gr⟩
      have R6' := R6.grown gr (by omega)
      have hol' := hol.grown gr (by have := O3.size; have := hol.size; omega)
      clear R6 R7 R8 gr hol
      go_wp2_with fail
      refine (bytes_any w2.heap.size _ (by rw [List.length_zipWith, doubles_length, first_length]; rfl) _ R8').mono ?_
      rintro e w5 ⟨rfl, o5⟩
      have R6'' := R6'.mono o5
      have hol'' := hol'.trans o5
      rw [show Cha.bytes (List.zipWith add (doubles 10 (first ks n ns)) (first ks n ns)) = block ks n ns from rfl]
      clear R6' hol' o5 R8'
      go_wp2_with (refine wp_store_whole rfl 83 _ _ rfl (w.heap.size + 1 + 1) rfl (nums .u8 (block ks n ns)) rfl R6'' (HIb.out _ (block_length _ _ _)) (by rw [nums_length, nums_length, block_length]; rfl) (nums_oneCell _ _) ?_; rintro w9 h9)
      have K9 : Row w9 (w.heap.size + 1 + 1) 83 (nums .u8 (block ks n ns)) := by rw [h9]; exact R6''.whole _
      have O9 : Old w w9 := by rw [h9]; exact hol''.grown (grown_setRow _ _ _) (by omega)
      exact bodyPost_ret (v := .agg (nums .u8 (block ks n ns)).toArray) (results_whole rfl rfl K9 Tryd.underlying83 rfl (HIb.out _ (block_length _ _ _))) rfl ⟨rfl, O9⟩
    · have hb : decide ((k : Int) < 10) = true := decide_eq_true (by omega)
      go_wp2_with fail
      refine (doubleRound_any w2.heap.size (doubles k (first ks n ns)) (doubles_length _ _) (doubles_lt _ FL.out) _ (HT.out.mono hol) R8).mono ?_
      rintro e w4 ⟨rfl, R8', gr⟩
      have R7' := R7.grown gr (by omega)
      have R6' := R6.grown gr (by omega)
      have hol' := hol.grown gr (by have := O3.size; have := hol.size; omega)
      clear R6 R7 R8 gr hol
      go_wp2
      go_roundw
      case rel => exact ⟨k + 1, by omega, by go_num, R8', R7', R6', hol'⟩
      case measure => simp [intOf]; omega
end Go.Proofs.YtjbpnhibgafdmaaDoor
