/-
  The document's block: offertoryref04.Block.
-/
import Derived.Test.YtjbpnhibgafdmaaDoorBlocks
import Derived.Test.YtjbpnhibgafdmaaDoorRefQ
namespace Go.Proofs.YtjbpnhibgafdmaaDoor
open Go.RowKit Cha
set_option linter.unusedVariables false

def fillR (ks : List Nat) : Nat → List Nat
  | 0 => [1634760805, 857760878, 2036477234, 1797285236, 0, 0, 0, 0, 0, 0, 0, 0, 0, 0, 0, 0]
  | k + 1 => (fillR ks k).set (4 + k) (le ks (4 * k))
def fillS (ks : List Nat) (n : Nat) (ns : List Nat) : Nat → List Nat
  | 0 => (fillR ks 8).set 12 n
  | k + 1 => (fillS ks n ns k).set (13 + k) (le ns (4 * k))
theorem fillR_length (ks : List Nat) : ∀ k, (fillR ks k).length = 16
  | 0 => rfl
  | k + 1 => by rw [fillR, List.length_set]; exact fillR_length ks k
theorem fillS_length (ks : List Nat) (n : Nat) (ns : List Nat) : ∀ k, (fillS ks n ns k).length = 16
  | 0 => by rw [fillS, List.length_set]; exact fillR_length ks 8
  | k + 1 => by rw [fillS, List.length_set]; exact fillS_length ks n ns k
theorem fillS_all (ks : List Nat) (n : Nat) (ns : List Nat) : fillS ks n ns 3 = first ks n ns := rfl

theorem double_eq (s : List Nat) : double s = quart (quart (quart (quart (quart (quart (quart (quart s 0 4 8 12) 1 5 9 13) 2 6 10 14) 3 7 11 15) 0 5 10 15) 1 6 11 12) 2 7 8 13) 3 4 9 14 := by
  simp only [double, rounds, places, List.foldl_cons, List.foldl_nil]

theorem doubles_succ (k : Nat) (s : List Nat) : doubles (k + 1) s = double (doubles k s) := by rw [doubles]
theorem block_eq (ks : List Nat) (n : Nat) (ns : List Nat) : block ks n ns = Cha.bytes (List.zipWith add (doubles 10 (first ks n ns)) (first ks n ns)) := by rw [block]
theorem byte_at (s : List Nat) (i k : Nat) (hk : k < 4) : byte s (4 * i + k) = at_ s i / 2 ^ (8 * k) % 256 := by
  unfold byte
  rw [show (4 * i + k) / 4 = i by omega, show (4 * i + k) % 4 = k by omega]
theorem shift_next (x k : Nat) : x / 2 ^ (8 * k) / 256 = x / 2 ^ (8 * (k + 1)) := by
  rw [Nat.div_div_eq_div_mul, show 8 * (k + 1) = 8 * k + 8 by omega, Nat.pow_add]
theorem at_zip (xs ys : List Nat) (i : Nat) (hx : i < xs.length) (hy : i < ys.length) : at_ (List.zipWith add xs ys) i = add (at_ xs i) (at_ ys i) := by
  simp [at_, List.getElem?_zipWith, hx, hy]

/-- The blocks of the call in its rounds: the state at G, what it was at first, the answer's cell. -/
structure RB (w : World) (G : Nat) (F z : List Nat) (wr : World) : Prop where
  s : Row wr G 89 (nums .u32 z)
  f : Row wr (w.heap.size + 1 + 1 + 1) 89 (nums .u32 F)
  m : Row wr (w.heap.size + 1 + 1) 83 (nums .u8 (List.replicate 64 0))
  o : Old w wr
  l : z.length = 16
  b : ∀ x ∈ z, x < 4294967296
  g : w.heap.size + 1 + 1 + 1 < G
theorem RB.mono {w wr w' : World} {G : Nat} {F z : List Nat} (h : RB w G F z wr) (o : Old wr w') : RB w G F z w' :=
  ⟨h.s.mono o, h.f.mono o, h.m.mono o, h.o.trans o, h.l, h.b, h.g⟩
theorem RB.info {w wr : World} {G : Nat} {F z : List Nat} (h : RB w G F z wr) : (Tryd.prog.info? 89).map (·.size) = some (nums .u32 z).length := by
  rw [nums_length, h.l]; kernel_rfl
/-- Behind the call, the answer not yet stored. -/
structure RC (w : World) (G : Nat) (F z z' : List Nat) (wr : World) : Prop where
  r : RB w G F z wr
  l : z'.length = 16
  b : ∀ x ∈ z', x < 4294967296
theorem RC.info {w wr : World} {G : Nat} {F z z' : List Nat} (h : RC w G F z z' wr) : (Tryd.prog.info? 89).map (·.size) = some (nums .u32 z').length := by
  rw [nums_length, h.l]; kernel_rfl
theorem RC.len {w wr : World} {G : Nat} {F z z' : List Nat} (h : RC w G F z z' wr) : (nums .u32 z).length = (nums .u32 z').length := by
  rw [nums_length, nums_length, h.l, h.r.l]
theorem RC.store {w wr w' : World} {G : Nat} {F z z' : List Nat} (h : RC w G F z z' wr) (e : w' = wr.setRow G (nums .u32 z').toArray) : RB w G F z' w' := by
  subst e
  have hg := h.r.g
  exact ⟨h.r.s.whole _, h.r.f.grown (grown_setRow _ _ _) (by omega), h.r.m.grown (grown_setRow _ _ _) (by omega), h.r.o.grown (grown_setRow _ _ _) (by omega), h.l, h.b, h.r.g⟩
theorem ref_call {w wr : World} {G : Nat} {F z : List Nat} (h : RB w G F z wr) (a b c d : Nat) (A : Apart (a, b, c, d)) :
    Calls Tryd.prog 61 #[.agg (nums .u32 z).toArray, .int .i64 (a : Nat), .int .i64 (b : Nat), .int .i64 (c : Nat), .int .i64 (d : Nat)] wr fun e w' =>
      ∃ z', e = .returned (.agg (nums .u32 z').toArray) ∧ Hid (quart z a b c d = z') ∧ RC w G F z z' w' :=
  (refQuarter_any z h.l h.b a b c d A wr).mono fun _ _ ⟨h1, h2⟩ => ⟨_, h1, rfl, h.mono h2, (quart_length _ _ _ _ _).trans h.l, quart_lt h.b _ _ _ _⟩

set_option maxHeartbeats 4000000 in
theorem refBlock_any (ks ns : List Nat) (n : Nat) (hk : ks.length = 32) (hn : ns.length = 12) (bk : ∀ x ∈ ks, x < 256) (hn2 : n < 4294967296) (bn : ∀ x ∈ ns, x < 256) (w : World) :
    Calls Tryd.prog 54 #[.agg (nums .u8 ks).toArray, .int .u32 (n : Nat), .agg (nums .u8 ns).toArray] w fun e w' => e = .returned (.agg (nums .u8 (block ks n ns)).toArray) ∧ Old w w' := by
  have FL := hide (first_lt bk hn2 bn)
  have HIs : Hid (∀ l : List Nat, l.length = 16 → (Tryd.prog.info? 89).map (·.size) = some (nums .u32 l).length) := by
    intro l hl
    rw [nums_length, hl]; kernel_rfl
  have HIb : Hid (∀ l : List Nat, l.length = 64 → (Tryd.prog.info? 83).map (·.size) = some (nums .u8 l).length) := by
    intro l hl
    rw [nums_length, hl]; kernel_rfl
  have HK := hide hk
  have HN := hide hn
  have BK := hide bk
  have BN := hide bn
  clear hk hn bk bn hn2
  go_enter Tryd.func54, Tryd.ntmps54
  go_wp2
  go_loopw [8] (fun vi wr => ∃ k : Nat, k ≤ 8 ∧ vi = .int .i64 (k : Nat) ∧ Row wr w.heap.size 22 (nums .u8 ks) ∧ Row wr (w.heap.size + 1) 77 (nums .u8 ns) ∧ Row wr (w.heap.size + 1 + 1) 83 (nums .u8 (List.replicate 64 0)) ∧ Row wr (w.heap.size + 1 + 1 + 1) 89 (nums .u32 (fillR ks k)) ∧ Old w wr) (fun vi _ => (8 - intOf vi).toNat)
  case atStart =>
    have O1 := Old.of_alloc w (.cells (nums .u8 ks).toArray 22)
    have e1 := size_alloc w (.cells (nums .u8 ks).toArray 22)
    obtain ⟨w1, hw1⟩ : ∃ w1, w1 = w.alloc (.cells (nums .u8 ks).toArray 22) := ⟨_, rfl⟩
    have K1 : Row w1 w.heap.size 22 (nums .u8 ks) := by rw [hw1]; exact Row.new _ _ _
    rw [← hw1] at O1 e1 ⊢
    obtain ⟨w2, hw2⟩ : ∃ w2, w2 = w1.alloc (.cells (nums .u8 ns).toArray 77) := ⟨_, rfl⟩
    have e2 := size_alloc w1 (.cells (nums .u8 ns).toArray 77)
    have K2 : Row w2 (w.heap.size + 1) 77 (nums .u8 ns) := by rw [hw2, ← e1]; exact Row.new _ _ _
    have O2 := Old.of_alloc w1 (.cells (nums .u8 ns).toArray 77)
    rw [← hw2] at O2 e2 ⊢
    have e3 := size_alloc w2 (.cells (nums .u8 (List.replicate 64 0)).toArray 83)
    have K3 := Row.new w2 83 (nums .u8 (List.replicate 64 0))
    have O3 := Old.of_alloc w2 (.cells (nums .u8 (List.replicate 64 0)).toArray 83)
    have O4 := Old.of_alloc (w2.alloc (.cells (nums .u8 (List.replicate 64 0)).toArray 83)) (.cells (nums .u32 (fillR ks 0)).toArray 89)
    have K4 := Row.new (w2.alloc (.cells (nums .u8 (List.replicate 64 0)).toArray 83)) 89 (nums .u32 (fillR ks 0))
    rw [e2, e1] at K3
    rw [e3, e2, e1] at K4
    exact ⟨0, by omega, rfl, ((K1.mono O2).mono O3).mono O4, (K2.mono O3).mono O4, K3.mono O4, K4, ((O1.trans O2).trans O3).trans O4⟩
  case round =>
    obtain ⟨k, hk, rfl, R3, R5, R6, R7, hol⟩ := hrel
    by_cases hk8 : k = 8
    · subst hk8
      rw [show ((8 : Nat) : Int) = 8 from rfl]
      have hcc := R7.some (i := 12) (by rw [fillR_length]; omega)
      have hff := R7.free 12
      go_wp2
      clear hcc hff
      go_loopw [9] (fun vi wr => ∃ k : Nat, k ≤ 3 ∧ vi = .int .i64 (k : Nat) ∧ Row wr (w.heap.size + 1) 77 (nums .u8 ns) ∧ Row wr (w.heap.size + 1 + 1) 83 (nums .u8 (List.replicate 64 0)) ∧ Row wr (w.heap.size + 1 + 1 + 1) 89 (nums .u32 (fillS ks n ns k)) ∧ Old w wr) (fun vi _ => (3 - intOf vi).toNat)
      case atStart =>
        refine ⟨0, by omega, rfl, R5.grown (grown_set _ _ _ _) (by omega), R6.grown (grown_set _ _ _ _) (by omega), ?_, hol.grown (grown_set _ _ _ _) (by omega)⟩
        rw [fillS, ← nums_set]
        exact R7.set _ _
      case round =>
        obtain ⟨k, hk, rfl, R5, R6, R7, hol⟩ := hrel
        by_cases hk3 : k = 3
        · subst hk3
          rw [show ((3 : Nat) : Int) = 3 from rfl]
          rw [fillS_all] at R7
          have Z1 : Hid (Row (wr.alloc (.cells (nums .u32 (List.replicate 16 0)).toArray 89)) wr.heap.size 89 (nums .u32 (List.replicate 16 0))) := Row.new _ _ _
          have l7 := R7.lt
          go_wp2_with (first
            | refine wp_load_whole rfl 89 _ rfl (w.heap.size + 1 + 1 + 1) rfl R7 Tryd.underlying89 rfl (HIs.out _ (first_length _ _ _)) ?_
            | (refine wp_store_whole rfl 89 _ _ rfl wr.heap.size rfl (nums .u32 (first ks n ns)) rfl Z1.out (HIs.out _ (first_length _ _ _)) (by rw [nums_length, nums_length, first_length]; rfl) (nums_oneCell _ _) ?_; rintro w2 h2
               have K2 : Row w2 wr.heap.size 89 (nums .u32 (first ks n ns)) := by rw [h2]; exact Z1.out.whole _
               have o2 : Old wr w2 := by rw [h2]; exact (Old.of_alloc _ _).grown (grown_setRow _ _ _) (Nat.le_refl _)
               have M2 := R6.mono o2
               have N2 := R7.mono o2
               have O2 : Old w w2 := hol.trans o2
               clear h2 o2 Z1 R5 R6 R7 hol))
          obtain ⟨G, hG⟩ : ∃ G, G = wr.heap.size := ⟨_, rfl⟩
          rw [← hG] at K2 l7 ⊢
          have hGw : w.heap.size ≤ G := by omega
          clear hG
          go_loopw [11] (fun vi wr => ∃ k : Nat, k ≤ 10 ∧ vi = .int .i64 (k : Nat) ∧ Row wr G 89 (nums .u32 (doubles k (first ks n ns))) ∧ Row wr (w.heap.size + 1 + 1 + 1) 89 (nums .u32 (first ks n ns)) ∧ Row wr (w.heap.size + 1 + 1) 83 (nums .u8 (List.replicate 64 0)) ∧ Old w wr) (fun vi _ => (10 - intOf vi).toNat)
          case atStart => exact ⟨0, by omega, rfl, K2, N2, M2, O2⟩
          case round =>
            clear K2 N2 M2 O2
            obtain ⟨k, hk, rfl, R8, R7, R6, hol⟩ := hrel
            by_cases hk10 : k = 10
            · subst hk10
              rw [show ((10 : Nat) : Int) = 10 from rfl]
              have Z9 : Hid (Row (wr.alloc (.cells (nums .u8 (List.replicate 64 0)).toArray 83)) wr.heap.size 83 (nums .u8 (List.replicate 64 0))) := Row.new _ _ _
              go_wp2_with (first
                | (refine wp_store_whole rfl 83 _ _ rfl wr.heap.size rfl (nums .u8 (List.replicate 64 0)) rfl Z9.out (HIb.out _ (by rw [List.length_replicate])) rfl (nums_oneCell _ _) ?_; rintro w5 h5
                   have o5 : Old wr w5 := by rw [h5]; exact (Old.of_alloc _ _).grown (grown_setRow _ _ _) (Nat.le_refl _)
                   have k9 : Row w5 wr.heap.size 83 (nums .u8 (List.replicate 64 0)) := by rw [h5]; exact Z9.out.whole _
                   have k8 := R8.mono o5
                   have k7 := R7.mono o5
                   have k6 := R6.mono o5
                   have ko := hol.trans o5
                   have l8 := R8.lt
                   have lo := hol.size
                   clear Z9 h5))
              obtain ⟨O, hO⟩ : ∃ O, O = wr.heap.size := ⟨_, rfl⟩
              rw [← hO] at l8 lo k9 ⊢
              clear R8 R7 R6 hol hO o5
              have DL : Hid ((doubles 10 (first ks n ns)).length = 16) := (doubles_length _ _).trans (first_length _ _ _)
              have F16 := hide (first_length ks n ns)
              have SB : Hid (block ks n ns = Cha.bytes (List.zipWith add (doubles 10 (first ks n ns)) (first ks n ns))) := block_eq _ _ _
              revert k8 k7 DL F16 SB
              generalize doubles 10 (first ks n ns) = D
              generalize first ks n ns = F
              intro k8 k7 DL F16 SB
              go_loopw [13] (fun vi wr => ∃ i : Nat, i ≤ 16 ∧ vi = .int .i64 (i : Nat) ∧ Row wr O 83 (nums .u8 (partB (List.zipWith add D F) (4 * i))) ∧ Row wr G 89 (nums .u32 D) ∧ Row wr (w.heap.size + 1 + 1 + 1) 89 (nums .u32 F) ∧ Row wr (w.heap.size + 1 + 1) 83 (nums .u8 (List.replicate 64 0)) ∧ Old w wr) (fun vi _ => (16 - intOf vi).toNat)
              case atStart => exact ⟨0, by omega, rfl, by rw [partB_zero]; exact k9, k8, k7, k6, ko⟩
              case round =>
                clear k9 k8 k7 k6 ko
                obtain ⟨i, hi, rfl, R9, R8, R7, R6, hol⟩ := hrel
                by_cases hi16 : i = 16
                · subst hi16
                  rw [partB_all] at R9
                  go_wp2_with (first
                    | refine wp_load_whole rfl 83 _ rfl O rfl R9 Tryd.underlying83 rfl (HIb.out _ (bytes_length _)) ?_
                    | (refine wp_store_whole rfl 83 _ _ rfl (w.heap.size + 1 + 1) rfl (nums .u8 (Cha.bytes (List.zipWith add D F))) rfl R6 (HIb.out _ (bytes_length _)) (by rw [nums_length, nums_length, bytes_length]; rfl) (nums_oneCell _ _) ?_; rintro w9 h9))
                  have K9 : Row w9 (w.heap.size + 1 + 1) 83 (nums .u8 (Cha.bytes (List.zipWith add D F))) := by rw [h9]; exact R6.whole _
                  have O9 : Old w w9 := by rw [h9]; exact hol.grown (grown_setRow _ _ _) (by omega)
                  refine bodyPost_ret (v := .agg (nums .u8 (Cha.bytes (List.zipWith add D F))).toArray) (results_whole rfl rfl K9 Tryd.underlying83 rfl (HIb.out _ (bytes_length _))) rfl ⟨?_, O9⟩
                  rw [SB.out]
                · have hil : i < 16 := by omega
                  have hb : decide ((i : Int) < 16) = true := decide_eq_true (by omega)
                  have hii : (0 : Int) ≤ i := by omega
                  have hii2 : (i : Int) < 16 := by omega
                  have h1 := R8.some (i := i) (by rw [DL.out]; exact hil)
                  have h2 := R7.some (i := i) (by rw [F16.out]; exact hil)
                  go_wp2_with fail
                  go_quiet (fail)
                  go_wp2
                  have hn0 : ((at_ D i : Int) + (at_ F i : Int)) % 4294967296 = ((at_ (List.zipWith add D F) i : Nat) : Int) := by
                    rw [at_zip _ _ _ (by rw [DL.out]; exact hil) (by rw [F16.out]; exact hil)]
                    exact add_nat rfl rfl
                  rw [hn0]
                  clear h1 h2 hn0
                  go_loopw [14, 15] (fun vn vk wr => ∃ k : Nat, k ≤ 4 ∧ vk = .int .i64 (k : Nat) ∧ vn = .int .u32 (at_ (List.zipWith add D F) i / 2 ^ (8 * k) : Nat) ∧ Row wr O 83 (nums .u8 (partB (List.zipWith add D F) (4 * i + k))) ∧ Row wr G 89 (nums .u32 D) ∧ Row wr (w.heap.size + 1 + 1 + 1) 89 (nums .u32 F) ∧ Row wr (w.heap.size + 1 + 1) 83 (nums .u8 (List.replicate 64 0)) ∧ Old w wr) (fun _ vk _ => (4 - intOf vk).toNat)
                  case atStart =>
                    refine ⟨0, by omega, rfl, by simp, R9.drewN _, R8.drewN _, R7.drewN _, R6.drewN _, hol.drewN _⟩
                  case round =>
                    clear R9 R8 R7 R6 hol
                    obtain ⟨k, hk, rfl, rfl, R9, R8, R7, R6, hol⟩ := hrel
                    by_cases hk4 : k = 4
                    · subst hk4
                      go_wp2
                      go_roundw
                      case rel => exact ⟨i + 1, by omega, by go_num, by rw [show 4 * (i + 1) = 4 * i + 4 by omega]; exact R9, R8, R7, R6, hol⟩
                      case measure => simp [intOf]; omega
                    · have hkl : k < 4 := by omega
                      have hb4 : decide ((k : Int) < 4) = true := decide_eq_true (by omega)
                      have hnn := hide (shift_next (at_ (List.zipWith add D F) i) k)
                      have hbb := hide (byte_at (List.zipWith add D F) i k hkl)
                      have hxb : Hid (at_ (List.zipWith add D F) i / 2 ^ (8 * k) < 4294967296) := by
                        refine Nat.lt_of_le_of_lt (Nat.div_le_self _ _) ?_
                        rw [at_zip _ _ _ (by rw [DL.out]; exact hil) (by rw [F16.out]; exact hil)]
                        exact add_lt _ _
                      revert hnn hbb hxb
                      generalize at_ (List.zipWith add D F) i / 2 ^ (8 * k) = x
                      intro hnn hbb hxb
                      have hcc := R9.some (i := 4 * i + k) (by rw [partB_length]; omega)
                      have hff := R9.free (4 * i + k)
                      go_wp2
                      go_roundw
                      case rel =>
                        refine ⟨k + 1, by omega, by go_num, ?_, ?_, R8.grown (grown_set _ _ _ _) (by omega), R7.grown (grown_set _ _ _ _) (by omega), R6.grown (grown_set _ _ _ _) (by omega), hol.grown (grown_set _ _ _ _) (by omega)⟩
                        · rw [← hnn.out]
                          congr 1
                          have := hxb.out
                          omega
                        · rw [show 4 * i + (k + 1) = 4 * i + k + 1 by omega, ← partB_step _ _ (by omega), ← nums_set, hbb.out]
                          exact R9.set _ _
                      case measure => simp [intOf]; omega
            · have hb : decide ((k : Int) < 10) = true := decide_eq_true (by omega)
              have S0 : RB w G (first ks n ns) (doubles k (first ks n ns)) wr := ⟨R8, R7, R6, hol, (doubles_length _ _).trans (first_length _ _ _), doubles_lt _ FL.out, l7⟩
              have HDD : Hid (doubles (k + 1) (first ks n ns) = double (doubles k (first ks n ns))) := doubles_succ _ _
              clear R8 R7 R6 hol
              revert S0 HDD
              generalize doubles k (first ks n ns) = z0
              intro S0 HDD
              go_wp2_with (refine wp_load_whole rfl 89 _ rfl G rfl S0.s Tryd.underlying89 rfl S0.info ?_)
              refine (ref_call S0 0 4 8 12 (by constructor <;> simp)).mono ?_
              clear S0
              rintro e v1 ⟨z1, rfl, Y1, T1⟩
              go_wp2_with (first
                | (refine wp_store_whole rfl 89 _ _ rfl G rfl (nums .u32 z1) rfl T1.r.s T1.info T1.len (nums_oneCell _ _) ?_; rintro y1 h1; have S1 := T1.store h1; clear T1 h1)
                | refine wp_load_whole rfl 89 _ rfl G rfl S1.s Tryd.underlying89 rfl S1.info ?_)
              refine (ref_call S1 1 5 9 13 (by constructor <;> simp)).mono ?_
              clear S1
              rintro e v2 ⟨z2, rfl, Y2, T2⟩
              go_wp2_with (first
                | (refine wp_store_whole rfl 89 _ _ rfl G rfl (nums .u32 z2) rfl T2.r.s T2.info T2.len (nums_oneCell _ _) ?_; rintro y2 h2; have S2 := T2.store h2; clear T2 h2)
                | refine wp_load_whole rfl 89 _ rfl G rfl S2.s Tryd.underlying89 rfl S2.info ?_)
              refine (ref_call S2 2 6 10 14 (by constructor <;> simp)).mono ?_
              clear S2
              rintro e v3 ⟨z3, rfl, Y3, T3⟩
              go_wp2_with (first
                | (refine wp_store_whole rfl 89 _ _ rfl G rfl (nums .u32 z3) rfl T3.r.s T3.info T3.len (nums_oneCell _ _) ?_; rintro y3 h3; have S3 := T3.store h3; clear T3 h3)
                | refine wp_load_whole rfl 89 _ rfl G rfl S3.s Tryd.underlying89 rfl S3.info ?_)
              refine (ref_call S3 3 7 11 15 (by constructor <;> simp)).mono ?_
              clear S3
              rintro e v4 ⟨z4, rfl, Y4, T4⟩
              go_wp2_with (first
                | (refine wp_store_whole rfl 89 _ _ rfl G rfl (nums .u32 z4) rfl T4.r.s T4.info T4.len (nums_oneCell _ _) ?_; rintro y4 h4; have S4 := T4.store h4; clear T4 h4)
                | refine wp_load_whole rfl 89 _ rfl G rfl S4.s Tryd.underlying89 rfl S4.info ?_)
              refine (ref_call S4 0 5 10 15 (by constructor <;> simp)).mono ?_
              clear S4
              rintro e v5 ⟨z5, rfl, Y5, T5⟩
              go_wp2_with (first
                | (refine wp_store_whole rfl 89 _ _ rfl G rfl (nums .u32 z5) rfl T5.r.s T5.info T5.len (nums_oneCell _ _) ?_; rintro y5 h5; have S5 := T5.store h5; clear T5 h5)
                | refine wp_load_whole rfl 89 _ rfl G rfl S5.s Tryd.underlying89 rfl S5.info ?_)
              refine (ref_call S5 1 6 11 12 (by constructor <;> simp)).mono ?_
              clear S5
              rintro e v6 ⟨z6, rfl, Y6, T6⟩
              go_wp2_with (first
                | (refine wp_store_whole rfl 89 _ _ rfl G rfl (nums .u32 z6) rfl T6.r.s T6.info T6.len (nums_oneCell _ _) ?_; rintro y6 h6; have S6 := T6.store h6; clear T6 h6)
                | refine wp_load_whole rfl 89 _ rfl G rfl S6.s Tryd.underlying89 rfl S6.info ?_)
              refine (ref_call S6 2 7 8 13 (by constructor <;> simp)).mono ?_
              clear S6
              rintro e v7 ⟨z7, rfl, Y7, T7⟩
              go_wp2_with (first
                | (refine wp_store_whole rfl 89 _ _ rfl G rfl (nums .u32 z7) rfl T7.r.s T7.info T7.len (nums_oneCell _ _) ?_; rintro y7 h7; have S7 := T7.store h7; clear T7 h7)
                | refine wp_load_whole rfl 89 _ rfl G rfl S7.s Tryd.underlying89 rfl S7.info ?_)
              refine (ref_call S7 3 4 9 14 (by constructor <;> simp)).mono ?_
              clear S7
              rintro e v8 ⟨z8, rfl, Y8, T8⟩
              go_wp2_with (first
                | (refine wp_store_whole rfl 89 _ _ rfl G rfl (nums .u32 z8) rfl T8.r.s T8.info T8.len (nums_oneCell _ _) ?_; rintro y8 h8; have S8 := T8.store h8; clear T8 h8))
              go_roundw
              case rel => exact ⟨k + 1, by omega, by go_num, by rw [HDD.out, double_eq, Y1.out, Y2.out, Y3.out, Y4.out, Y5.out, Y6.out, Y7.out, Y8.out]; exact S8.s, S8.f, S8.m, S8.o⟩
              case measure => simp [intOf]; omega
        · have hb : decide ((k : Int) < 3) = true := decide_eq_true (by omega)
          have hkl : k < 3 := by omega
          have hsl := run_part (P := Tryd.prog) Tryd.underlying77 (by kernel_rfl) (w.heap.size + 1) (4 * k) (4 * k + 4) (by omega) (by omega) (by omega) (x := 4 * (k : Int)) (y := 4 * (k : Int) + 4) (by omega) (by omega)
          rw [show 4 * k + 4 - 4 * k = 4 by omega] at hsl
          go_wp2_with fail
          refine (refNumber_any (w.heap.size + 1) (4 * k) _ (at_ ns (4 * k)) (at_ ns (4 * k + 1)) (at_ ns (4 * k + 2)) (at_ ns (4 * k + 3)) (at8_lt BN.out _) (at8_lt BN.out _) (at8_lt BN.out _) (at8_lt BN.out _) _ (R5.byte (by rw [HN.out]; omega)) (R5.byte (by rw [HN.out]; omega)) (R5.byte (by rw [HN.out]; omega)) (R5.byte (by rw [HN.out]; omega))).mono ?_
          rintro e w1 ⟨rfl, o1⟩
          have R5' := R5.mono o1
          have R6' := R6.mono o1
          have R7' := R7.mono o1
          have hol' := hol.trans o1
          clear R5 R6 R7 hol o1 hsl
          have hcc := R7'.some (i := 13 + k) (by rw [fillS_length]; omega)
          have hff := R7'.free (13 + k)
          go_wp2
          go_roundw
          case rel =>
            refine ⟨k + 1, by omega, by go_num, R5'.grown (grown_set _ _ _ _) (by omega), R6'.grown (grown_set _ _ _ _) (by omega), ?_, hol'.grown (grown_set _ _ _ _) (by omega)⟩
            rw [fillS, ← nums_set]
            exact R7'.set _ _
          case measure => simp [intOf]; omega
    · have hb : decide ((k : Int) < 8) = true := decide_eq_true (by omega)
      have hkl : k < 8 := by omega
      have hsl := run_part (P := Tryd.prog) Tryd.underlying22 (by kernel_rfl) w.heap.size (4 * k) (4 * k + 4) (by omega) (by omega) (by omega) (x := 4 * (k : Int)) (y := 4 * (k : Int) + 4) (by omega) (by omega)
      rw [show 4 * k + 4 - 4 * k = 4 by omega] at hsl
      go_wp2_with fail
      refine (refNumber_any w.heap.size (4 * k) _ (at_ ks (4 * k)) (at_ ks (4 * k + 1)) (at_ ks (4 * k + 2)) (at_ ks (4 * k + 3)) (at8_lt BK.out _) (at8_lt BK.out _) (at8_lt BK.out _) (at8_lt BK.out _) _ (R3.byte (by rw [HK.out]; omega)) (R3.byte (by rw [HK.out]; omega)) (R3.byte (by rw [HK.out]; omega)) (R3.byte (by rw [HK.out]; omega))).mono ?_
      rintro e w1 ⟨rfl, o1⟩
      have R3' := R3.mono o1
      have R5' := R5.mono o1
      have R6' := R6.mono o1
      have R7' := R7.mono o1
      have hol' := hol.trans o1
      clear R3 R5 R6 R7 hol o1 hsl
      have hcc := R7'.some (i := 4 + k) (by rw [fillR_length]; omega)
      have hff := R7'.free (4 + k)
      go_wp2
      go_roundw
      case rel =>
        refine ⟨k + 1, by omega, by go_num, R3'.grown (grown_set _ _ _ _) (by omega), R5'.grown (grown_set _ _ _ _) (by omega), R6'.grown (grown_set _ _ _ _) (by omega), ?_, hol'.grown (grown_set _ _ _ _) (by omega)⟩
        rw [fillR, ← nums_set]
        exact R7'.set _ _
      case measure => simp [intOf]; omega
end Go.Proofs.YtjbpnhibgafdmaaDoor
