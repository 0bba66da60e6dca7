/-
  Bytes under a stream: cipher.Xor and the document's.
-/
import Derived.Test.YtjbpnhibgafdmaaDoorRefBlock
namespace Go.Proofs.YtjbpnhibgafdmaaDoor
open Go.RowKit Cha
set_option linter.unusedVariables false

/-- The first k of n numbers, zeros behind them. -/
def partF (n : Nat) (f : Nat → Nat) (k : Nat) : List Nat := (List.range n).map fun i => if i < k then f i else 0
theorem partF_length (n : Nat) (f : Nat → Nat) (k : Nat) : (partF n f k).length = n := by simp [partF]
theorem partF_zero (n : Nat) (f : Nat → Nat) : partF n f 0 = List.replicate n 0 := by
  apply List.ext_getElem?
  intro i
  by_cases h : i < n <;> simp [partF, h, -List.reduceReplicate]
theorem partF_all (n : Nat) (f : Nat → Nat) : partF n f n = (List.range n).map f := by
  apply List.ext_getElem?
  intro i
  by_cases h : i < n <;> simp [partF, h]
theorem partF_step (n : Nat) (f : Nat → Nat) (k : Nat) (hk : k < n) : (partF n f k).set k (f k) = partF n f (k + 1) := by
  apply List.ext_getElem?
  intro i
  rw [List.getElem?_set, partF_length]
  by_cases h : k = i
  · subst h; simp [partF, hk]
  · by_cases h' : i < n
    · simp only [h, if_false, partF]
      simp [h']
      split <;> split <;> first | rfl | omega
    · simp [partF, h, h']

def xorAt (ks : List Nat) (c : Nat) (ns bs : List Nat) (i : Nat) : Nat := at_ bs i ^^^ at_ (block ks (add c (i / 64)) ns) (i % 64)
theorem xor_eq (ks : List Nat) (c : Nat) (ns bs : List Nat) : (List.range bs.length).map (xorAt ks c ns bs) = Cha.xor ks c ns bs := rfl
/-- The block that lies ready ahead of byte k. -/
def blk (ks : List Nat) (c : Nat) (ns : List Nat) (k : Nat) : List Nat := if k = 0 then List.replicate 64 0 else block ks (add c ((k - 1) / 64)) ns
theorem blk_length (ks : List Nat) (c : Nat) (ns : List Nat) (k : Nat) : (blk ks c ns k).length = 64 := by
  unfold blk
  split
  · simp
  · exact block_length _ _ _
theorem blk_same (ks : List Nat) (c : Nat) (ns : List Nat) (k : Nat) (h : k % 64 ≠ 0) : blk ks c ns k = block ks (add c (k / 64)) ns := by
  unfold blk
  rw [if_neg (by intro e; subst e; simp at h), show (k - 1) / 64 = k / 64 by omega]
theorem blk_next (ks : List Nat) (c : Nat) (ns : List Nat) (k : Nat) : blk ks c ns (k + 1) = block ks (add c (k / 64)) ns := by
  unfold blk
  rw [if_neg (by omega), Nat.add_sub_cancel]
theorem xor_len (ks : List Nat) (c : Nat) (ns bs : List Nat) : (Cha.xor ks c ns bs).length = bs.length := by simp [Cha.xor]

theorem Tryd.infoU8 : (Tryd.prog.info? 5).map (fun i => (i.zero, i.size, i.bytes)) = some (some (.int .u8 0), 1, 1) := by kernel_rfl
theorem make_bytes (n : Nat) (hn : n ≤ 1073741824) : ∀ w : World, (Instr.makeSlice 67 (.int .i64 (n : Int)) (.int .i64 (n : Int))).run Tryd.prog w = .ok (.slice (some ⟨w.heap.size, 0, none⟩) n n) (w.alloc (.cells (nums .u8 (List.replicate n 0)).toArray 5)) :=
  make_nums Tryd.underlying67 Tryd.infoU8 n (by omega) (by omega)

/-- The blocks of the call: key, nonce, answer, block. -/
structure XB (T : TypeId) (w : World) (ks ns out bl : List Nat) (wr : World) : Prop where
  k : Row wr w.heap.size T (nums .u8 ks)
  n : Row wr (w.heap.size + 1) 77 (nums .u8 ns)
  o : Row wr (w.heap.size + 1 + 1) 5 (nums .u8 out)
  b : Row wr (w.heap.size + 1 + 1 + 1) 83 (nums .u8 bl)
  old : Old w wr
theorem XB.mono {T : TypeId} {w wr w' : World} {ks ns out bl : List Nat} (h : XB T w ks ns out bl wr) (o : Old wr w') : XB T w ks ns out bl w' :=
  ⟨h.k.mono o, h.n.mono o, h.o.mono o, h.b.mono o, h.old.trans o⟩
theorem XB.store {T : TypeId} {w wr w' : World} {ks ns out bl : List Nat} (h : XB T w ks ns out bl wr) (bl' : List Nat) (e : w' = wr.setRow (w.heap.size + 1 + 1 + 1) (nums .u8 bl').toArray) : XB T w ks ns out bl' w' := by
  subst e
  exact ⟨h.k.grown (grown_setRow _ _ _) (by omega), h.n.grown (grown_setRow _ _ _) (by omega), h.o.grown (grown_setRow _ _ _) (by omega), h.b.whole _, h.old.grown (grown_setRow _ _ _) (by omega)⟩
theorem XB.put {T : TypeId} {w wr : World} {ks ns out bl : List Nat} (h : XB T w ks ns out bl wr) (i v : Nat) : XB T w ks ns (out.set i v) bl (wr.setCell ⟨w.heap.size + 1 + 1, i, none⟩ (.int .u8 (v : Nat))) :=
  ⟨h.k.grown (grown_set _ _ _ _) (by omega), h.n.grown (grown_set _ _ _ _) (by omega), by rw [← nums_set]; exact h.o.set _ _, h.b.grown (grown_set _ _ _ _) (by omega), h.old.grown (grown_set _ _ _ _) (by omega)⟩

theorem info_b {l : List Nat} (h : l.length = 64) : (Tryd.prog.info? 83).map (·.size) = some (nums .u8 l).length := by
  rw [nums_length, h]; kernel_rfl
theorem info_n {l : List Nat} (h : l.length = 12) : (Tryd.prog.info? 77).map (·.size) = some (nums .u8 l).length := by
  rw [nums_length, h]; kernel_rfl
theorem info_k {l : List Nat} (h : l.length = 32) : (Tryd.prog.info? 32).map (·.size) = some (nums .u8 l).length := by
  rw [nums_length, h]; kernel_rfl
theorem info_k' {l : List Nat} (h : l.length = 32) : (Tryd.prog.info? 22).map (·.size) = some (nums .u8 l).length := by
  rw [nums_length, h]; kernel_rfl

/-- What a key, a counter and a nonce are. -/
structure In (ks : List Nat) (c : Nat) (ns : List Nat) : Prop where
  kl : ks.length = 32
  nl : ns.length = 12
  kb : ∀ x ∈ ks, x < 256
  cb : c < 4294967296
  nb : ∀ x ∈ ns, x < 256

theorem Block_in {ks ns : List Nat} {c : Nat} (I : In ks c ns) (z : Int) (m : Nat) (hz : z = m) (hm : m < 4294967296) (w : World) (ht : QTab w) :
    Calls Tryd.prog 53 #[.agg (nums .u8 ks).toArray, .int .u32 z, .agg (nums .u8 ns).toArray] w fun e w' => e = .returned (.agg (nums .u8 (block ks m ns)).toArray) ∧ Old w w' := by
  subst hz
  exact Block_any ks ns m I.kl I.nl I.kb hm I.nb w ht
theorem refBlock_in {ks ns : List Nat} {c : Nat} (I : In ks c ns) (z : Int) (m : Nat) (hz : z = m) (hm : m < 4294967296) (w : World) :
    Calls Tryd.prog 54 #[.agg (nums .u8 ks).toArray, .int .u32 z, .agg (nums .u8 ns).toArray] w fun e w' => e = .returned (.agg (nums .u8 (block ks m ns)).toArray) ∧ Old w w' := by
  subst hz
  exact refBlock_any ks ns m I.kl I.nl I.kb hm I.nb w
theorem XB.start {T : TypeId} (w : World) (ks ns : List Nat) (n : Nat) (f : Nat → Nat) (c : Nat) :
    XB T w ks ns (partF n f 0) (blk ks c ns 0) ((((w.alloc (.cells (nums .u8 ks).toArray T)).alloc (.cells (nums .u8 ns).toArray 77)).alloc (.cells (nums .u8 (List.replicate n 0)).toArray 5)).alloc (.cells (nums .u8 (List.replicate 64 0)).toArray 83)) := by
  have K1 := Row.new w T (nums .u8 ks)
  have O1 := Old.of_alloc w (.cells (nums .u8 ks).toArray T)
  have e1 := size_alloc w (.cells (nums .u8 ks).toArray T)
  revert K1 O1 e1
  generalize w.alloc (.cells (nums .u8 ks).toArray T) = w1
  intro K1 O1 e1
  have K2 := Row.new w1 77 (nums .u8 ns)
  have O2 := Old.of_alloc w1 (.cells (nums .u8 ns).toArray 77)
  have e2 := size_alloc w1 (.cells (nums .u8 ns).toArray 77)
  revert K2 O2 e2
  generalize w1.alloc (.cells (nums .u8 ns).toArray 77) = w2
  intro K2 O2 e2
  have K3 := Row.new w2 5 (nums .u8 (List.replicate n 0))
  have O3 := Old.of_alloc w2 (.cells (nums .u8 (List.replicate n 0)).toArray 5)
  have e3 := size_alloc w2 (.cells (nums .u8 (List.replicate n 0)).toArray 5)
  revert K3 O3 e3
  generalize w2.alloc (.cells (nums .u8 (List.replicate n 0)).toArray 5) = w3
  intro K3 O3 e3
  have K4 := Row.new w3 83 (nums .u8 (List.replicate 64 0))
  have O4 := Old.of_alloc w3 (.cells (nums .u8 (List.replicate 64 0)).toArray 83)
  rw [e1] at K2
  rw [e2, e1] at K3
  rw [e3, e2, e1] at K4
  refine ⟨((K1.mono O2).mono O3).mono O4, (K2.mono O3).mono O4, ?_, K4, ((O1.trans O2).trans O3).trans O4⟩
  rw [partF_zero]
  exact K3.mono O4
theorem Old.cell {w w' : World} (o : Old w w') {ad : Addr} {v : Value} (h : w.cell? ad = some v) : w'.cell? ad = some v :=
  (Below.cell o (World.block_lt_of_cell? w _ h)).trans h
theorem xor_byte {x y : Nat} {bs : List Nat} {k : Nat} (hx : bs[k]? = some x) (hb : ∀ x ∈ bs, x < 256) (hy : y < 256) : bits .xor .u8 (x : Int) (y : Int) = ((at_ bs k ^^^ y : Nat) : Int) := by
  have e : at_ bs k = x := by simp [at_, hx]
  rw [e]
  exact u8_xor_nat x y (hb x (List.mem_of_getElem? hx)) hy
theorem cnt_nat (c k : Nat) : ((c : Int) + (k : Int) / 64) % 4294967296 = ((add c (k / 64) : Nat) : Int) := by
  unfold add; omega

set_option maxHeartbeats 2000000 in
theorem Xor_own (ks ns bs : List Nat) (c n : Nat) (I : In ks c ns) (a : Option Addr) (cap : Nat) (w : World) (ht : QTab w) (hl : bs.length = n) (hn : n ≤ 1073741824) (hb : ∀ x ∈ bs, x < 256) (rd : Rd w a (nums .u8 bs)) :
    Calls Tryd.prog 45 #[.agg (nums .u8 ks).toArray, .int .u32 (c : Nat), .agg (nums .u8 ns).toArray, .slice a n cap] w fun e w' =>
      ∃ g, w.heap.size ≤ g ∧ e = .returned (.slice (some ⟨g, 0, none⟩) n n) ∧ Row w' g 5 (nums .u8 (Cha.xor ks c ns bs)) ∧ Old w w' := by
  have HT := hide ht
  have HL := hide hl
  have HB := hide hb
  have HI := hide I
  have hmk := make_bytes n hn
  clear ht hl hb I
  go_enter Tryd.func45, Tryd.ntmps45
  go_wp2
  clear hmk
  go_loopw [18] (fun vi wr => ∃ k : Nat, k ≤ n ∧ vi = .int .i64 (k : Nat) ∧ XB 32 w ks ns (partF n (xorAt ks c ns bs) k) (blk ks c ns k) wr) (fun vi _ => (n - intOf vi).toNat)
  case atStart =>
    exact ⟨0, by omega, rfl, XB.start w ks ns n _ c⟩
  case round =>
    obtain ⟨k, hk, rfl, X⟩ := hrel
    by_cases hkn : k = n
    · subst hkn
      go_wp2
      go_ret
      refine ⟨_, ?_, rfl, ?_, X.old⟩
      · omega
      · have := X.o
        rw [partF_all, ← HL.out, xor_eq] at this
        exact this
    · have hkl : k < n := by omega
      obtain ⟨b, off, x, rfl, Hx, hc⟩ := (rd.mono X.old).num (i := k) (by rw [HL.out]; exact hkl)
      have hki : (0 : Int) ≤ k := by omega
      have hki2 : (k : Int) < n := by omega
      by_cases hk64 : k % 64 = 0
      · have hm : ((k : Int) % 64 == 0) = true := by rw [beq_iff_eq]; omega
        go_wp2_with (first
          | refine wp_load_whole rfl 32 _ rfl w.heap.size rfl X.k Tryd.underlying32 rfl (info_k HI.out.kl) ?_
          | refine wp_load_whole rfl 77 _ rfl (w.heap.size + 1) rfl X.n Tryd.underlying77 rfl (info_n HI.out.nl) ?_)
        refine (Block_in HI.out _ (add c (k / 64)) (cnt_nat c k) (add_lt _ _) _ (HT.out.mono X.old)).mono ?_
        rintro e w1 ⟨rfl, o1⟩
        have X1 := X.mono o1
        clear X o1 hc
        go_wp2_with (first
          | (refine wp_store_whole rfl 83 _ _ rfl (w.heap.size + 1 + 1 + 1) rfl (nums .u8 (block ks (add c (k / 64)) ns)) rfl X1.b (info_b (block_length _ _ _)) (by rw [nums_length, nums_length, blk_length, block_length]) (nums_oneCell _ _) ?_; rintro w2 h2
             have X2 := X1.store _ h2
             clear X1 h2
             have hc1 := X2.b.some (i := 0) (by rw [block_length]; omega)
             have hc2 := X2.o.some (i := k) (by rw [partF_length]; exact hkl)
             have hc3 := X2.o.free k))
        go_roundw
        case rel =>
          refine ⟨k + 1, by omega, by go_num, ?_⟩
          rw [xor_byte Hx.out HB.out (at8_lt (block_lt _ _ _) _), blk_next, ← partF_step _ _ _ hkl]
          have := X2.put k (xorAt ks c ns bs k)
          rw [xorAt, hk64] at this
          rw [xorAt, hk64]
          exact this
        case measure => simp [intOf]; omega
      · have hm : ((k : Int) % 64 == 0) = false := by rw [beq_eq_false_iff_ne]; omega
        rw [blk_same _ _ _ _ hk64] at X
        have hc1 := X.b.some (i := k % 64) (by rw [block_length]; omega)
        have hc2 := X.o.some (i := k) (by rw [partF_length]; exact hkl)
        have hc3 := X.o.free k
        go_wp2
        go_roundw
        case rel =>
          refine ⟨k + 1, by omega, by go_num, ?_⟩
          rw [xor_byte Hx.out HB.out (at8_lt (block_lt _ _ _) _), blk_next, ← partF_step _ _ _ hkl]
          exact X.put _ _
        case measure => simp [intOf]; omega
theorem Xor_any (ks ns bs : List Nat) (c n : Nat) (I : In ks c ns) (a : Option Addr) (cap : Nat) (w : World) (ht : QTab w) (hl : bs.length = n) (hn : n ≤ 1073741824) (hb : ∀ x ∈ bs, x < 256) (rd : Rd w a (nums .u8 bs)) :
    Calls Tryd.prog 45 #[.agg (nums .u8 ks).toArray, .int .u32 (c : Nat), .agg (nums .u8 ns).toArray, .slice a n cap] w fun e w' =>
      ∃ g, e = .returned (.slice (some ⟨g, 0, none⟩) n n) ∧ Rd w' (some ⟨g, 0, none⟩) (nums .u8 (Cha.xor ks c ns bs)) ∧ Old w w' :=
  (Xor_own ks ns bs c n I a cap w ht hl hn hb rd).mono fun _ _ ⟨g, _, h1, h2, h3⟩ => ⟨g, h1, h2.rd, h3⟩

set_option maxHeartbeats 2000000 in
theorem refXor_own (ks ns bs : List Nat) (c n : Nat) (I : In ks c ns) (a : Option Addr) (cap : Nat) (w : World) (hl : bs.length = n) (hn : n ≤ 1073741824) (hb : ∀ x ∈ bs, x < 256) (rd : Rd w a (nums .u8 bs)) :
    Calls Tryd.prog 47 #[.agg (nums .u8 ks).toArray, .int .u32 (c : Nat), .agg (nums .u8 ns).toArray, .slice a n cap] w fun e w' =>
      ∃ g, w.heap.size ≤ g ∧ e = .returned (.slice (some ⟨g, 0, none⟩) n n) ∧ Row w' g 5 (nums .u8 (Cha.xor ks c ns bs)) ∧ Old w w' := by
  have HL := hide hl
  have HB := hide hb
  have HI := hide I
  have hmk := make_bytes n hn
  have Z1 : Hid (∀ w : World, Row (w.alloc (.cells (nums .u8 (List.replicate 64 0)).toArray 83)) w.heap.size 83 (nums .u8 (List.replicate 64 0))) := fun w => Row.new _ _ _
  clear hl hb I
  go_enter Tryd.func47, Tryd.ntmps47
  go_wp2_with (first
    | (refine wp_store_whole rfl 83 _ _ rfl (w.heap.size + 1 + 1 + 1) rfl (nums .u8 (List.replicate 64 0)) rfl (XB.start (T := 22) w ks ns n (xorAt ks c ns bs) c).b (info_b (by rw [List.length_replicate])) (by rw [nums_length, nums_length, blk_length, List.length_replicate]) (nums_oneCell _ _) ?_; rintro w0 h0
       have X0 : XB 22 w ks ns (partF n (xorAt ks c ns bs) 0) (blk ks c ns 0) w0 := (XB.start (T := 22) w ks ns n (xorAt ks c ns bs) c).store (List.replicate 64 0) h0
       clear h0))
  clear hmk
  go_loopw [11] (fun vi wr => ∃ k : Nat, k ≤ n ∧ vi = .int .i64 (k : Nat) ∧ XB 22 w ks ns (partF n (xorAt ks c ns bs) k) (blk ks c ns k) wr) (fun vi _ => (n - intOf vi).toNat)
  case atStart => exact ⟨0, by omega, rfl, X0⟩
  case round =>
    clear X0
    obtain ⟨k, hk, rfl, X⟩ := hrel
    by_cases hkn : k = n
    · subst hkn
      go_wp2
      go_ret
      refine ⟨_, ?_, rfl, ?_, X.old⟩
      · omega
      · have := X.o
        rw [partF_all, ← HL.out, xor_eq] at this
        exact this
    · have hkl : k < n := by omega
      obtain ⟨b, off, x, rfl, Hx, hc0⟩ := rd.num (i := k) (by rw [HL.out]; exact hkl)
      have HC := hide hc0
      have hki : (0 : Int) ≤ k := by omega
      have hki2 : (k : Int) < n := by omega
      clear hc0
      by_cases hk64 : k % 64 = 0
      · have hm : ((k : Int) % 64 == 0) = true := by rw [beq_iff_eq]; omega
        go_wp2_with (first
          | refine wp_load_whole rfl 22 _ rfl w.heap.size rfl X.k Tryd.underlying22 rfl (info_k' HI.out.kl) ?_
          | refine wp_load_whole rfl 77 _ rfl (w.heap.size + 1) rfl X.n Tryd.underlying77 rfl (info_n HI.out.nl) ?_)
        refine (refBlock_in HI.out _ (add c (k / 64)) (cnt_nat c k) (add_lt _ _) _).mono ?_
        rintro e w1 ⟨rfl, o1⟩
        have X1 := X.mono o1
        clear X o1
        go_wp2_with (first
          | (refine wp_store_whole rfl 83 _ _ rfl (w.heap.size + 1 + 1 + 1) rfl (nums .u8 (block ks (add c (k / 64)) ns)) rfl X1.b (info_b (block_length _ _ _)) (by rw [nums_length, nums_length, blk_length, block_length]) (nums_oneCell _ _) ?_; rintro w2 h2
             have X2 := X1.store _ h2
             clear X1 h2
             have hc := X2.old.cell HC.out
             have hc1 := X2.b.some (i := 0) (by rw [block_length]; omega)
             have hc2 := X2.o.some (i := k) (by rw [partF_length]; exact hkl)
             have hc3 := X2.o.free k))
        simp only [Act.put]
        go_region
        go_wp2
        go_roundw
        case rel =>
          refine ⟨k + 1, by omega, by go_num, ?_⟩
          rw [xor_byte Hx.out HB.out (at8_lt (block_lt _ _ _) _), blk_next, ← partF_step _ _ _ hkl]
          have := (X2.mono (Old.of_drewN w2 1)).put k (xorAt ks c ns bs k)
          rw [xorAt, hk64] at this
          rw [xorAt, hk64]
          exact this
        case measure => simp [intOf]; omega
      · have hm : ((k : Int) % 64 == 0) = false := by rw [beq_eq_false_iff_ne]; omega
        rw [blk_same _ _ _ _ hk64] at X
        have hc := X.old.cell HC.out
        have hc1 := X.b.some (i := k % 64) (by rw [block_length]; omega)
        have hc2 := X.o.some (i := k) (by rw [partF_length]; exact hkl)
        have hc3 := X.o.free k
        go_wp2_with fail
        go_region
        go_wp2
        go_roundw
        case rel =>
          refine ⟨k + 1, by omega, by go_num, ?_⟩
          rw [xor_byte Hx.out HB.out (at8_lt (block_lt _ _ _) _), blk_next, ← partF_step _ _ _ hkl]
          exact (X.mono (Old.of_drewN wr 1)).put k (xorAt ks c ns bs k)
        case measure => simp [intOf]; omega
theorem refXor_any (ks ns bs : List Nat) (c n : Nat) (I : In ks c ns) (a : Option Addr) (cap : Nat) (w : World) (hl : bs.length = n) (hn : n ≤ 1073741824) (hb : ∀ x ∈ bs, x < 256) (rd : Rd w a (nums .u8 bs)) :
    Calls Tryd.prog 47 #[.agg (nums .u8 ks).toArray, .int .u32 (c : Nat), .agg (nums .u8 ns).toArray, .slice a n cap] w fun e w' =>
      ∃ g, e = .returned (.slice (some ⟨g, 0, none⟩) n n) ∧ Rd w' (some ⟨g, 0, none⟩) (nums .u8 (Cha.xor ks c ns bs)) ∧ Old w w' :=
  (refXor_own ks ns bs c n I a cap w hl hn hb rd).mono fun _ _ ⟨g, _, h1, h2, h3⟩ => ⟨g, h1, h2.rd, h3⟩

end Go.Proofs.YtjbpnhibgafdmaaDoor
