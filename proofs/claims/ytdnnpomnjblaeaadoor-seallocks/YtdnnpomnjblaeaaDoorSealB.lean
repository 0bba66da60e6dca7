/-
  Package seal, second part: read, veil.
-/
import Derived.Test.YtdnnpomnjblaeaaDoorSealA
import Derived.Test.YtdnnpomnjblaeaaDoorGroup
import Derived.Test.YtdnnpomnjblaeaaDoorDerive
import Derived.BigRegion
namespace Go.Proofs.YtdnnpomnjblaeaaDoor
open Go.RowKit Cha Limb Sl M
set_option linter.unusedVariables false

theorem make_u64 (n : Nat) (hn : n ≤ 1073741824) : ∀ w : World, (Instr.makeSlice 23 (.int .i64 (n : Int)) (.int .i64 (n : Int))).run Tryd.prog w = .ok (.slice (some ⟨w.heap.size, 0, none⟩) n n) (w.alloc (.cells (nums .u64 (List.replicate n 0)).toArray 22)) :=
  make_nums (B := 8) Tryd.underlying23 (by kernel_rfl) n (by omega) (by omega)

set_option maxHeartbeats 4000000 in
theorem read_any (bs : List Nat) (a : Option Addr) (n m cap : Nat) (hl : bs.length = n) (hm : n = 8 * m) (hn : m ≤ 8) (hb : ∀ x ∈ bs, x < 256) (w : World) (rd : Rd w a (nums .u8 bs)) :
    Calls Tryd.prog 24 #[.slice a n cap] w fun e w' => ∃ g, w.heap.size ≤ g ∧ e = .returned (.slice (some ⟨g, 0, none⟩) m m) ∧ Row w' g 22 (nums .u64 (rd8 bs)) ∧ Old w w' := by
  have HL := hide hl
  have HB := hide hb
  have hmk := make_u64 m (by omega)
  rw [show (m : Int) = (n : Int) / 8 by omega] at hmk
  have R0 : Hid (RowN w w.heap.size (rdTo bs 0) (w.alloc (.cells (nums .u64 (List.replicate m 0)).toArray 22))) := by
    refine ⟨?_, Old.of_alloc _ _, Nat.le_refl _⟩
    rw [rdTo_zero, hl, show n / 8 = m by omega]
    exact Row.new _ _ _
  have hn2 : n ≤ 64 := by omega
  have HM := hide hm
  clear hl hb hm
  have n0 : (n : Int) ≤ 64 := by omega
  go_enter Tryd.func24, Tryd.ntmps24
  go_wp2_with fail
  clear hmk
  rw [show (n : Int) / 8 = (m : Int) by have := HM.out; omega]
  go_loopw [12] (fun vi wr => ∃ k : Nat, k ≤ n ∧ vi = .int .i64 (k : Nat) ∧ Hid (RowN w w.heap.size (rdTo bs k) wr)) (fun vi _ => (n - intOf vi).toNat)
  case atStart => exact ⟨0, by omega, rfl, R0⟩
  case round =>
    clear R0
    obtain ⟨k, hk, rfl, R⟩ := hrel
    by_cases hkm : k = n
    · subst hkm
      go_wp2
      go_ret
      refine ⟨_, Nat.le_refl _, rfl, ?_, R.out.old⟩
      have := R.out.r
      rw [← HL.out, rdTo_all] at this
      exact this
    · have hkl : k < n := by omega
      obtain ⟨b, off, x, rfl, Hx, hc0⟩ := rd.num (i := k) (by rw [HL.out]; exact hkl)
      have lb := HB.out x (List.mem_of_getElem? Hx.out)
      have hc := R.out.old.cell hc0
      have k8 : k / 8 < m := by have := HM.out; omega
      have hq : k / 8 < bs.length / 8 := by rw [HL.out, HM.out]; omega
      obtain ⟨y, Hy, cy⟩ := R.out.r.num (i := k / 8) (by rw [rdTo_length]; exact hq)
      have fy := R.out.r.free (k / 8)
      obtain ⟨yl, ST⟩ := rdTo_step HB.out Hx.out hq Hy.out
      obtain ⟨e1, e2⟩ := shl_or8 lb (show 8 * (k % 8) ≤ 56 by omega) yl rfl
      have R3 := hide (R.out.set (k / 8) (y + x * 2 ^ (8 * (k % 8))))
      rw [ST] at R3
      have E2 : Hid (bits .or .u64 (y : Int) ((x : Int) * 2 ^ (8 * (k % 8))) = ((y + x * 2 ^ (8 * (k % 8)) : Nat) : Int)) := by
        show _ = _
        rw [← e2]
        simp
      have td := tdiv8 k
      have tm := tmod8 k
      have hki : (0 : Int) ≤ k := by omega
      have hki2 : (k : Int) < n := by omega
      have q0 : (0 : Int) ≤ ((k / 8 : Nat) : Int) := by omega
      have q1 : ((k / 8 : Nat) : Int) < (m : Int) := by omega
      clear yl ST hc0 hq e2
      go_wp2_with fail
      go_region
      go_wp2
      go_roundw
      case rel =>
        refine ⟨k + 1, by omega, by go_num, ?_⟩
        rw [E2.out]
        exact R3.out.drewN 1
      case measure => simp [intOf]; omega

/-- What lies at the call's first new block. -/
structure WB (w : World) (vs : List Value) (wr : World) : Prop where
  k : wr.rangeAt w.heap.size 0 vs
  old : Old w wr
theorem WB.mono {w wr w' : World} {vs : List Value} (h : WB w vs wr) (o : Old wr w') : WB w vs w' := ⟨range_mono o h.k, h.old.trans o⟩
theorem WB.start (w : World) (vs : List Value) (T : TypeId) : WB w vs (w.alloc (.cells vs.toArray T)) := ⟨(Row.new w _ _).range, Old.of_alloc _ _⟩

set_option maxHeartbeats 1000000 in
theorem veil_no (s p : Nat) (f t : Int) (E : Nat) (hE : ((E : Int) != 0) = true) (a : Option Addr) (n cap : Nat) (w : World)
    (c : Hid (∀ w, Calls Tryd.prog 27 #[.int .u64 s, .int .u64 p] w fun e w' => e = .returned (.tuple #[.int .u64 0, .int .i64 E]) ∧ w' = w)) :
    Calls Tryd.prog 18 #[.agg (wayV s p f t).toArray, .slice a n cap] w fun e w' => e = .returned (.tuple #[.slice none 0 0, .int .i64 E]) ∧ Old w w' := by
  unfold wayV
  have O := Old.of_alloc w (.cells #[.int .u64 (s : Nat), .int .u64 (p : Nat), .int .i64 f, .int .i64 t] 44)
  go_enter Tryd.func18, Tryd.ntmps18
  go_wp2_with fail
  refine (c.out _).mono ?_
  rintro e w1 ⟨rfl, rfl⟩
  go_wp2
  go_ret2
  exact ⟨rfl, O⟩

theorem info_w {l : List Value} (h : l.length = 4) : (Tryd.prog.info? 44).map (·.size) = some l.length := by
  rw [h]; kernel_rfl
theorem xor8_nat {x y : Nat} (hx : x < 256) (hy : y < 256) : bits .xor .u8 (y : Int) (x : Int) = ((y ^^^ x : Nat) : Int) := by
  have h := xor_byte (x := y) (y := x) (bs := [y]) (k := 0) rfl (by simpa using hy) hx
  simpa [at_] using h

set_option maxHeartbeats 4000000 in
theorem veil_ok (s p f t q : Nat) (hf : f ≤ 64) (ht : t ≤ 64) (hq : q < 18446744073709551616) (bs : List Nat) (a : Option Addr) (n cap : Nat) (hl : bs.length = n) (hn : n ≤ 64) (hb : ∀ x ∈ bs, x < 256) (w : World) (rd : Rd w a (nums .u8 bs)) (qt : QTab w)
    (c : Hid (∀ w, Calls Tryd.prog 27 #[.int .u64 s, .int .u64 p] w fun e w' => e = .returned (.tuple #[.int .u64 q, .int .i64 0]) ∧ w' = w)) :
    Calls Tryd.prog 18 #[.agg (wayV s p f t).toArray, .slice a n cap] w fun e w' =>
      ∃ g, w.heap.size ≤ g ∧ e = .returned (.tuple #[.slice (some ⟨g, 0, none⟩) n n, .int .i64 0]) ∧ Row w' g 5 (nums .u8 (hid q f t bs)) ∧ Old w w' := by
  have HL := hide hl
  have HB := hide hb
  have HQ := hide qt
  have HR := hide rd
  have HW : Hid ((Tryd.prog.info? 44).map (·.size) = some (wayV s p f t).length) := info_w rfl
  have B0 := hide (WB.start w (wayV s p f t) 44)
  have C1 := hide (fun (w : World) (q' : QTab w) => Derive_any q hq 1 (by omega) w q')
  have C2 := hide (tag_any s p f t hf ht)
  have ht2 : tagN f t < 4294967296 := by unfold tagN; omega
  have C3 := hide (fun (w : World) (q' : QTab w) => BytesAt (derive q 1) (derive_length _ _) (derive_lt _ _) (tagN f t) ht2 n (by omega) n rfl w q')
  have VZ := hide (veilTo_zero (derive q 1) (tagN f t) bs)
  have VA := hide (veilTo_all (derive q 1) (tagN f t) bs)
  have VH : Hid (hid q f t bs = Cha.xor (derive q 1) 0 (nonceOf (tagN f t)) bs) := rfl
  revert C1 C2 C3 VZ VA VH
  generalize derive q 1 = de
  generalize tagN f t = tg
  intro C1 C2 C3 VZ VA VH
  rw [HL.out] at VZ
  rw [← VH.out] at VA
  clear hl hb qt rd hf ht hq VH ht2
  unfold wayV at *
  go_enter Tryd.func18, Tryd.ntmps18
  go_wp2_with fail
  refine (c.out _).mono ?_
  rintro e w1 ⟨rfl, rfl⟩
  go_wp2_with fail
  obtain ⟨W0, hW0⟩ : ∃ W, W = w.alloc (.cells #[.int .u64 (s : Nat), .int .u64 (p : Nat), .int .i64 (f : Nat), .int .i64 (t : Nat)] 44) := ⟨_, rfl⟩
  have B1 : WB w [.int .u64 (s : Nat), .int .u64 (p : Nat), .int .i64 (f : Nat), .int .i64 (t : Nat)] W0 := by rw [hW0]; exact B0.out
  rw [← hW0]
  replace B1 := hide (B1.mono ((Old.refl W0).drewN 1))
  clear hW0 B0 c
  refine Ssx.region (Ext := Old) (WB w [.int .u64 (s : Nat), .int .u64 (p : Nat), .int .i64 (f : Nat), .int .i64 (t : Nat)]) [22, 23, 24, 25, 26, 27, 28, 8]
    [(22, Ssx.nat .u64 q), (23, Ssx.cst (.agg (nums .u8 de).toArray)), (24, Ssx.cst (.agg #[.int .u64 (s : Nat), .int .u64 (p : Nat), .int .i64 (f : Nat), .int .i64 (t : Nat)])), (25, Ssx.nat .u32 tg), (26, Ssx.cst (.slice a n cap)), (27, Ssx.nat .i64 n),
     (28, fresh w.heap.size .u8 5 n (sbytes de tg n)), (8, fresh w.heap.size .u8 5 n (sbytes de tg n))]
    [] (by kernel_rfl) (by kernel_rfl) (by kernel_rfl) (by kernel_rfl) (fun _ _ h => by cases h) (by kernel_rfl) (by kernel_rfl) (by kernel_rfl) B1.out ?good ?behind
  case good =>
    refine ⟨Ssx.mv Old.refl rfl rfl (fun _ _ h => h), ?_, Ssx.whole Old.refl rfl rfl w.heap.size [.int .u64 (s : Nat), .int .u64 (p : Nat), .int .i64 (f : Nat), .int .i64 (t : Nat)] (fun _ _ h => h) (fun _ h => h.k) Tryd.underlying44 rfl HW.out (fun _ => rfl), ?_, Ssx.mv Old.refl rfl rfl (fun _ _ h => h),
      Ssx.val1 Old.refl (x := 26) (.slice a n cap) (by simp [Op.operands, Call.operands]) rfl (fun _ _ h => h) (fun ρ h1 hc w => by unfold execOp; simp [h1, go_sem]) (fun _ => rfl), ?_, Ssx.asg Old.refl rfl rfl (fun _ _ h => h), trivial⟩
    · refine Ssx.call rfl fun a w' hC hop => ⟨29, #[.int .u64 (q : Nat), .int .u32 1], ?_, ?_⟩
      · have h1 : a.eval (.tmp 22) = .int .u64 (q : Nat) := hop 22 (by simp [Op.operands, Call.operands])
        simp [Act.eval] at h1
        simp [h1, go_sem]
      · exact (C1.out w' (HQ.out.mono hC.old)).mono fun _ _ ⟨h1, h2⟩ => ⟨_, h1, hC.mono h2, h2, rfl⟩
    · refine Ssx.call rfl fun a w' hC hop => ⟨30, #[.agg #[.int .u64 (s : Nat), .int .u64 (p : Nat), .int .i64 (f : Nat), .int .i64 (t : Nat)]], ?_, ?_⟩
      · have h1 : a.eval (.tmp 24) = .agg #[.int .u64 (s : Nat), .int .u64 (p : Nat), .int .i64 (f : Nat), .int .i64 (t : Nat)] := hop 24 (by simp [Op.operands, Call.operands])
        simp [Act.eval] at h1
        simp [h1, go_sem]
      · exact (C2.out w').mono fun _ _ ⟨h1, h2⟩ => ⟨_, h1, hC.mono h2, h2, rfl⟩
    · refine Ssx.call rfl fun a w' hC hop => ⟨28, #[.agg (nums .u8 de).toArray, .int .u32 (tg : Nat), .int .i64 (n : Nat)], ?_, ?_⟩
      · have h1 : a.eval (.tmp 23) = .agg (nums .u8 de).toArray := hop 23 (by simp [Op.operands, Call.operands])
        have h2 : a.eval (.tmp 25) = .int .u32 (tg : Nat) := hop 25 (by simp [Op.operands, Call.operands])
        have h3 : a.eval (.tmp 27) = .int .i64 (n : Nat) := hop 27 (by simp [Op.operands, Call.operands])
        simp [Act.eval] at h1 h2 h3
        simp [h1, h2, h3, go_sem]
      · exact (C3.out w' (HQ.out.mono hC.old)).mono fun _ _ ⟨g, h0, h1, h2, h3⟩ => ⟨_, h1, hC.mono h3, h3, ⟨g, Nat.le_trans hC.old.size h0, rfl, h2⟩⟩
  case behind =>
    intro vals w2 hC hv
    have h8 : (fresh w.heap.size .u8 5 n (sbytes de tg n)).p (vals 8) w2 := hv _ (.tail _ (.tail _ (.tail _ (.tail _ (.tail _ (.tail _ (.tail _ (.head _))))))))
    obtain ⟨g, hg, h1, h2⟩ := h8
    have R0 : Hid (RowB w g (veilTo de tg bs 0) w2) := ⟨by rw [VZ.out]; exact h2, hC.old, hg⟩
    clear hC hv B1 C1 C2 C3 VZ
    simp only [Ssa.putAll, List.map_cons, List.map_nil, List.foldl_cons, List.foldl_nil, List.setIfInBounds_toArray, List.set_cons_succ, List.set_cons_zero]
    rw [h1]
    clear h1
    generalize vals 22 = x22
    generalize vals 23 = x23
    generalize vals 24 = x24
    generalize vals 25 = x25
    generalize vals 26 = x26
    generalize vals 27 = x27
    generalize vals 28 = x28
    rename_i Q0 K0 hK
    refine hK _ w2 ?_
    clear hK
    go_wp2_with fail
    go_loopw [31] (fun vi wr => ∃ k : Nat, k ≤ n ∧ vi = .int .i64 (k : Nat) ∧ Hid (RowB w g (veilTo de tg bs k) wr)) (fun vi _ => (n - intOf vi).toNat)
    case atStart => exact ⟨0, by omega, rfl, R0⟩
    case round =>
      clear R0
      obtain ⟨k, hk, rfl, R⟩ := hrel
      by_cases hkm : k = n
      · subst hkm
        go_wp2
        go_ret2
        refine ⟨_, R.out.le, rfl, ?_, R.out.old⟩
        have := R.out.r
        rw [← HL.out, VA.out] at this
        exact this
      · have hkl : k < n := by omega
        obtain ⟨b, off, x, rfl, Hx, hc0⟩ := HR.out.num (i := k) (by rw [HL.out]; exact hkl)
        have lb := HB.out x (List.mem_of_getElem? Hx.out)
        have hc := R.out.old.cell hc0
        obtain ⟨y, Hy, cy⟩ := R.out.r.num (i := k) (by rw [veilTo_length, HL.out]; exact hkl)
        have ly := veilTo_lt de tg HB.out k y (List.mem_of_getElem? Hy.out)
        have fy := R.out.r.free k
        have ST := veilTo_step de tg Hx.out Hy.out
        have E2 := hide (xor8_nat lb ly)
        have R3 := hide (R.out.set k (y ^^^ x))
        rw [ST] at R3
        have hki : (0 : Int) ≤ k := by omega
        have hki2 : (k : Int) < n := by omega
        clear ST hc0 lb ly
        go_wp2
        go_roundw
        case rel =>
          refine ⟨k + 1, by omega, by go_num, ?_⟩
          rw [E2.out]
          exact R3
        case measure => simp [intOf]; omega
end Go.Proofs.YtdnnpomnjblaeaaDoor
