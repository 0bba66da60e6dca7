/-
  The walk of layer 9's statement WideOrders, if the layer's calls are what they owe.
-/
import Derived.Test.YtindmmipncclbaaDoorLaws9b
namespace Go.Proofs.YtindmmipncclbaaDoor
open Go.RowKit Wd
set_option linter.unusedVariables false

theorem cmp_top {x y k : Nat} (h : cmpZ (x / 65536 ^ k) (y / 65536 ^ k) ≠ 0) : cmpZ (x / 65536 ^ k) (y / 65536 ^ k) = cmpZ x y := by
  rcases Nat.lt_trichotomy (x / 65536 ^ k) (y / 65536 ^ k) with h1 | h1 | h1
  · rw [cmpZ_lt h1, cmpZ_lt]
    apply Nat.lt_of_not_le
    intro h2
    have := Nat.div_le_div_right (c := 65536 ^ k) h2
    omega
  · rw [h1, cmpZ_eq] at h; exact absurd rfl h
  · rw [cmpZ_gt h1, cmpZ_gt]
    apply Nat.lt_of_not_le
    intro h2
    have := Nat.div_le_div_right (c := 65536 ^ k) h2
    omega
theorem cmp_step {x y k : Nat} (h : cmpZ (x / 65536 ^ (k + 1)) (y / 65536 ^ (k + 1)) = 0) : cmpZ (x / 65536 ^ k) (y / 65536 ^ k) = cmpZ (digit x k) (digit y k) := by
  have e : x / 65536 ^ (k + 1) = y / 65536 ^ (k + 1) := by
    unfold cmpZ at h
    split at h
    · omega
    · split at h
      · assumption
      · omega
  rw [Nat.pow_succ, ← Nat.div_div_eq_div_mul, ← Nat.div_div_eq_div_mul] at e
  unfold digit cmpZ
  generalize x / 65536 ^ k = p at *
  generalize y / 65536 ^ k = q at *
  by_cases h1 : p < q
  · rw [if_pos h1, if_pos (show p % 65536 < q % 65536 by omega)]
  · rw [if_neg h1, if_neg (show ¬ p % 65536 < q % 65536 by omega)]
    by_cases h2 : p = q
    · rw [if_pos h2, if_pos (by rw [h2])]
    · rw [if_neg h2, if_neg (show ¬ p % 65536 = q % 65536 by omega)]
theorem Kb.drewN {w : World} {a b c d : Value} {g g' : Nat} {x y : List Nat} {wr : World} (K : Kb w a b c d g g' x y wr) (n : Nat) : Kb w a b c d g g' x y (wr.drewN n) := K.mono (Old.of_drewN _ _)

set_option maxHeartbeats 4000000 in
theorem walkK_WideOrders (K : WideK) (v0 v1 : Value) (w : World) (w0 : IsWide v0) (w1 : IsWide v1) (T : Tab9 w) :
    Calls Tryd.prog 6 #[v0, v1] w fun e w' => e = .returned (.bool true) ∧ Old w w' := by
  obtain ⟨x, hx, rfl⟩ := w0
  obtain ⟨y, hy, rfl⟩ := w1
  have C0 := hide (fun w' (o : Old w w') => awake9 K w' (T.mono o))
  have C1 := hide (fun w => refOf9_any x w)
  have C2 := hide (fun w => refOf9_any y w)
  have C3 := hide (K.cmp x y hx hy)
  have BX := hide (bigL_length x)
  have BY := hide (bigL_length y)
  have DX : Hid (∀ k, k < 8 → (bigL x)[k]? = some (digit x k)) := fun k hk => bigL_get x hk
  have DY : Hid (∀ k, k < 8 → (bigL y)[k]? = some (digit y k)) := fun k hk => bigL_get y hk
  have HX := hide hx
  have HY := hide hy
  clear K T hx hy
  unfold wv at C1 C2 C3 ⊢
  unfold bv at C1 C2
  revert C1 C2 C3 BX BY DX DY
  generalize bigL x = bx
  generalize bigL y = bY
  generalize hi x = h
  generalize lo x = l
  generalize hi y = h'
  generalize lo y = l'
  intro C1 C2 C3 BX BY DX DY
  go_enter Tryd.func6, Tryd.ntmps6
  go_wp2_with fail
  have S1 : Kq w [(w.heap.size, [.int .u64 (h : Nat), .int .u64 (l : Nat)]), (w.heap.size + 1, [.int .u64 (h' : Nat), .int .u64 (l' : Nat)])] (((w.alloc (.cells #[.int .u64 (h : Nat), .int .u64 (l : Nat)] 24)).alloc (.cells #[.int .u64 (h' : Nat), .int .u64 (l' : Nat)] 24)).drewN 1) := Kq.two w _ _ _ _ 1
  refine Ssz.region (Ext := Old) 6 (Kq w [(w.heap.size, [.int .u64 (h : Nat), .int .u64 (l : Nat)]), (w.heap.size + 1, [.int .u64 (h' : Nat), .int .u64 (l' : Nat)])]) (Ssz.Apart [5, 6]) [9, 10, 11, 12, 5, 6]
    [(9, Ssx.cst (.agg #[.int .u64 (h : Nat), .int .u64 (l : Nat)])), (10, Ssx.cst (.agg (nums .u32 bx).toArray)), (11, Ssx.cst (.agg #[.int .u64 (h' : Nat), .int .u64 (l' : Nat)])), (12, Ssx.cst (.agg (nums .u32 bY).toArray)), (5, newBig w), (6, newBig w)]
    [] (by kernel_rfl) (by kernel_rfl) (by kernel_rfl) (by simp) (by kernel_rfl) (by intro p hp; cases hp) (by kernel_rfl) (by kernel_rfl) Old.refl S1 ?apart ?good ?behind
  case apart => exact ⟨fun s hs x hx => by simp at hs; rcases hs with rfl | rfl <;> simp [Act.eval, undef] at hx, fun s hs t ht hne x y hx hy => by simp at hs; rcases hs with rfl | rfl <;> simp [Act.eval, undef] at hx⟩
  case good =>
    have hE : ∀ w w' : World, Old w w' → w.heap.size ≤ w'.heap.size := fun _ _ h => h.size
    refine And.intro (.inr ⟨by kernel_rfl, Ssz.keep (Ssx.whole Old.refl rfl rfl w.heap.size [.int .u64 (h : Nat), .int .u64 (l : Nat)] (fun _ _ h => h) (fun _ h => h.has _ (.head _)) Tryd.underlying24 rfl infoW (fun _ => rfl)) hE (by kernel_rfl)⟩) ?_
    refine And.intro (.inr ⟨by kernel_rfl, Ssz.keep (Ssx.call rfl fun a w' hC hop => ⟨10, #[.agg #[.int .u64 (h : Nat), .int .u64 (l : Nat)]], ?_, (C1.out w').mono fun _ _ ⟨h1, h2⟩ => ⟨_, h1, hC.mono h2, h2, rfl⟩⟩) hE (by kernel_rfl)⟩) ?_
    · have h0 : a.eval (.tmp 9) = .agg #[.int .u64 (h : Nat), .int .u64 (l : Nat)] := hop 9 (by simp [Op.operands, Call.operands])
      simp [Act.eval] at h0
      simp [h0, go_sem]
    refine And.intro (.inr ⟨by kernel_rfl, Ssz.keep (Ssx.whole Old.refl rfl rfl (w.heap.size + 1) [.int .u64 (h' : Nat), .int .u64 (l' : Nat)] (fun _ _ h => h) (fun _ h => h.has _ (.tail _ (.head _))) Tryd.underlying24 rfl infoW (fun _ => rfl)) hE (by kernel_rfl)⟩) ?_
    refine And.intro (.inr ⟨by kernel_rfl, Ssz.keep (Ssx.call rfl fun a w' hC hop => ⟨10, #[.agg #[.int .u64 (h' : Nat), .int .u64 (l' : Nat)]], ?_, (C2.out w').mono fun _ _ ⟨h1, h2⟩ => ⟨_, h1, hC.mono h2, h2, rfl⟩⟩) hE (by kernel_rfl)⟩) ?_
    · have h0 : a.eval (.tmp 11) = .agg #[.int .u64 (h' : Nat), .int .u64 (l' : Nat)] := hop 11 (by simp [Op.operands, Call.operands])
      simp [Act.eval] at h0
      simp [h0, go_sem]
    refine And.intro (.inr ⟨by kernel_rfl, Ssz.alloc (zs := nums .u32 z8) rfl rfl (fun w => by kernel_rfl) (fun _ h => h.mono (Old.of_alloc _ _)) (fun w => Old.of_alloc _ _) (fun v h => ⟨_, h.old.size, rfl, Row.new _ _ _⟩)⟩) ?_
    refine And.intro (.inr ⟨by kernel_rfl, Ssz.alloc (zs := nums .u32 z8) rfl rfl (fun w => by kernel_rfl) (fun _ h => h.mono (Old.of_alloc _ _)) (fun w => Old.of_alloc _ _) (fun v h => ⟨_, h.old.size, rfl, Row.new _ _ _⟩)⟩) ?_
    exact trivial
  case behind =>
    intro vals wb hC hD hv
    have hb : vals 10 = .agg (nums .u32 bx).toArray := hv _ (.tail _ (.head _))
    have hb' : vals 12 = .agg (nums .u32 bY).toArray := hv _ (.tail _ (.tail _ (.tail _ (.head _))))
    have ha : vals 9 = .agg #[.int .u64 (h : Nat), .int .u64 (l : Nat)] := hv _ (.head _)
    have ha' : vals 11 = .agg #[.int .u64 (h' : Nat), .int .u64 (l' : Nat)] := hv _ (.tail _ (.tail _ (.head _)))
    obtain ⟨g, hg, h5, R5⟩ := hv _ (.tail _ (.tail _ (.tail _ (.tail _ (.head _)))))
    obtain ⟨g', hg', h6, R6⟩ := hv _ (.tail _ (.tail _ (.tail _ (.tail _ (.tail _ (.head _))))))
    simp only at h5 h6
    simp only [Ssa.putAll, List.map_cons, List.map_nil, List.foldl_cons, List.foldl_nil, List.setIfInBounds_toArray, List.set_cons_succ, List.set_cons_zero, hb, hb', ha, ha', h5, h6, List.drop_succ_cons, List.drop_zero] at hD ⊢
    have hne : g ≠ g' := hD.ne 5 (.head _) 6 (.tail _ (.head _)) (by omega) _ _ rfl rfl
    have Q := hide (Kb.start hC R5 R6 hne hg hg')
    clear hC hD hv hb hb' ha ha' h5 h6 R5 R6 S1
    go_wp2_with (first
      | (refine wp_store_whole rfl 27 _ _ rfl g rfl (nums .u32 bx) rfl Q.out.x (info8 BX.out) (by rw [nums_length, nums_length, BX.out]; rfl) (nums_oneCell _ _) ?_; rintro wc hc
         have Q2 := hide (Q.out.putx bx hc)
         clear hc Q)
      | (refine wp_store_whole rfl 27 _ _ rfl g' rfl (nums .u32 bY) rfl Q2.out.y (info8 BY.out) (by rw [nums_length, nums_length, BY.out]; rfl) (nums_oneCell _ _) ?_; rintro wd hd
         have KB := hide (Q2.out.puty bY hd)
         clear hd Q2))
    try simp only [Act.put]
    go_loopw [7, 8] (fun vw vi wr => ∃ k : Nat, k ≤ 8 ∧ vi = .int .i64 ((k : Int) - 1) ∧ vw = .int .i64 (cmpZ (x / 65536 ^ k) (y / 65536 ^ k)) ∧ Hid (Kb w (.int .u64 (h : Nat)) (.int .u64 (l : Nat)) (.int .u64 (h' : Nat)) (.int .u64 (l' : Nat)) g g' bx bY wr)) (fun _ vi _ => (intOf vi + 1).toNat)
    case atStart => exact ⟨8, by omega, rfl, by rw [show x / 65536 ^ 8 = 0 from Nat.div_eq_of_lt HX.out, show y / 65536 ^ 8 = 0 from Nat.div_eq_of_lt HY.out]; rfl, KB⟩
    case round =>
      clear KB
      obtain ⟨k, hk, rfl, rfl, R⟩ := hrel
      match k, hk with
      | 0, _ =>
        have g1 : decide ((0 : Int) ≤ ((0 : Nat) : Int) - 1) = false := by simp
        rw [show cmpZ (x / 65536 ^ 0) (y / 65536 ^ 0) = cmpZ x y by simp]
        revert C3
        generalize cmpZ x y = cz
        intro C3
        go_wp2_with fail
        refine (C0.out _ R.out.old).mono ?_
        rintro e w5 ⟨rfl, o5⟩
        have R5 := hide (R.out.mono o5)
        clear o5
        have a0 := R5.out.p0
        have a1 := R5.out.p1
        have b0 := R5.out.q0
        have b1 := R5.out.q1
        go_wp2_with fail
        refine (C3.out _).mono ?_
        rintro e w6 ⟨rfl, o6⟩
        have O6 := R5.out.old.trans o6
        clear R5 o6 a0 a1 b0 b1
        go_wp2
        go_ret
        exact ⟨by simp, O6⟩
      | k + 1, hk =>
        have e1 : (((k + 1 : Nat) : Int) - 1) = (k : Int) := by omega
        have k0 : (0 : Int) ≤ k := by omega
        have k1 : (k : Int) < 8 := by omega
        rw [e1]
        by_cases hc : cmpZ (x / 65536 ^ (k + 1)) (y / 65536 ^ (k + 1)) = 0
        · have ST := hide (cmp_step hc)
          rw [hc]
          clear hc e1
          have E1 : Hid ((nums .u32 bx)[k]? = some (.int .u32 (digit x k : Nat))) := by show _ = _; unfold nums; rw [List.getElem?_map, DX.out k (by omega)]; rfl
          have E2 : Hid ((nums .u32 bY)[k]? = some (.int .u32 (digit y k : Nat))) := by show _ = _; unfold nums; rw [List.getElem?_map, DY.out k (by omega)]; rfl
          revert E1 E2 ST
          generalize digit x k = p
          generalize digit y k = q
          intro ST E1 E2
          have c1 := R.out.x.cell (i := k) E1.out
          have c2 := R.out.y.cell (i := k) E2.out
          rcases Nat.lt_trichotomy p q with hlt | heq | hgt
          · have t1 : decide ((p : Int) < q) = true := decide_eq_true (by omega)
            have t2 : decide ((q : Int) < p) = false := decide_eq_false (by omega)
            have CM := hide (cmpZ_lt hlt)
            rw [CM.out] at ST
            go_wp2_with fail
            go_quiet (fail)
            have R2 := hide (R.out.drewN nq)
            revert R2
            generalize wr.drewN nq = wz
            intro R2
            clear R c1 c2
            have c1 := R2.out.x.cell (i := k) E1.out
            have c2 := R2.out.y.cell (i := k) E2.out
            go_wp2_with fail
            go_quiet (fail)
            go_wp2
            go_roundw
            case rel => exact ⟨k, by omega, by go_num, by rw [ST.out], R2.out.drewN _⟩
            case measure => simp [intOf]
          · have t1 : decide ((p : Int) < q) = false := decide_eq_false (by omega)
            have t2 : decide ((q : Int) < p) = false := decide_eq_false (by omega)
            subst heq
            have CM := hide (cmpZ_eq p)
            rw [CM.out] at ST
            go_wp2_with fail
            go_quiet (fail)
            have R2 := hide (R.out.drewN nq)
            revert R2
            generalize wr.drewN nq = wz
            intro R2
            clear R c1 c2
            have c1 := R2.out.x.cell (i := k) E1.out
            have c2 := R2.out.y.cell (i := k) E2.out
            go_wp2_with fail
            go_quiet (fail)
            go_wp2
            go_roundw
            case rel => exact ⟨k, by omega, by go_num, by rw [ST.out], R2.out.drewN _⟩
            case measure => simp [intOf]
          · have t1 : decide ((p : Int) < q) = false := decide_eq_false (by omega)
            have t2 : decide ((q : Int) < p) = true := decide_eq_true (by omega)
            have CM := hide (cmpZ_gt hgt)
            rw [CM.out] at ST
            go_wp2_with fail
            go_quiet (fail)
            have R2 := hide (R.out.drewN nq)
            revert R2
            generalize wr.drewN nq = wz
            intro R2
            clear R c1 c2
            have c1 := R2.out.x.cell (i := k) E1.out
            have c2 := R2.out.y.cell (i := k) E2.out
            go_wp2_with fail
            go_quiet (fail)
            go_wp2
            go_roundw
            case rel => exact ⟨k, by omega, by go_num, by rw [ST.out], R2.out.drewN _⟩
            case measure => simp [intOf]
        · have CT := hide (cmp_top hc)
          have t0 : (cmpZ (x / 65536 ^ (k + 1)) (y / 65536 ^ (k + 1)) == 0) = false := by simpa using hc
          rw [CT.out] at t0 ⊢
          clear hc CT e1
          revert C3 t0
          generalize cmpZ x y = cz
          intro C3 t0
          go_wp2_with fail
          refine (C0.out _ R.out.old).mono ?_
          rintro e w5 ⟨rfl, o5⟩
          have R5 := hide (R.out.mono o5)
          clear o5
          have a0 := R5.out.p0
          have a1 := R5.out.p1
          have b0 := R5.out.q0
          have b1 := R5.out.q1
          go_wp2_with fail
          refine (C3.out _).mono ?_
          rintro e w6 ⟨rfl, o6⟩
          have O6 := R5.out.old.trans o6
          clear R5 o6 a0 a1 b0 b1
          go_wp2
          go_ret
          exact ⟨by simp, O6⟩
end Go.Proofs.YtindmmipncclbaaDoor
