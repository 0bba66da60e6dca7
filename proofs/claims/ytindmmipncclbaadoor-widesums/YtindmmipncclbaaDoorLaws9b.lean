/-
  The walks of layer 9's statements WideSums, WideOrders, if the layer's calls are what they owe.
-/
import Derived.Test.YtindmmipncclbaaDoorLaws9
import Derived.Test.YtindmmipncclbaaDoorSsz
namespace Go.Proofs.YtindmmipncclbaaDoor
open Go.RowKit Wd
set_option linter.unusedVariables false

theorem Row.rngW {w : World} {g : Nat} {t : TypeId} {vs : List Value} (R : Row w g t vs) : w.rangeAt g 0 vs := fun j v hv => by rw [Nat.zero_add]; exact R.cell hv
/-- Blocks that hold what they held, in a world in which nothing old has turned. -/
structure Kq (w : World) (bs : List (Nat × List Value)) (wr : World) : Prop where
  old : Old w wr
  has : ∀ p ∈ bs, wr.rangeAt p.1 0 p.2
  lt : ∀ p ∈ bs, p.1 < wr.heap.size
theorem Kq.mono {w wr w' : World} {bs : List (Nat × List Value)} (h : Kq w bs wr) (o : Old wr w') : Kq w bs w' :=
  ⟨h.old.trans o, fun p hp j v hv => by
    have hc := h.has p hp j v hv
    exact (Below.cell o (World.block_lt_of_cell? wr _ hc)).trans hc, fun p hp => Nat.lt_of_lt_of_le (h.lt p hp) o.size⟩
theorem Kq.two (w : World) (a b c d : Value) (n : Nat) : Kq w [(w.heap.size, [a, b]), (w.heap.size + 1, [c, d])] (((w.alloc (.cells #[a, b] 24)).alloc (.cells #[c, d] 24)).drewN n) := by
  have A0 := (Row.new w 24 [a, b]).mono (Old.of_alloc _ (.cells #[c, d] 24))
  have B0 := Row.new (w.alloc (.cells #[a, b] 24)) 24 [c, d]
  rw [size_allocW] at B0
  refine ⟨((Old.of_alloc _ _).alloc _).drewN n, fun p hp => ?_, fun p hp => ?_⟩
  · simp only [List.mem_cons, List.not_mem_nil, or_false] at hp
    rcases hp with rfl | rfl
    · exact (A0.drewN n).rngW
    · exact (B0.drewN n).rngW
  · simp only [List.mem_cons, List.not_mem_nil, or_false] at hp
    rcases hp with rfl | rfl
    · exact (A0.drewN n).lt
    · exact (B0.drewN n).lt
/-- A new block of digits. -/
def newBig (w0 : World) : Ssx.XP Old := ⟨fun v w => ∃ g, w0.heap.size ≤ g ∧ v = .pointer (some ⟨g, 0, none⟩) ∧ Row w g 27 (nums .u32 z8), fun _ _ _ ⟨g, h0, h1, h2⟩ e => ⟨g, h0, h1, h2.mono e⟩⟩
/-- Four blocks: two numbers, and the digits of both. -/
structure Kb (w : World) (a b c d : Value) (g g' : Nat) (x y : List Nat) (wr : World) : Prop where
  p0 : wr.cell? ⟨w.heap.size, 0, none⟩ = some a
  p1 : wr.cell? ⟨w.heap.size, 1, none⟩ = some b
  q0 : wr.cell? ⟨w.heap.size + 1, 0, none⟩ = some c
  q1 : wr.cell? ⟨w.heap.size + 1, 1, none⟩ = some d
  x : Row wr g 27 (nums .u32 x)
  y : Row wr g' 27 (nums .u32 y)
  ne : g ≠ g'
  lt : w.heap.size + 1 < g ∧ w.heap.size + 1 < g'
  old : Old w wr
theorem two_cells {w : World} {g : Nat} {a b : Value} (h : w.rangeAt g 0 [a, b]) : w.cell? ⟨g, 0, none⟩ = some a ∧ w.cell? ⟨g, 1, none⟩ = some b := ⟨h 0 a rfl, h 1 b rfl⟩
theorem row_wide {w : World} {g : Nat} {x : List Nat} (R : Row w g 27 (nums .u32 x)) {a : Nat} (h : w.cell? ⟨g, 0, none⟩ = some (.int .u64 (a : Nat))) : False := by
  cases x with
  | nil => unfold Row at R; simp [World.cell?, R, nums] at h
  | cons b r =>
    have := R.cell (i := 0) (v := .int .u32 (b : Int)) rfl
    rw [h] at this
    cases this
theorem Kb.start {w wb : World} {h l h' l' : Nat} {g g' : Nat} (K : Kq w [(w.heap.size, [.int .u64 (h : Nat), .int .u64 (l : Nat)]), (w.heap.size + 1, [.int .u64 (h' : Nat), .int .u64 (l' : Nat)])] wb) (R5 : Row wb g 27 (nums .u32 z8)) (R6 : Row wb g' 27 (nums .u32 z8))
    (hne : g ≠ g') (hg : w.heap.size ≤ g) (hg' : w.heap.size ≤ g') : Kb w (.int .u64 (h : Nat)) (.int .u64 (l : Nat)) (.int .u64 (h' : Nat)) (.int .u64 (l' : Nat)) g g' z8 z8 wb := by
  have c1 := two_cells (K.has _ (.head _))
  have c2 := two_cells (K.has _ (.tail _ (.head _)))
  have n1 : ∀ {k}, w.heap.size ≤ k → Row wb k 27 (nums .u32 z8) → w.heap.size + 1 < k := by
    intro k hk R
    have h1 : k ≠ w.heap.size := by rintro rfl; exact row_wide R c1.1
    have h2 : k ≠ w.heap.size + 1 := by rintro rfl; exact row_wide R c2.1
    omega
  exact ⟨c1.1, c1.2, c2.1, c2.2, R5, R6, hne, ⟨n1 hg R5, n1 hg' R6⟩, K.old⟩
theorem Kb.putx {w : World} {a b c d : Value} {g g' : Nat} {x y : List Nat} {wr : World} (K : Kb w a b c d g g' x y wr) (x' : List Nat) {w' : World} (hw : w' = wr.setRow g (nums .u32 x').toArray) : Kb w a b c d g g' x' y w' := by
  subst hw
  have := K.lt
  have gr := grown_setRow wr g (nums .u32 x').toArray
  exact ⟨gr.cell K.p0 (by simp; omega), gr.cell K.p1 (by simp; omega), gr.cell K.q0 (by simp; omega), gr.cell K.q1 (by simp; omega), K.x.whole _, K.y.grown gr (Ne.symm K.ne), K.ne, K.lt, K.old.grown gr (by omega)⟩
theorem Kb.puty {w : World} {a b c d : Value} {g g' : Nat} {x y : List Nat} {wr : World} (K : Kb w a b c d g g' x y wr) (y' : List Nat) {w' : World} (hw : w' = wr.setRow g' (nums .u32 y').toArray) : Kb w a b c d g g' x y' w' := by
  subst hw
  have := K.lt
  have gr := grown_setRow wr g' (nums .u32 y').toArray
  exact ⟨gr.cell K.p0 (by simp; omega), gr.cell K.p1 (by simp; omega), gr.cell K.q0 (by simp; omega), gr.cell K.q1 (by simp; omega), K.x.grown gr K.ne, K.y.whole _, K.ne, K.lt, K.old.grown gr (by omega)⟩
theorem Kb.mono {w : World} {a b c d : Value} {g g' : Nat} {x y : List Nat} {wr w' : World} (K : Kb w a b c d g g' x y wr) (o : Old wr w') : Kb w a b c d g g' x y w' :=
  ⟨(Below.cell o (World.block_lt_of_cell? wr _ K.p0)).trans K.p0, (Below.cell o (World.block_lt_of_cell? wr _ K.p1)).trans K.p1, (Below.cell o (World.block_lt_of_cell? wr _ K.q0)).trans K.q0, (Below.cell o (World.block_lt_of_cell? wr _ K.q1)).trans K.q1, K.x.mono o, K.y.mono o, K.ne, K.lt, K.old.trans o⟩

set_option maxHeartbeats 4000000 in
theorem walkK_WideSums (K : WideK) (v0 v1 : Value) (w : World) (w0 : IsWide v0) (w1 : IsWide v1) (T : Tab9 w) :
    Calls Tryd.prog 3 #[v0, v1] w fun e w' => e = .returned (.bool true) ∧ Old w w' := by
  obtain ⟨x, hx, rfl⟩ := w0
  obtain ⟨y, hy, rfl⟩ := w1
  have C0 := hide (fun w' (o : Old w w') => awake9 K w' (T.mono o))
  have C1 := hide (fun w => refOf9_any x w)
  have C2 := hide (fun w => refOf9_any y w)
  have C3 := hide (K.add x y hx hy)
  have C4 := hide (fun w => refAdd9_any x y w)
  have C5 := hide (fun w => refWide9_any (x + y) w)
  have C6 := hide (K.sub x y hx hy)
  have C7 := hide (fun w => refNeg9_any y (Nat.le_of_lt hy) w)
  have C8 := hide (fun w => refAdd9_any x (M - y) w)
  have C9 := hide (fun w => refWide9_any (x + (M - y)) w)
  have CA := hide (K.neg x hx)
  have CB := hide (fun w => refNeg9_any x (Nat.le_of_lt hx) w)
  have CC := hide (fun w => refWide9_any (M - x) w)
  have BX := hide (bigL_length x)
  have BY := hide (bigL_length y)
  clear K T hx hy
  unfold wv at C1 C2 C3 C5 C6 C9 CA CC ⊢
  unfold bv at C1 C2 C4 C5 C7 C8 C9 CB CC
  revert C1 C2 C3 C4 C5 C6 C7 C8 C9 CA CB CC BX BY
  generalize bigL x = bx
  generalize bigL y = bY
  generalize (Value.agg (nums .u32 (bigL (x + y))).toArray) = s1
  generalize (Value.agg (nums .u32 (bigL (M - y))).toArray) = s2
  generalize (Value.agg (nums .u32 (bigL (x + (M - y)))).toArray) = s3
  generalize (Value.agg (nums .u32 (bigL (M - x))).toArray) = s4
  generalize hi (x + y) = p1
  generalize lo (x + y) = q1
  generalize hi (x + (M - y)) = p2
  generalize lo (x + (M - y)) = q2
  generalize hi (M - x) = p3
  generalize lo (M - x) = q3
  generalize hi x = h
  generalize lo x = l
  generalize hi y = h'
  generalize lo y = l'
  intro C1 C2 C3 C4 C5 C6 C7 C8 C9 CA CB CC BX BY
  go_enter Tryd.func3, Tryd.ntmps3
  go_wp2_with fail
  have S1 : Kq w [(w.heap.size, [.int .u64 (h : Nat), .int .u64 (l : Nat)]), (w.heap.size + 1, [.int .u64 (h' : Nat), .int .u64 (l' : Nat)])] (((w.alloc (.cells #[.int .u64 (h : Nat), .int .u64 (l : Nat)] 24)).alloc (.cells #[.int .u64 (h' : Nat), .int .u64 (l' : Nat)] 24)).drewN 1) := Kq.two w _ _ _ _ 1
  refine Ssz.region (Ext := Old) 6 (Kq w [(w.heap.size, [.int .u64 (h : Nat), .int .u64 (l : Nat)]), (w.heap.size + 1, [.int .u64 (h' : Nat), .int .u64 (l' : Nat)])]) (Ssz.Apart [5, 6]) [7, 8, 9, 10, 5, 6]
    [(7, Ssx.cst (.agg #[.int .u64 (h : Nat), .int .u64 (l : Nat)])), (8, Ssx.cst (.agg (nums .u32 bx).toArray)), (9, Ssx.cst (.agg #[.int .u64 (h' : Nat), .int .u64 (l' : Nat)])), (10, Ssx.cst (.agg (nums .u32 bY).toArray)), (5, newBig w), (6, newBig w)]
    [] (by kernel_rfl) (by kernel_rfl) (by kernel_rfl) (by simp) (by kernel_rfl) (by intro p hp; cases hp) (by kernel_rfl) (by kernel_rfl) Old.refl S1 ?apart ?good ?behind
  case apart => exact ⟨fun s hs x hx => by simp at hs; rcases hs with rfl | rfl <;> simp [Act.eval, undef] at hx, fun s hs t ht hne x y hx hy => by simp at hs; rcases hs with rfl | rfl <;> simp [Act.eval, undef] at hx⟩
  case good =>
    have hE : ∀ w w' : World, Old w w' → w.heap.size ≤ w'.heap.size := fun _ _ h => h.size
    refine And.intro (.inr ⟨by kernel_rfl, Ssz.keep (Ssx.whole Old.refl rfl rfl w.heap.size [.int .u64 (h : Nat), .int .u64 (l : Nat)] (fun _ _ h => h) (fun _ h => h.has _ (.head _)) Tryd.underlying24 rfl infoW (fun _ => rfl)) hE (by kernel_rfl)⟩) ?_
    refine And.intro (.inr ⟨by kernel_rfl, Ssz.keep (Ssx.call rfl fun a w' hC hop => ⟨10, #[.agg #[.int .u64 (h : Nat), .int .u64 (l : Nat)]], ?_, (C1.out w').mono fun _ _ ⟨h1, h2⟩ => ⟨_, h1, hC.mono h2, h2, rfl⟩⟩) hE (by kernel_rfl)⟩) ?_
    · have h0 : a.eval (.tmp 7) = .agg #[.int .u64 (h : Nat), .int .u64 (l : Nat)] := hop 7 (by simp [Op.operands, Call.operands])
      simp [Act.eval] at h0
      simp [h0, go_sem]
    refine And.intro (.inr ⟨by kernel_rfl, Ssz.keep (Ssx.whole Old.refl rfl rfl (w.heap.size + 1) [.int .u64 (h' : Nat), .int .u64 (l' : Nat)] (fun _ _ h => h) (fun _ h => h.has _ (.tail _ (.head _))) Tryd.underlying24 rfl infoW (fun _ => rfl)) hE (by kernel_rfl)⟩) ?_
    refine And.intro (.inr ⟨by kernel_rfl, Ssz.keep (Ssx.call rfl fun a w' hC hop => ⟨10, #[.agg #[.int .u64 (h' : Nat), .int .u64 (l' : Nat)]], ?_, (C2.out w').mono fun _ _ ⟨h1, h2⟩ => ⟨_, h1, hC.mono h2, h2, rfl⟩⟩) hE (by kernel_rfl)⟩) ?_
    · have h0 : a.eval (.tmp 9) = .agg #[.int .u64 (h' : Nat), .int .u64 (l' : Nat)] := hop 9 (by simp [Op.operands, Call.operands])
      simp [Act.eval] at h0
      simp [h0, go_sem]
    refine And.intro (.inr ⟨by kernel_rfl, Ssz.alloc (zs := nums .u32 z8) rfl rfl (fun w => by kernel_rfl) (fun _ h => h.mono (Old.of_alloc _ _)) (fun w => Old.of_alloc _ _) (fun v h => ⟨_, h.old.size, rfl, Row.new _ _ _⟩)⟩) ?_
    refine And.intro (.inr ⟨by kernel_rfl, Ssz.alloc (zs := nums .u32 z8) rfl rfl (fun w => by kernel_rfl) (fun _ h => h.mono (Old.of_alloc _ _)) (fun w => Old.of_alloc _ _) (fun v h => ⟨_, h.old.size, rfl, Row.new _ _ _⟩)⟩) ?_
    exact trivial
  case behind =>
    intro vals wb hC hD hv
    have hb : vals 8 = .agg (nums .u32 bx).toArray := hv _ (.tail _ (.head _))
    have hb' : vals 10 = .agg (nums .u32 bY).toArray := hv _ (.tail _ (.tail _ (.tail _ (.head _))))
    have ha : vals 7 = .agg #[.int .u64 (h : Nat), .int .u64 (l : Nat)] := hv _ (.head _)
    have ha' : vals 9 = .agg #[.int .u64 (h' : Nat), .int .u64 (l' : Nat)] := hv _ (.tail _ (.tail _ (.head _)))
    obtain ⟨g, hg, h5, R5⟩ := hv _ (.tail _ (.tail _ (.tail _ (.tail _ (.head _)))))
    obtain ⟨g', hg', h6, R6⟩ := hv _ (.tail _ (.tail _ (.tail _ (.tail _ (.tail _ (.head _))))))
    simp only at h5 h6
    simp only [Ssa.putAll, List.map_cons, List.map_nil, List.foldl_cons, List.foldl_nil, List.setIfInBounds_toArray, List.set_cons_succ, List.set_cons_zero, hb, hb', ha, ha', h5, h6, List.drop_succ_cons, List.drop_zero] at hD ⊢
    have hne : g ≠ g' := hD.ne 5 (.head _) 6 (.tail _ (.head _)) (by omega) _ _ rfl rfl
    have Q := hide (Kb.start hC R5 R6 hne hg hg')
    clear hC hD hv hb hb' ha ha' h5 h6 R5 R6 S1
    go_wp2_with (first
      | (refine wp_store_whole rfl 27 _ _ rfl g rfl (nums .u32 bx) rfl Q.out.x (info8 BX.out) (by rw [nums_length, nums_length, BX.out]; rfl) (nums_oneCell _ _) ?_; rintro wc hc
         have Q2 := hide (Q.out.putx bx hc)
         clear hc Q)
      | (refine wp_store_whole rfl 27 _ _ rfl g' rfl (nums .u32 bY) rfl Q2.out.y (info8 BY.out) (by rw [nums_length, nums_length, BY.out]; rfl) (nums_oneCell _ _) ?_; rintro wd hd
         have KB := hide (Q2.out.puty bY hd)
         clear hd Q2))
    try simp only [Act.put]
    have L0 : ∀ w', (∃ z : After wd, w' = z.to) → w'.rangeAt g 0 (nums .u32 bx) := by rintro _ ⟨z, rfl⟩; exact (KB.out.mono z.old).x.rngW
    have L1 : ∀ w', (∃ z : After wd, w' = z.to) → w'.rangeAt g' 0 (nums .u32 bY) := by rintro _ ⟨z, rfl⟩; exact (KB.out.mono z.old).y.rngW
    have L0' := hide L0
    have L1' := hide L1
    clear L0 L1
    have a0 : ∀ z : After wd, z.to.cell? ⟨w.heap.size, 0, none⟩ = some (.int .u64 (h : Nat)) := fun z => (KB.out.mono z.old).p0
    have a1 : ∀ z : After wd, z.to.cell? ⟨w.heap.size, 1, none⟩ = some (.int .u64 (l : Nat)) := fun z => (KB.out.mono z.old).p1
    have b0 : ∀ z : After wd, z.to.cell? ⟨w.heap.size + 1, 0, none⟩ = some (.int .u64 (h' : Nat)) := fun z => (KB.out.mono z.old).q0
    have b1 : ∀ z : After wd, z.to.cell? ⟨w.heap.size + 1, 1, none⟩ = some (.int .u64 (l' : Nat)) := fun z => (KB.out.mono z.old).q1
    have ne : Nonempty (After wd) := ⟨⟨_, Old.refl _⟩⟩
    refine wp_region_calm (by kernel_rfl) (by kernel_rfl) ?_
    repeat (first | (go_big_quiet_want; (first | refine quiet_whole 27 (.tmp 5) rfl g rfl (nums .u32 bx) L0'.out Tryd.underlying27 rfl (info8 BX.out) ?_ | refine quiet_whole 27 (.tmp 6) rfl g' rfl (nums .u32 bY) L1'.out Tryd.underlying27 rfl (info8 BY.out) ?_); simp only [Act.put, List.setIfInBounds_toArray, List.set_cons_succ, List.set_cons_zero]; go_big_quiet_on) | go_big_quiet_step (first | with_reducible exact calm_of (C0.out _ (KB.out.old.trans (After.old _))) | with_reducible exact calm_of (C3.out _) | with_reducible exact calm_of (C4.out _) | with_reducible exact calm_of (C5.out _) | with_reducible exact calm_of (C6.out _) | with_reducible exact calm_of (C7.out _) | with_reducible exact calm_of (C8.out _) | with_reducible exact calm_of (C9.out _) | with_reducible exact calm_of (CA.out _) | with_reducible exact calm_of (CB.out _) | with_reducible exact calm_of (CC.out _)))
    refine wpQuiet_nil ?_
    rintro _ ⟨⟨w3, o3⟩, rfl⟩
    go_wp2
    go_ret
    exact ⟨by simp, KB.out.old.trans o3⟩

end Go.Proofs.YtindmmipncclbaaDoor
