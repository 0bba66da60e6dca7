/-
  The document's own Decode of a vector (offertoryref09): what it answers.
-/
import Derived.Test.YthaaajepolahfaaRefStats
import Derived.Test.YthaaajepolahfaaRefTally
import Derived.Test.YthaaajepolahfaaOwnI
namespace Go.Proofs.Ythaaajepolahfaa
open Go.RowKit Pn Wd
set_option linter.unusedVariables false

/-- What a call hands back: an error and nothing, or stats with bins of its own. -/
def StR (w w' : World) (e : Ending) (er : Int) (s : SV) (bins : List Int) : Prop :=
  ∃ v, e = .returned (.tuple #[v, .int .i64 er]) ∧ Old w w' ∧ (er = 0 → ∃ g cap rest, v = sv s (some ⟨g, 0, none⟩) bins.length cap ∧ w.heap.size ≤ g ∧ Row w' g 3 (ints bins ++ rest)) ∧ (er ≠ 0 → ∃ a cap, v = sv SV.zero a 0 cap)

/-- What is known of a vector that came in. -/
structure Vc (w : World) (b : Option Addr) (m : Nat) (vs : List Nat) : Prop where
  len : vs.length = m
  small : m ≤ 9223372036854775807
  each : ∀ x ∈ vs, x < 4294967296
  rd : Rd w b (nums .u32 vs)
theorem Vc.mono {w w' : World} {b : Option Addr} {m : Nat} {vs : List Nat} (h : Vc w b m vs) (o : Old w w') : Vc w' b m vs := ⟨h.len, h.small, h.each, h.rd.mono o⟩
theorem Vc.at {w : World} {b off m : Nat} {vs : List Nat} (h : Vc w (some ⟨b, off, none⟩) m vs) {i : Nat} (hi : i < m) : w.cell? ⟨b, off + i, none⟩ = some (.int .u32 ((vs.getD i 0 : Nat) : Int)) := by
  obtain ⟨b', off', z, e, hz, hc⟩ := h.rd.num (i := i) (by rw [h.len]; exact hi)
  obtain ⟨rfl, rfl⟩ : b = b' ∧ off = off' := by simpa using e
  rw [hc]
  have : vs[i]? = some z := hz.out
  simp [List.getD, this]
theorem Vc.lt {w : World} {b : Option Addr} {m : Nat} {vs : List Nat} (h : Vc w b m vs) (i : Nat) : vs.getD i 0 < 4294967296 := by
  by_cases hi : i < vs.length
  · exact h.each _ (by simp [List.getD, hi])
  · simp [List.getD, hi]

theorem OwnsI.put {w : World} {base : Nat} {v : Value} {xs : List Int} (h : OwnsI w base v xs) {go : Nat} (hl : go < base) (i : Nat) (u : Value) : OwnsI (w.setCell ⟨go, i, none⟩ u) base v xs := by
  obtain ⟨h1, h2⟩ := h
  refine ⟨h1, ?_⟩
  rcases h2 with h2 | ⟨g, cap, cur, h3, h4, h5, h6⟩
  · exact .inl h2
  · exact .inr ⟨g, cap, cur, h3, h4, ((grown_set w go i u).block g (Array.getElem?_eq_some_iff.1 h5).1 (fun e => by cases e; omega)).trans h5, h6⟩
/-- While bins are told: the plan, the answer, the stats with a slice of the call's own. -/
structure D1 (w : World) (go base : Nat) (pl : List Value) (v : Value) (oc : List Value) (xs : List Int) (wr : World) : Prop where
  pl : Row wr w.heap.size 24 pl
  res : Row wr (w.heap.size + 1) 29 stz
  out : Row wr go 29 (v :: oc)
  own : OwnsI wr base v xs
  l1 : w.heap.size + 1 < go
  l2 : go < base
  sz : base ≤ wr.heap.size
  old : Old w wr
section
variable {w : World} {go base : Nat} {pl : List Value} {v : Value} {oc : List Value} {xs : List Int} {wr w' : World}
theorem D1.mono (h : D1 w go base pl v oc xs wr) (o : Old wr w') : D1 w go base pl v oc xs w' := ⟨h.pl.mono o, h.res.mono o, h.out.mono o, h.own.mono o, h.l1, h.l2, Nat.le_trans h.sz o.size, h.old.trans o⟩
theorem D1.grown (h : D1 w go base pl v oc xs wr) {v' : Value} {ys : List Int} (gr : wr.grownBy w' v.ownBlock) (ow : OwnsI w' base v' ys) : Row w' w.heap.size 24 pl ∧ Row w' (w.heap.size + 1) 29 stz ∧ Row w' go 29 (v :: oc) ∧ Old w w' ∧ base ≤ w'.heap.size := by
  have l1 := h.l1
  have l2 := h.l2
  have lt : ∀ g, v.ownBlock = some g → base ≤ g := fun g hg => (h.own.lt hg).1
  have row : ∀ (g : Nat) (t : TypeId) (cs : List Value), g < base → Row wr g t cs → Row w' g t cs := by
    intro g t cs hg R
    exact (gr.block g R.lt (fun e => by
      have := lt g e.symm
      omega)).trans R
  refine ⟨row _ _ _ (by omega) h.pl, row _ _ _ (by omega) h.res, row _ _ _ (by omega) h.out, h.old.grownO gr (fun g e => by have := lt g e; omega), Nat.le_trans h.sz gr.size⟩
theorem D1.next (h : D1 w go base pl v oc xs wr) {v' : Value} {ys : List Int} (gr : wr.grownBy w' v.ownBlock) (ow : OwnsI w' base v' ys) : D1 w go base pl v' oc ys (w'.setCell ⟨go, 0, none⟩ v') := by
  obtain ⟨h1, h2, h3, h4, h5⟩ := h.grown gr ow
  have l1 := h.l1
  have g2 : w'.grownBy (w'.setCell ⟨go, 0, none⟩ v') (some go) := grown_set _ _ _ _
  exact ⟨h1.grown g2 (by omega), h2.grown g2 (by omega), h3.set 0 v', ow.put h.l2 0 v', h.l1, h.l2, by simpa using h5, h4.grown g2 (by omega)⟩
/-- []int{x} in a region that draws. -/
theorem bld1 {C : World → Prop} {Ok : Tmp → Value → World → Prop} {o : Oper} {d x : Tmp} (ho : o.op = .buildSlice 22 1 #[(0, .tmp x)]) (hd : o.dst = some d) (z : Int) (hx : ∀ v w, Ok x v w → v = .int .i64 z) (hC : ∀ w w', C w → Old w w' → C w')
    (h : ∀ w, C w → Ok d (.slice (some ⟨w.heap.size, 0, none⟩) 1 1) (w.alloc (.cells #[.int .i64 z] 3))) : Ssb.Good Try.prog C Old Ok o :=
  Ssx.step hd fun a w hc hop => ⟨.slice (some ⟨w.heap.size, 0, none⟩) 1 1, w.alloc (.cells #[.int .i64 z] 3), by
    have h1 := hx _ _ (hop x (by rw [ho]; simp [Op.operands]))
    simp only [Act.eval] at h1
    unfold execOp
    simp [ho, Act.eval] at h1 ⊢
    simp [h1, go_sem], hC _ _ hc (Old.of_alloc _ _), Old.of_alloc _ _, h w hc⟩
end
/-- While bits are told: the plan, the answer, the stats, their bins, the places' sum, the squares'. -/
structure D2 (w : World) (go gb gp gq : Nat) (pl oc bi : List Value) (u v : List Nat) (wr : World) : Prop where
  pl : Row wr w.heap.size 24 pl
  res : Row wr (w.heap.size + 1) 29 stz
  out : Row wr go 29 oc
  bi : Row wr gb 3 bi
  pa : Row wr gp 45 (nums .u32 u)
  sq : Row wr gq 45 (nums .u32 v)
  l1 : w.heap.size + 1 < go
  l2 : go < gb
  l3 : gb < gp
  l4 : gp < gq
  old : Old w wr
section
variable {w : World} {go gb gp gq : Nat} {pl oc bi : List Value} {u v : List Nat} {wr w' : World}
theorem D2.mono (h : D2 w go gb gp gq pl oc bi u v wr) (o : Old wr w') : D2 w go gb gp gq pl oc bi u v w' := ⟨h.pl.mono o, h.res.mono o, h.out.mono o, h.bi.mono o, h.pa.mono o, h.sq.mono o, h.l1, h.l2, h.l3, h.l4, h.old.trans o⟩
theorem D2.far (h : D2 w go gb gp gq pl oc bi u v wr) {g : Nat} (gr : wr.grownBy w' (some g)) (hg : gq < g) : D2 w go gb gp gq pl oc bi u v w' := by
  have l1 := h.l1; have l2 := h.l2; have l3 := h.l3; have l4 := h.l4
  exact ⟨h.pl.grown gr (by omega), h.res.grown gr (by omega), h.out.grown gr (by omega), h.bi.grown gr (by omega), h.pa.grown gr (by omega), h.sq.grown gr (by omega), l1, l2, l3, l4, h.old.grown gr (by omega)⟩
theorem D2.place (h : D2 w go gb gp gq pl oc bi u v wr) (u' : List Nat) (hw : w' = wr.setRow gp (nums .u32 u').toArray) : D2 w go gb gp gq pl oc bi u' v w' := by
  subst hw
  have l1 := h.l1; have l2 := h.l2; have l3 := h.l3; have l4 := h.l4
  have gr := grown_setRow wr gp (nums .u32 u').toArray
  exact ⟨h.pl.grown gr (by omega), h.res.grown gr (by omega), h.out.grown gr (by omega), h.bi.grown gr (by omega), h.pa.whole _, h.sq.grown gr (by omega), l1, l2, l3, l4, h.old.grown gr (by omega)⟩
theorem D2.square (h : D2 w go gb gp gq pl oc bi u v wr) (v' : List Nat) (hw : w' = wr.setRow gq (nums .u32 v').toArray) : D2 w go gb gp gq pl oc bi u v' w' := by
  subst hw
  have l1 := h.l1; have l2 := h.l2; have l3 := h.l3; have l4 := h.l4
  have gr := grown_setRow wr gq (nums .u32 v').toArray
  exact ⟨h.pl.grown gr (by omega), h.res.grown gr (by omega), h.out.grown gr (by omega), h.bi.grown gr (by omega), h.pa.grown gr (by omega), h.sq.whole _, l1, l2, l3, l4, h.old.grown gr (by omega)⟩
theorem D2.set (h : D2 w go gb gp gq pl oc bi u v wr) (i : Nat) (x : Value) : D2 w go gb gp gq pl (oc.set i x) bi u v (wr.setCell ⟨go, i, none⟩ x) := by
  have l1 := h.l1; have l2 := h.l2; have l3 := h.l3; have l4 := h.l4
  have gr : wr.grownBy (wr.setCell ⟨go, i, none⟩ x) (some go) := grown_set _ _ _ _
  exact ⟨h.pl.grown gr (by omega), h.res.grown gr (by omega), h.out.set i x, h.bi.grown gr (by omega), h.pa.grown gr (by omega), h.sq.grown gr (by omega), l1, l2, l3, l4, h.old.grown gr (by omega)⟩
theorem D2.end_ (h : D2 w go gb gp gq pl oc bi u v wr) (oc' : List Value) (hw : w' = wr.setRow (w.heap.size + 1) oc'.toArray) : Row w' (w.heap.size + 1) 29 oc' ∧ Row w' gb 3 bi ∧ Old w w' := by
  subst hw
  have l1 := h.l1; have l2 := h.l2
  have gr := grown_setRow wr (w.heap.size + 1) oc'.toArray
  exact ⟨h.res.whole _, h.bi.grown gr (by omega), h.old.grown gr (by omega)⟩
end
theorem big_nul : bigL 0 = z8 := by decide +kernel
theorem dsum_bound {lo : Int} {n b : Nat} {vs : List Nat} (h1 : -1099511627776 ≤ lo) (h2 : lo ≤ 1099511627776) (hb : b ≤ 40) (hv : ∀ x ∈ vs, x < 4294967296) (hc : cnV n vs < 4294967296) : -170141183460469231731687303715884105728 ≤ dsum lo n b vs ∧ dsum lo n b vs < 170141183460469231731687303715884105728 := by
  have hp : plV n b vs + 4294967296 ≤ 4294967296 * 2 ^ ((bitsV n vs).take b).length := horN_bound _ fun x hx => hv x (List.mem_of_mem_drop (List.mem_of_mem_take hx))
  have hl : ((bitsV n vs).take b).length ≤ 40 := by rw [List.length_take]; omega
  have hq : (2 : Nat) ^ ((bitsV n vs).take b).length ≤ 2 ^ 40 := Nat.pow_le_pow_right (by omega) hl
  have hr : plV n b vs ≤ 4294967296 * 2 ^ 40 := by
    have := Nat.mul_le_mul_left 4294967296 hq
    omega
  have hc0 : (0 : Int) ≤ (cnV n vs : Int) := by omega
  have m1 := Int.mul_le_mul_of_nonneg_left h1 hc0
  have m2 := Int.mul_le_mul_of_nonneg_left h2 hc0
  unfold dsum
  generalize (cnV n vs : Int) * lo = cl at *
  omega
theorem big_dsq (lo : Int) (n b : Nat) (vs : List Nat) : bigL (sqV n b vs + (zN lo + zN lo) * plV n b vs + zN (cnV n vs : Nat) * (zN lo * zN lo)) = bigL (zN (dsq lo n b vs)) := bigL_eq (zN_mod (by
  unfold dsq
  simp only [Int.natCast_add, Int.natCast_mul, zN_cast]
  generalize (plV n b vs : Int) = p
  generalize (sqV n b vs : Int) = q
  generalize (cnV n vs : Int) = c
  have e1 : (lo % 340282366920938463463374607431768211456 + lo % 340282366920938463463374607431768211456) * p % 340282366920938463463374607431768211456 = (lo + lo) * p % 340282366920938463463374607431768211456 := by rw [Int.mul_emod, ← Int.add_emod, ← Int.mul_emod]
  have e2 : c % 340282366920938463463374607431768211456 * (lo % 340282366920938463463374607431768211456 * (lo % 340282366920938463463374607431768211456)) % 340282366920938463463374607431768211456 = c * (lo * lo) % 340282366920938463463374607431768211456 := by rw [Int.mul_emod, Int.emod_emod, ← Int.mul_emod lo lo, ← Int.mul_emod]
  omega))
theorem big_dsum (lo : Int) (n b : Nat) (vs : List Nat) : bigL (plV n b vs + zN (cnV n vs : Nat) * zN lo) = bigL (zN (dsum lo n b vs)) := bigL_eq (zN_mod (by
  unfold dsum
  simp only [Int.natCast_add, Int.natCast_mul, zN_cast]
  have e2 : (cnV n vs : Int) % 340282366920938463463374607431768211456 * (lo % 340282366920938463463374607431768211456) % 340282366920938463463374607431768211456 = (cnV n vs : Int) * lo % 340282366920938463463374607431768211456 := by rw [← Int.mul_emod]
  omega))
/-- .. and the lower bound, and how many, as numbers. -/
structure D3 (w : World) (go gb gp gq gl gm : Nat) (pl oc bi : List Value) (u v l k : List Nat) (wr : World) : Prop where
  d : D2 w go gb gp gq pl oc bi u v wr
  lw : Row wr gl 45 (nums .u32 l)
  mn : Row wr gm 45 (nums .u32 k)
  ll : gq < gl
  lm : gq < gm
section
variable {w : World} {go gb gp gq gl gm : Nat} {pl oc bi : List Value} {u v l k : List Nat} {wr w' : World}
theorem D3.mono (h : D3 w go gb gp gq gl gm pl oc bi u v l k wr) (o : Old wr w') : D3 w go gb gp gq gl gm pl oc bi u v l k w' := ⟨h.d.mono o, h.lw.mono o, h.mn.mono o, h.ll, h.lm⟩
theorem D3.far (h : D3 w go gb gp gq gl gm pl oc bi u v l k wr) {g : Nat} (gr : wr.grownBy w' (some g)) (hg : gq < g) (h1 : g ≠ gl) (h2 : g ≠ gm) : D3 w go gb gp gq gl gm pl oc bi u v l k w' :=
  ⟨h.d.far gr hg, h.lw.grown gr (fun e => h1 e.symm), h.mn.grown gr (fun e => h2 e.symm), h.ll, h.lm⟩
theorem D3.square (h : D3 w go gb gp gq gl gm pl oc bi u v l k wr) (v' : List Nat) (hw : w' = wr.setRow gq (nums .u32 v').toArray) : D3 w go gb gp gq gl gm pl oc bi u v' l k w' := by
  have h1 := h.ll; have h2 := h.lm
  exact ⟨h.d.square v' hw, by subst hw; exact h.lw.grown (grown_setRow _ _ _) (by omega), by subst hw; exact h.mn.grown (grown_setRow _ _ _) (by omega), h.ll, h.lm⟩
theorem D3.set (h : D3 w go gb gp gq gl gm pl oc bi u v l k wr) (i : Nat) (x : Value) : D3 w go gb gp gq gl gm pl (oc.set i x) bi u v l k (wr.setCell ⟨go, i, none⟩ x) := by
  have h1 := h.ll; have h2 := h.lm; have l2 := h.d.l2; have l3 := h.d.l3; have l4 := h.d.l4
  exact ⟨h.d.set i x, h.lw.grown (grown_set _ _ _ _) (by omega), h.mn.grown (grown_set _ _ _ _) (by omega), h.ll, h.lm⟩
end
theorem stz_one : ∀ v ∈ stz, v.oneCell' = true := by
  intro v hv
  simp only [stz, List.mem_cons, List.not_mem_nil, or_false] at hv
  rcases hv with rfl | rfl | rfl | rfl | rfl | rfl | rfl <;> rfl

set_option maxRecDepth 100000 in
set_option maxHeartbeats 8000000 in
theorem refDecode13_any {lo hi mo : Int} {a : Option Addr} {n : Nat} {es : List Int} (cap : Nat) (b : Option Addr) (m cm : Nat) (vs : List Nat) (w : World) (F : Fit w lo hi mo a n es) (hs : soundZ lo hi mo es = 0) (V : Vc w b m vs) (hm : m = lenN es (bitsN (hi - lo).toNat)) :
    Calls Try.prog 15 #[pv lo hi mo a n cap, .slice b m cm] w fun e w' => StR w w' e (if headV n vs then 11 else 0) (SV.of (cnV n vs) (dsum lo n (bitsN (hi - lo).toNat) vs) (zN (dsq lo n (bitsN (hi - lo).toNat) vs))) (binsV n vs) := by
  obtain ⟨h1, _, h3⟩ := sound_of hs
  unfold bad1 at h1
  have h4 := F.len
  have n64 : n ≤ 64 := by unfold bad3 at h3; omega
  have C1 := hide (fun wr : World => refBits10_any (lo := lo) (hi := hi) (mo := mo) (a := a) (n := n) cap wr (by omega) (by omega) (by omega) (by omega))
  have hb := bits_40 (d := (hi - lo).toNat) (by omega)
  have HLO : -1099511627776 ≤ lo ∧ lo ≤ 1099511627776 := by omega
  have B := hide (Bx.start cap F)
  have HV := hide V
  unfold lenN at hm
  rw [h4] at hm
  unfold pv at C1 ⊢
  clear h1 h3 h4 hs F V
  generalize bitsN (hi - lo).toNat = bb at C1 hb hm ⊢
  obtain ⟨b', off, rfl, _⟩ : ∃ b' off, b = some ⟨b', off, none⟩ ∧ True := by
    obtain ⟨x1, x2, _, e, _⟩ := HV.out.rd.num (i := 0) (by rw [HV.out.len]; omega)
    exact ⟨x1, x2, e, trivial⟩
  obtain ⟨c, hc⟩ : ∃ c, c = cnV n vs := ⟨_, rfl⟩
  have cl : c < 4294967296 := by rw [hc]; exact HV.out.lt _
  have cc : w.cell? ⟨b', off + (n + 1), none⟩ = some (.int .u32 (c : Nat)) := by rw [hc]; exact HV.out.at (by omega)
  have HCN := hide hc
  have HN := hide (And.intro n64 (And.intro hb hm))
  have HL := hide HLO
  have b2 : (0 : Int) ≤ bb := by omega
  have b3 : (n : Int) ≤ 64 := by omega
  clear hb hm n64 HLO hc
  obtain ⟨er, her⟩ : ∃ er : Int, er = if headV n vs then 11 else 0 := ⟨_, rfl⟩
  rw [← her]
  have HER := hide her
  clear her
  go_enter Try.func15, Try.ntmps15
  go_wp2_with fail
  have O0 : Old w ((w.alloc (.cells #[.int .i64 lo, .int .i64 hi, .int .i64 mo, .slice a n cap] 24)).alloc (.cells stz.toArray 29)) := (Old.of_alloc _ _).alloc _
  have X0 : Hid (Row ((w.alloc (.cells #[.int .i64 lo, .int .i64 hi, .int .i64 mo, .slice a n cap] 24)).alloc (.cells stz.toArray 29)) (w.heap.size + 1) 29 stz) := row_new _ _ (by simp only [World.size_alloc])
  have B1 := hide (B.out.mono (Old.of_alloc _ (.cells stz.toArray 29)))
  unfold stz at O0 X0 B1
  revert B1 O0 X0
  generalize ((w.alloc (.cells #[.int .i64 lo, .int .i64 hi, .int .i64 mo, .slice a n cap] 24)).alloc (.cells [Value.slice none 0 0, .int .i64 0, .int .u64 0, .int .u64 0, .int .u64 0, .int .u64 0, .bool false].toArray 29)) = wd
  intro O0 X0 B1
  clear B
  have OO := hide O0
  clear O0
  have ne2 : Nonempty (After wd) := ⟨⟨_, Old.refl _⟩⟩
  have a0 : ∀ y : After wd, y.to.cell? ⟨w.heap.size, 0, none⟩ = some (.int .i64 lo) := fun y => (B1.out.mono y.old).c0
  have a1 : ∀ y : After wd, y.to.cell? ⟨w.heap.size, 1, none⟩ = some (.int .i64 hi) := fun y => (B1.out.mono y.old).c1
  have a2 : ∀ y : After wd, y.to.cell? ⟨w.heap.size, 2, none⟩ = some (.int .i64 mo) := fun y => (B1.out.mono y.old).c2
  have a3 : ∀ y : After wd, y.to.cell? ⟨w.heap.size, 3, none⟩ = some (.slice a n cap) := fun y => (B1.out.mono y.old).c3
  have e1 : IntKind.i64.wrap ((n : Int) + 1) = (n : Int) + 1 := by rw [IntKind.wrap_i64]; omega
  refine wp_region_calm (by kernel_rfl) (by kernel_rfl) ?_
  repeat (go_big_quiet_step (first | with_reducible exact calm_of (C1.out _)))
  refine wpQuiet_nil ?_
  rintro w3 ⟨⟨w3', o3⟩, rfl⟩
  have E3 : Hid (Row w3 w.heap.size 24 [.int .i64 lo, .int .i64 hi, .int .i64 mo, .slice a n cap] ∧ Row w3 (w.heap.size + 1) 29 stz ∧ Old w w3) := ⟨(B1.out.mono o3).row, X0.out.mono o3, OO.out.trans o3⟩
  clear B1 X0 OO a0 a1 a2 a3 o3 ne2 C1
  have cc3 : w3.cell? ⟨b', off + (n + 1), none⟩ = some (.int .u32 (c : Nat)) := by rw [HCN.out]; exact (HV.out.mono E3.out.2.2).at (by have := HN.out; omega)
  have q0 : (0 : Int) ≤ (n : Int) + 1 := by omega
  have q1 : (n : Int) + 1 < m := by have := HN.out; omega
  have ec : IntKind.i64.wrap (c : Int) = c := by rw [IntKind.wrap_i64]; omega
  clear cc
  go_wp2_with fail
  have R0 : Hid (D1 w w3.heap.size (w3.heap.size + 1) [.int .i64 lo, .int .i64 hi, .int .i64 mo, .slice a n cap] (.slice none 0 0) [.int .i64 (c : Nat), .int .u64 0, .int .u64 0, .int .u64 0, .int .u64 0, .bool false] ((vs.take 0).map fun (x : Nat) => (x : Int)) (w3.alloc (.cells (Value.slice none 0 0 :: [.int .i64 (c : Nat), .int .u64 0, .int .u64 0, .int .u64 0, .int .u64 0, .bool false]).toArray 29))) := by
    refine ⟨E3.out.1.mono (Old.of_alloc _ _), E3.out.2.1.mono (Old.of_alloc _ _), Row.new _ _ _, ⟨by simp [ints], .inl ⟨rfl, rfl⟩⟩, E3.out.2.1.lt, by omega, by rw [World.size_alloc]; exact Nat.le_refl _, E3.out.2.2.trans (Old.of_alloc _ _)⟩
  clear cc3 E3 q0 q1
  revert R0
  generalize w3.heap.size = go
  intro R0
  go_loopw [9, 10] (fun va vi wr => ∃ (i : Nat) (v : Value), i ≤ n + 1 ∧ vi = .int .i64 (i : Int) ∧ va = .int .i64 ((sumN (vs.take i) : Nat) : Int) ∧ Hid (D1 w go (go + 1) [.int .i64 lo, .int .i64 hi, .int .i64 mo, .slice a n cap] v [.int .i64 (c : Nat), .int .u64 0, .int .u64 0, .int .u64 0, .int .u64 0, .bool false] ((vs.take i).map fun (x : Nat) => (x : Int)) wr)) (fun _ vi _ => (n + 1) - (intOf vi).toNat)
  case atStart => exact ⟨0, _, by omega, rfl, rfl, R0⟩
  case round =>
    clear R0
    obtain ⟨i, v, hi', rfl, rfl, R⟩ := hrel
    by_cases hl : i < n + 1
    · have t3 : decide (i < n + 1) = true := by simpa using hl
      have t3' : decide ((i : Int) < (n : Int) + 1) = true := by simp; omega
      obtain ⟨av, cv, rfl, _⟩ := R.out.own.rd
      obtain ⟨x, hx⟩ : ∃ x, x = vs.getD i 0 := ⟨_, rfl⟩
      have him : i < m := by have := HN.out; omega
      have xl : x < 4294967296 := by rw [hx]; exact HV.out.lt i
      have NS := hide (sumN_take vs (i := i) (by rw [HV.out.len]; exact him))
      rw [← hx] at NS
      have NT : Hid ((vs.take (i + 1)).map (fun (x : Nat) => (x : Int)) = (vs.take i).map (fun (x : Nat) => (x : Int)) ++ [(x : Int)]) := by
        have hil : i < vs.length := by rw [HV.out.len]; exact him
        show List.map _ (vs.take (i + 1)) = _
        rw [List.take_add_one, List.getElem?_eq_getElem hil, Option.toList_some, List.map_append, hx]
        simp [List.getD, hil]
      have LL : Hid (((vs.take i).map (fun (x : Nat) => (x : Int))).length = i) := by rw [Hid, List.length_map, List.length_take, HV.out.len]; omega
      have SB := hide (sumN_bound (vs.take i) (fun y hy => HV.out.each y (List.mem_of_mem_take hy)))
      have HX := hide hx
      have cx : wr.cell? ⟨b', off + i, none⟩ = some (.int .u32 (x : Nat)) := by rw [hx]; exact (HV.out.mono R.out.old).at him
      have ex : IntKind.i64.wrap (x : Int) = x := by rw [IntKind.wrap_i64]; omega
      have SC : sumN (vs.take i) ≤ 4294967296 * i := by have := SB.out; rw [List.length_take] at this; omega
      rw [LL.out] at R
      revert R NS NT SC LL
      generalize sumN (vs.take i) = s
      generalize (vs.take i).map (fun (x : Nat) => (x : Int)) = bs
      intro R NS NT LL SC
      have i64 : i ≤ 64 := by have := HN.out; omega
      have es : IntKind.i64.wrap ((s : Int) + x) = ((s + x : Nat) : Int) := by rw [IntKind.wrap_i64]; omega
      have j0 : (0 : Int) ≤ i := by omega
      have j1 : (i : Int) < m := by omega
      have HXL := hide xl
      clear hx SB SC xl
      go_wp2_with fail
      refine Ssz.region (Ext := Old) 8 (fun w' => D1 w go (go + 1) [.int .i64 lo, .int .i64 hi, .int .i64 mo, .slice a n cap] (.slice av i cv) [.int .i64 (c : Nat), .int .u64 0, .int .u64 0, .int .u64 0, .int .u64 0, .bool false] bs w') (Ssz.Apart []) [44, 45, 46, 47, 48, 49, 50, 51]
        [(44, Ssx.cst (.pointer (some ⟨go, 0, none⟩))), (45, Ssx.cst (.slice av i cv)), (46, Ssx.cst (.slice (some ⟨b', off, none⟩) m cm)), (47, Ssx.cst (.int .i64 (i : Int))), (48, Ssx.cst (.pointer (some ⟨b', off + i, none⟩))), (49, Ssx.cst (.int .u32 (x : Nat))), (50, Ssx.cst (.int .i64 (x : Nat))), (51, (⟨fun v w' => ∃ g, v = .slice (some ⟨g, 0, none⟩) 1 1 ∧ Row w' g 3 [.int .i64 (x : Nat)], fun _ _ _ ⟨g, h1, h2⟩ o => ⟨g, h1, h2.mono o⟩⟩ : Ssx.XP Old))]
        [] (by kernel_rfl) (by kernel_rfl) (by kernel_rfl) (by simp) (by kernel_rfl) (by intro p hp; cases hp) (by kernel_rfl) (by kernel_rfl) Old.refl (R.out.mono (Old.of_drewN _ _)) ?apart ?good ?behind
      case apart => exact ⟨fun s hs => by simp at hs, fun s hs => by simp at hs⟩
      case good =>
        have hE : ∀ w w' : World, Old w w' → w.heap.size ≤ w'.heap.size := fun _ _ h => h.size
        refine And.intro (.inr ⟨by kernel_rfl, Ssz.keep (Ssx.val1 Old.refl (x := 8) (.pointer (some ⟨go, 0, none⟩)) (by simp [Op.operands]) rfl (fun _ _ h => h) (fun ρ h1 hc w => by unfold execOp; simp [h1, go_sem]) (fun _ => rfl)) hE (by kernel_rfl)⟩) ?_
        refine And.intro (.inr ⟨by kernel_rfl, Ssz.keep (Ssy.cell Old.refl rfl rfl (⟨go, 0, none⟩) (.slice av i cv) (fun _ _ h => h) (fun _ h => h.out.cell (i := 0) rfl) Try.underlying22 rfl (fun _ => rfl)) hE (by kernel_rfl)⟩) ?_
        refine And.intro (.inr ⟨by kernel_rfl, Ssz.keep (Ssx.mv Old.refl rfl rfl (fun _ _ h => h)) hE (by kernel_rfl)⟩) ?_
        refine And.intro (.inr ⟨by kernel_rfl, Ssz.keep (Ssx.mv Old.refl rfl rfl (fun _ _ h => h)) hE (by kernel_rfl)⟩) ?_
        refine And.intro (.inr ⟨by kernel_rfl, Ssz.keep (el Old.refl rfl rfl (b') (off) (i) (n := m) (cap := cm) (fun _ _ h => h) (fun _ _ h => h) (him) Try.underlying38 (by kernel_rfl) (fun _ => rfl)) hE (by kernel_rfl)⟩) ?_
        refine And.intro (.inr ⟨by kernel_rfl, Ssz.keep (Ssy.cell Old.refl rfl rfl (⟨b', off + i, none⟩) (.int .u32 (x : Nat)) (fun _ _ h => h) (fun _ h => by rw [HX.out]; exact (HV.out.mono h.old).at him) Try.underlying43 rfl (fun _ => rfl)) hE (by kernel_rfl)⟩) ?_
        refine And.intro (.inr ⟨by kernel_rfl, Ssz.keep (Ssx.val1 Old.refl (x := 49) (.int .u32 ((x : Nat) : Int)) (by simp [Op.operands]) rfl (fun _ _ h => h) (fun ρ h1 hc w => by unfold execOp; simp [h1, ex, go_sem]) (fun _ => rfl)) hE (by kernel_rfl)⟩) ?_
        refine And.intro (.inr ⟨by kernel_rfl, Ssz.keep (bld1 rfl rfl (x : Nat) (fun _ _ h => h) (fun _ _ h o => h.mono o) (fun _ _ => ⟨_, rfl, Row.new _ _ _⟩)) hE (by kernel_rfl)⟩) ?_
        exact trivial
      case behind =>
        intro vals wb hC hD hv
        have v44 : vals 44 = _ := hv _ (.head _)
        have v45 : vals 45 = _ := hv _ (.tail _ (.head _))
        have v46 : vals 46 = _ := hv _ (.tail _ (.tail _ (.head _)))
        have v47 : vals 47 = _ := hv _ (.tail _ (.tail _ (.tail _ (.head _))))
        have v48 : vals 48 = _ := hv _ (.tail _ (.tail _ (.tail _ (.tail _ (.head _)))))
        have v49 : vals 49 = _ := hv _ (.tail _ (.tail _ (.tail _ (.tail _ (.tail _ (.head _))))))
        have v50 : vals 50 = _ := hv _ (.tail _ (.tail _ (.tail _ (.tail _ (.tail _ (.tail _ (.head _)))))))
        have v51 := hv _ (.tail _ (.tail _ (.tail _ (.tail _ (.tail _ (.tail _ (.tail _ (.head _))))))))
        obtain ⟨g5, hg5, Z5⟩ := v51
        simp only [Ssa.putAll, List.map_cons, List.map_nil, List.foldl_cons, List.foldl_nil, List.setIfInBounds_toArray, List.set_cons_succ, List.set_cons_zero, v44, v45, v46, v47, v48, v49, v50, hg5, List.drop_succ_cons, List.drop_zero]
        have c5 := Z5.cell (i := 0) rfl
        go_wp2_with (refine wp_appendI rfl _ _ rfl (go + 1) (.slice av i cv) bs rfl hC.own g5 1 (x : Nat) rfl c5 (by rw [LL.out]; omega) hC.sz ?_; rintro v8 w8 ow gr
                     obtain ⟨av', cv', rfl, _⟩ := ow.rd
                     have G8 := hC.grown gr ow
                     have c8 := G8.2.2.1.cell (i := 0) rfl
                     have f8 := G8.2.2.1.free 0
                     have R8 := hide (hC.next gr ow)
                     clear G8 gr ow)
        refine ⟨⟨i + 1, .slice av' (bs.length + 1) cv', by omega, by simp, by rw [NS.out]; simp, ?_⟩, by simp [intOf]; omega⟩
        rw [NT.out]
        rw [show (bs ++ [((x : Nat) : Int)]).length = bs.length + 1 by simp] at R8
        exact R8
    · obtain rfl : i = n + 1 := by omega
      obtain ⟨z1, hz1⟩ : ∃ z1 : Int, z1 = ((n + 1 : Nat) : Int) := ⟨_, rfl⟩
      rw [← hz1]
      have t3' : decide (z1 < (n : Int) + 1) = false := by simp; omega
      clear hz1
      have LL : Hid ((binsV n vs).length = n + 1) := by unfold binsV; rw [Hid, List.length_map, List.length_take, HV.out.len]; have := HN.out; omega
      have RX : Hid (D1 w go (go + 1) [.int .i64 lo, .int .i64 hi, .int .i64 mo, .slice a n cap] v [.int .i64 (c : Nat), .int .u64 0, .int .u64 0, .int .u64 0, .int .u64 0, .bool false] (binsV n vs) wr) := R
      clear R
      obtain ⟨gb, cb, rst, rfl, hgb, RB⟩ := RX.out.own.row (by rw [LL.out]; omega)
      rw [LL.out] at RX
      obtain ⟨s, hs⟩ : ∃ s, s = sumN (vs.take (n + 1)) := ⟨_, rfl⟩
      rw [← hs]
      have cc4 : wr.cell? ⟨b', off + (n + 1), none⟩ = some (.int .u32 (c : Nat)) := by rw [HCN.out]; exact (HV.out.mono RX.out.old).at (by have := HN.out; omega)
      obtain ⟨bd, hbd⟩ : ∃ bd : Bool, bd = decide (s ≠ c) := ⟨_, rfl⟩
      have tb : ((s : Int) != (c : Int)) = bd := by rw [hbd, Bool.eq_iff_iff]; simp; omega
      have tb' : (s != c) = bd := by rw [hbd, Bool.eq_iff_iff]; simp
      have HBD := hide (And.intro hbd hs)
      have q0 : (0 : Int) ≤ (n : Int) + 1 := by omega
      have q1 : (n : Int) + 1 < m := by have := HN.out; omega
      have q2 : (bb : Int) ≤ 40 := by have := HN.out; omega
      clear hbd hs
      go_wp2_with fail
      have R0 : Hid (D2 w go gb wr.heap.size (wr.heap.size + 1) [.int .i64 lo, .int .i64 hi, .int .i64 mo, .slice a n cap] (.slice (some ⟨gb, 0, none⟩) (n + 1) cb :: [.int .i64 (c : Nat), .int .u64 0, .int .u64 0, .int .u64 0, .int .u64 0, .bool false]) (ints (binsV n vs) ++ rst) z8 z8 ((wr.alloc (.cells (nums .u32 z8).toArray 45)).alloc (.cells (nums .u32 z8).toArray 45))) := by
        have o2 : Old wr ((wr.alloc (.cells (nums .u32 z8).toArray 45)).alloc (.cells (nums .u32 z8).toArray 45)) := (Old.of_alloc _ _).alloc _
        exact ⟨RX.out.pl.mono o2, RX.out.res.mono o2, RX.out.out.mono o2, RB.mono o2, (row_new _ _ rfl).mono (Old.of_alloc _ _), row_new _ _ (by simp only [World.size_alloc]), RX.out.l1, hgb, RB.lt, by omega, RX.out.old.trans o2⟩
      clear RX RB cc4 tb tb' q0 q1
      revert R0
      generalize wr.heap.size = gp
      generalize gp + 1 = gq
      intro R0
      have HBL : Hid ((bitsV n vs).length = 3 * bb) := by unfold bitsV; rw [Hid, List.length_drop, HV.out.len]; have := HN.out; omega
      have HBG : Hid (∀ t, (bitsV n vs).getD t 0 = vs.getD (n + 2 + t) 0) := fun t => by unfold bitsV; simp [List.getD]
      go_loopw [11, 14, 15] (fun vb vi _ wr => ∃ (j : Nat) (z : Int), j ≤ 3 * bb ∧ z = (j : Int) - 1 ∧ vi = .int .i64 z ∧ vb = .bool (bd || ((bitsV n vs).drop j).any fun x => decide (c < x)) ∧ Hid (D2 w go gb gp gq [.int .i64 lo, .int .i64 hi, .int .i64 mo, .slice a n cap] (.slice (some ⟨gb, 0, none⟩) (n + 1) cb :: [.int .i64 (c : Nat), .int .u64 0, .int .u64 0, .int .u64 0, .int .u64 0, .bool false]) (ints (binsV n vs) ++ rst) (bigL (horN (((bitsV n vs).take bb).drop j))) (bigL (horN ((bitsV n vs).drop (max bb j)))) wr)) (fun _ vi _ _ => (intOf vi + 1).toNat)
      case atStart =>
        refine ⟨3 * bb, 3 * (bb : Int) - 1, Nat.le_refl _, by omega, rfl, ?_, ?_⟩
        · rw [List.drop_eq_nil_of_le (by rw [HBL.out]; exact Nat.le_refl _)]; simp
        · rw [Hid, horN_far _ (by rw [List.length_take, HBL.out]; omega), horN_far _ (by rw [HBL.out]; omega), big_nul]
          exact R0.out
      case round =>
        clear R0
        obtain ⟨j, z, hj, hz, rfl, rfl, R⟩ := hrel
        by_cases hj0 : j = 0
        · subst hj0
          obtain rfl : z = -1 := by omega
          clear hz hj
          obtain ⟨p0, hp0⟩ : ∃ p0, p0 = plV n bb vs := ⟨_, rfl⟩
          obtain ⟨q0, hq0⟩ : ∃ q0, q0 = sqV n bb vs := ⟨_, rfl⟩
          have R1 : Hid (D2 w go gb gp gq [.int .i64 lo, .int .i64 hi, .int .i64 mo, .slice a n cap] (.slice (some ⟨gb, 0, none⟩) (n + 1) cb :: [.int .i64 (c : Nat), .int .u64 0, .int .u64 0, .int .u64 0, .int .u64 0, .bool false]) (ints (binsV n vs) ++ rst) (bigL p0) (bigL q0) wr) := by
            have := R.out
            rw [List.drop_zero, show max bb 0 = bb by omega] at this
            rw [hp0, hq0]
            exact this
          have HH : Hid (headV n vs = (bd || ((bitsV n vs).drop 0).any fun x => decide (c < x))) := by
            rw [Hid, List.drop_zero, HBD.out.1, HBD.out.2, HCN.out]
            rfl
          have HPQ := hide (And.intro hp0 hq0)
          clear R hp0 hq0
          revert HH
          generalize (bd || ((bitsV n vs).drop 0).any fun x => decide (c < x)) = b0
          intro HH
          have t6 : decide ((0 : Int) ≤ -1) = false := by decide
          cases b0
          · have CIl := hide (fun wr : World => refInt13_any lo (by have := HL.out; unfold B64; omega) wr)
            have CIc := hide (fun wr : World => refInt13_any (c : Nat) (by unfold B64; omega) wr)
            unfold bv at CIl CIc
            obtain ⟨L0, hL0⟩ : ∃ L0, L0 = zN lo := ⟨_, rfl⟩
            obtain ⟨K0, hK0⟩ : ∃ K0, K0 = zN (c : Nat) := ⟨_, rfl⟩
            rw [← hL0] at CIl
            rw [← hK0] at CIc
            obtain ⟨A1, hA1⟩ : ∃ A1, A1 = L0 + L0 := ⟨_, rfl⟩
            obtain ⟨A2, hA2⟩ : ∃ A2, A2 = A1 * p0 := ⟨_, rfl⟩
            obtain ⟨A3, hA3⟩ : ∃ A3, A3 = q0 + A2 := ⟨_, rfl⟩
            obtain ⟨A4, hA4⟩ : ∃ A4, A4 = L0 * L0 := ⟨_, rfl⟩
            obtain ⟨A5, hA5⟩ : ∃ A5, A5 = K0 * A4 := ⟨_, rfl⟩
            obtain ⟨A6, hA6⟩ : ∃ A6, A6 = A3 + A5 := ⟨_, rfl⟩
            obtain ⟨A7, hA7⟩ : ∃ A7, A7 = K0 * L0 := ⟨_, rfl⟩
            obtain ⟨qq, hqq⟩ : ∃ qq, qq = zN (dsq lo n bb vs) := ⟨_, rfl⟩
            obtain ⟨ds, hds⟩ : ∃ ds, ds = dsum lo n bb vs := ⟨_, rfl⟩
            obtain ⟨DN, hDN⟩ : ∃ DN, DN = zN ds := ⟨_, rfl⟩
            obtain ⟨DA, hDA⟩ : ∃ DA, DA = ds.natAbs := ⟨_, rfl⟩
            have EQ : Hid (bigL A6 = bigL qq) := by
              rw [Hid, hqq, hA6, hA5, hA4, hA3, hA2, hA1, hL0, hK0, HPQ.out.1, HPQ.out.2, HCN.out]
              exact big_dsq lo n bb vs
            have ED : Hid (bigL (p0 + A7) = bigL (zN ds)) := by
              rw [Hid, hds, hA7, hL0, hK0, HPQ.out.1, HCN.out]
              exact big_dsum lo n bb vs
            have DB : Hid (-170141183460469231731687303715884105728 ≤ ds ∧ ds < 170141183460469231731687303715884105728) := by
              rw [hds]
              exact dsum_bound HL.out.1 HL.out.2 (by have := HN.out; omega) HV.out.each (by rw [← HCN.out]; exact cl)
            have HQD := hide (And.intro hqq hds)
            have D1c : Hid (∀ wr : World, Calls Try.prog 31 #[.agg (nums .u32 (bigL L0)).toArray, .agg (nums .u32 (bigL L0)).toArray] wr fun e w' => e = .returned (.agg (nums .u32 (bigL A1)).toArray) ∧ Old wr w') := fun wr => by rw [hA1]; exact refAdd9_any L0 L0 wr
            have D2c : Hid (∀ wr : World, Calls Try.prog 19 #[.agg (nums .u32 (bigL A1)).toArray, .agg (nums .u32 (bigL p0)).toArray] wr fun e w' => e = .returned (.agg (nums .u32 (bigL A2)).toArray) ∧ Old wr w') := fun wr => by rw [hA2]; exact refMul9_any A1 p0 wr
            have D3c : Hid (∀ wr : World, Calls Try.prog 31 #[.agg (nums .u32 (bigL q0)).toArray, .agg (nums .u32 (bigL A2)).toArray] wr fun e w' => e = .returned (.agg (nums .u32 (bigL A3)).toArray) ∧ Old wr w') := fun wr => by rw [hA3]; exact refAdd9_any q0 A2 wr
            have D4c : Hid (∀ wr : World, Calls Try.prog 19 #[.agg (nums .u32 (bigL L0)).toArray, .agg (nums .u32 (bigL L0)).toArray] wr fun e w' => e = .returned (.agg (nums .u32 (bigL A4)).toArray) ∧ Old wr w') := fun wr => by rw [hA4]; exact refMul9_any L0 L0 wr
            have D5c : Hid (∀ wr : World, Calls Try.prog 19 #[.agg (nums .u32 (bigL K0)).toArray, .agg (nums .u32 (bigL A4)).toArray] wr fun e w' => e = .returned (.agg (nums .u32 (bigL A5)).toArray) ∧ Old wr w') := fun wr => by rw [hA5]; exact refMul9_any K0 A4 wr
            have D6c : Hid (∀ wr : World, Calls Try.prog 31 #[.agg (nums .u32 (bigL A3)).toArray, .agg (nums .u32 (bigL A5)).toArray] wr fun e w' => e = .returned (.agg (nums .u32 (bigL qq)).toArray) ∧ Old wr w') := fun wr => by rw [← EQ.out, hA6]; exact refAdd9_any A3 A5 wr
            have D7c : Hid (∀ wr : World, Calls Try.prog 19 #[.agg (nums .u32 (bigL K0)).toArray, .agg (nums .u32 (bigL L0)).toArray] wr fun e w' => e = .returned (.agg (nums .u32 (bigL A7)).toArray) ∧ Old wr w') := fun wr => by rw [hA7]; exact refMul9_any K0 L0 wr
            have D8c : Hid (∀ wr : World, Calls Try.prog 31 #[.agg (nums .u32 (bigL p0)).toArray, .agg (nums .u32 (bigL A7)).toArray] wr fun e w' => e = .returned (.agg (nums .u32 (bigL DN)).toArray) ∧ Old wr w') := fun wr => by rw [hDN, ← ED.out]; exact refAdd9_any p0 A7 wr
            have D9c : Hid (∀ wr : World, Calls Try.prog 32 #[.agg (nums .u32 (bigL DN)).toArray] wr fun e w' => e = .returned (.tuple #[.agg (nums .u32 (bigL DA)).toArray, .bool (decide (ds < 0))]) ∧ Old wr w') := fun wr => by rw [hDN, hDA]; exact refSigned13_any ds DB.out.1 DB.out.2 wr
            have HDA := hide hDA
            clear hL0 hK0 hA1 hA2 hA3 hA4 hA5 hA6 hA7 hqq hds EQ ED DB hDN hDA
            go_wp2_with fail
            clear t6
            refine Ssz.region (Ext := Old) 8 (fun w' => D2 w go gb gp gq [.int .i64 lo, .int .i64 hi, .int .i64 mo, .slice a n cap] (.slice (some ⟨gb, 0, none⟩) (n + 1) cb :: [.int .i64 (c : Nat), .int .u64 0, .int .u64 0, .int .u64 0, .int .u64 0, .bool false]) (ints (binsV n vs) ++ rst) (bigL p0) (bigL q0) w') (Ssz.Apart [16, 17]) [109, 110, 111, 112, 113, 114, 16, 17]
              [(109, Ssx.cst (.pointer (some ⟨w.heap.size, 0, none⟩))), (110, Ssx.cst (.int .i64 lo)), (111, Ssx.cst (.agg (nums .u32 (bigL (L0))).toArray)), (112, Ssx.cst (.pointer (some ⟨go, 1, none⟩))), (113, Ssx.cst (.int .i64 (c : Nat))), (114, Ssx.cst (.agg (nums .u32 (bigL (K0))).toArray)), (16, (⟨fun v w' => ∃ g, v = .pointer (some ⟨g, 0, none⟩) ∧ gq < g ∧ Row w' g 45 (nums .u32 z8), fun _ _ _ ⟨g, h1, h2, h3⟩ o => ⟨g, h1, h2, h3.mono o⟩⟩ : Ssx.XP Old)), (17, (⟨fun v w' => ∃ g, v = .pointer (some ⟨g, 0, none⟩) ∧ gq < g ∧ Row w' g 45 (nums .u32 z8), fun _ _ _ ⟨g, h1, h2, h3⟩ o => ⟨g, h1, h2, h3.mono o⟩⟩ : Ssx.XP Old))]
              [] (by kernel_rfl) (by kernel_rfl) (by kernel_rfl) (by simp) (by kernel_rfl) (by intro p hp; cases hp) (by kernel_rfl) (by kernel_rfl) Old.refl (R1.out.mono (Old.of_drewN _ _)) ?apart ?good ?behind
            case apart => exact ⟨fun s hs x hx => by simp at hs; rcases hs with rfl | rfl <;> (cases hx), fun s hs t ht hne x y hx hy => by simp at hs; rcases hs with rfl | rfl <;> (cases hx)⟩
            case good =>
              have hE : ∀ w w' : World, Old w w' → w.heap.size ≤ w'.heap.size := fun _ _ h => h.size
              refine And.intro (.inr ⟨by kernel_rfl, Ssz.keep (Ssx.val1 Old.refl (x := 2) (.pointer (some ⟨w.heap.size, 0, none⟩)) (by simp [Op.operands]) rfl (fun _ _ h => h) (fun ρ h1 hc w => by unfold execOp; simp [h1, go_sem]) (fun _ => rfl)) hE (by kernel_rfl)⟩) ?_
              refine And.intro (.inr ⟨by kernel_rfl, Ssz.keep (Ssy.cell Old.refl rfl rfl (⟨w.heap.size, 0, none⟩) (.int .i64 lo) (fun _ _ h => h) (fun _ h => h.pl.cell (i := 0) rfl) Try.underlying3 rfl (fun _ => rfl)) hE (by kernel_rfl)⟩) ?_
              refine And.intro (.inr ⟨by kernel_rfl, Ssz.keep (Ssx.call rfl fun a' w' hC hop => ⟨29, #[.int .i64 lo], ?_, (CIl.out w').mono fun _ _ ⟨h1, h2⟩ => ⟨_, h1, hC.mono h2, h2, rfl⟩⟩) hE (by kernel_rfl)⟩) ?_
              · have h0 : a'.eval (.tmp 110) = .int .i64 lo := hop 110 (by simp [Op.operands, Call.operands])
                simp [Act.eval] at h0
                simp [h0, go_sem]
              refine And.intro (.inr ⟨by kernel_rfl, Ssz.keep (Ssx.val1 Old.refl (x := 8) (.pointer (some ⟨go, 0, none⟩)) (by simp [Op.operands]) rfl (fun _ _ h => h) (fun ρ h1 hc w => by unfold execOp; simp [h1, go_sem]) (fun _ => rfl)) hE (by kernel_rfl)⟩) ?_
              refine And.intro (.inr ⟨by kernel_rfl, Ssz.keep (Ssy.cell Old.refl rfl rfl (⟨go, 1, none⟩) (.int .i64 (c : Nat)) (fun _ _ h => h) (fun _ h => h.out.cell (i := 1) rfl) Try.underlying3 rfl (fun _ => rfl)) hE (by kernel_rfl)⟩) ?_
              refine And.intro (.inr ⟨by kernel_rfl, Ssz.keep (Ssx.call rfl fun a' w' hC hop => ⟨29, #[.int .i64 (c : Nat)], ?_, (CIc.out w').mono fun _ _ ⟨h1, h2⟩ => ⟨_, h1, hC.mono h2, h2, rfl⟩⟩) hE (by kernel_rfl)⟩) ?_
              · have h0 : a'.eval (.tmp 113) = .int .i64 (c : Nat) := hop 113 (by simp [Op.operands, Call.operands])
                simp [Act.eval] at h0
                simp [h0, go_sem]
              refine And.intro (.inr ⟨by kernel_rfl, Ssz.alloc (zs := nums .u32 z8) rfl rfl (fun w => by kernel_rfl) (fun _ h => h.mono (Old.of_alloc _ _)) (fun w => Old.of_alloc _ _) (fun v h => ⟨_, rfl, h.sq.lt, Row.new _ _ _⟩)⟩) ?_
              refine And.intro (.inr ⟨by kernel_rfl, Ssz.alloc (zs := nums .u32 z8) rfl rfl (fun w => by kernel_rfl) (fun _ h => h.mono (Old.of_alloc _ _)) (fun w => Old.of_alloc _ _) (fun v h => ⟨_, rfl, h.sq.lt, Row.new _ _ _⟩)⟩) ?_
              exact trivial
            case behind =>
              intro vals wb hC hD hv
              have v109 : vals 109 = _ := hv _ (.head _)
              have v110 : vals 110 = _ := hv _ (.tail _ (.head _))
              have v111 : vals 111 = _ := hv _ (.tail _ (.tail _ (.head _)))
              have v112 : vals 112 = _ := hv _ (.tail _ (.tail _ (.tail _ (.head _))))
              have v113 : vals 113 = _ := hv _ (.tail _ (.tail _ (.tail _ (.tail _ (.head _)))))
              have v114 : vals 114 = _ := hv _ (.tail _ (.tail _ (.tail _ (.tail _ (.tail _ (.head _))))))
              have v16 := hv _ (.tail _ (.tail _ (.tail _ (.tail _ (.tail _ (.tail _ (.head _)))))))
              have v17 := hv _ (.tail _ (.tail _ (.tail _ (.tail _ (.tail _ (.tail _ (.tail _ (.head _))))))))
              obtain ⟨gl, hgl, ll, Zl⟩ := v16
              obtain ⟨gm, hgm, lm, Zm⟩ := v17
              simp only [Ssa.putAll, List.map_cons, List.map_nil, List.foldl_cons, List.foldl_nil, List.setIfInBounds_toArray, List.set_cons_succ, List.set_cons_zero, v109, v110, v111, v112, v113, v114, hgl, hgm, List.drop_succ_cons, List.drop_zero] at hD ⊢
              have hne : gl ≠ gm := hD.ne 16 (.head _) 17 (.tail _ (.head _)) (by omega) _ _ rfl rfl
              have Q0 := hide hC
              have Zl' := hide Zl
              have Zm' := hide Zm
              clear hC hD hv v109 v110 v111 v112 v113 v114 hgl hgm Zl Zm R1 CIl CIc
              clear vals
              go_wp2_with (first
                | (refine wp_store_whole rfl 45 _ _ rfl gl rfl (nums .u32 (bigL L0)) rfl Zl'.out (info8 (bigL_length _)) (by rw [nums_length, nums_length, bigL_length]; rfl) (nums_oneCell _ _) ?_; rintro w1 h1
                   have Q1 : Hid (D2 w go gb gp gq [.int .i64 lo, .int .i64 hi, .int .i64 mo, .slice a n cap] (.slice (some ⟨gb, 0, none⟩) (n + 1) cb :: [.int .i64 (c : Nat), .int .u64 0, .int .u64 0, .int .u64 0, .int .u64 0, .bool false]) (ints (binsV n vs) ++ rst) (bigL p0) (bigL q0) w1 ∧ Row w1 gl 45 (nums .u32 (bigL L0)) ∧ Row w1 gm 45 (nums .u32 z8)) := by
                     subst h1
                     exact ⟨Q0.out.far (grown_setRow _ _ _) ll, Zl'.out.whole _, Zm'.out.grown (grown_setRow _ _ _) (fun e => hne e.symm)⟩
                   clear h1 Q0 Zl' Zm')
                | (refine wp_store_whole rfl 45 _ _ rfl gm rfl (nums .u32 (bigL K0)) rfl Q1.out.2.2 (info8 (bigL_length _)) (by rw [nums_length, nums_length, bigL_length]; rfl) (nums_oneCell _ _) ?_; rintro w2 h2
                   have Q2 : Hid (D3 w go gb gp gq gl gm [.int .i64 lo, .int .i64 hi, .int .i64 mo, .slice a n cap] (.slice (some ⟨gb, 0, none⟩) (n + 1) cb :: [.int .i64 (c : Nat), .int .u64 0, .int .u64 0, .int .u64 0, .int .u64 0, .bool false]) (ints (binsV n vs) ++ rst) (bigL p0) (bigL (q0)) (bigL L0) (bigL K0) w2) := by
                     subst h2
                     exact ⟨Q1.out.1.far (grown_setRow _ _ _) lm, Q1.out.2.1.grown (grown_setRow _ _ _) hne, Q1.out.2.2.whole _, ll, lm⟩
                   clear h2 Q1))
              try simp only [Act.put]
              refine Ssz.region (Ext := Old) 7 (fun w' => D3 w go gb gp gq gl gm [.int .i64 lo, .int .i64 hi, .int .i64 mo, .slice a n cap] (.slice (some ⟨gb, 0, none⟩) (n + 1) cb :: [.int .i64 (c : Nat), .int .u64 0, .int .u64 0, .int .u64 0, .int .u64 0, .bool false]) (ints (binsV n vs) ++ rst) (bigL p0) (bigL (q0)) (bigL L0) (bigL K0) w') (Ssz.Apart []) [115, 116, 117, 118, 119, 120, 121]
                [(115, Ssx.cst (.agg (nums .u32 (bigL (q0))).toArray)), (116, Ssx.cst (.agg (nums .u32 (bigL (L0))).toArray)), (117, Ssx.cst (.agg (nums .u32 (bigL (L0))).toArray)), (118, Ssx.cst (.agg (nums .u32 (bigL (A1))).toArray)), (119, Ssx.cst (.agg (nums .u32 (bigL (p0))).toArray)), (120, Ssx.cst (.agg (nums .u32 (bigL (A2))).toArray)), (121, Ssx.cst (.agg (nums .u32 (bigL (A3))).toArray))]
                [] (by kernel_rfl) (by kernel_rfl) (by kernel_rfl) (by simp) (by kernel_rfl) (by intro p hp; cases hp) (by kernel_rfl) (by kernel_rfl) Old.refl (Q2.out.mono (Old.of_drewN _ _)) ?apart ?good ?behind
              case apart => exact ⟨fun s hs => by simp at hs, fun s hs => by simp at hs⟩
              case good =>
                have hE : ∀ w w' : World, Old w w' → w.heap.size ≤ w'.heap.size := fun _ _ h => h.size
                refine And.intro (.inr ⟨by kernel_rfl, Ssz.keep (Ssx.whole Old.refl rfl rfl (gq) (nums .u32 (bigL (q0))) (fun _ _ h => h) (fun _ h => h.d.sq.rngX) Try.underlying45 rfl (info8 (bigL_length _)) (fun _ => rfl)) hE (by kernel_rfl)⟩) ?_
                refine And.intro (.inr ⟨by kernel_rfl, Ssz.keep (Ssx.whole Old.refl rfl rfl (gl) (nums .u32 (bigL (L0))) (fun _ _ h => h) (fun _ h => h.lw.rngX) Try.underlying45 rfl (info8 (bigL_length _)) (fun _ => rfl)) hE (by kernel_rfl)⟩) ?_
                refine And.intro (.inr ⟨by kernel_rfl, Ssz.keep (Ssx.whole Old.refl rfl rfl (gl) (nums .u32 (bigL (L0))) (fun _ _ h => h) (fun _ h => h.lw.rngX) Try.underlying45 rfl (info8 (bigL_length _)) (fun _ => rfl)) hE (by kernel_rfl)⟩) ?_
                refine And.intro (.inr ⟨by kernel_rfl, Ssz.keep (Ssx.call rfl fun a' w' hC hop => ⟨31, #[.agg (nums .u32 (bigL (L0))).toArray, .agg (nums .u32 (bigL (L0))).toArray], ?_, (D1c.out w').mono fun _ _ ⟨h1, h2⟩ => ⟨_, h1, hC.mono h2, h2, rfl⟩⟩) hE (by kernel_rfl)⟩) ?_
                · have h0 : a'.eval (.tmp 116) = .agg (nums .u32 (bigL (L0))).toArray := hop 116 (by simp [Op.operands, Call.operands])
                  have h1 : a'.eval (.tmp 117) = .agg (nums .u32 (bigL (L0))).toArray := hop 117 (by simp [Op.operands, Call.operands])
                  simp [Act.eval] at h0 h1
                  simp [h0, h1, go_sem]
                refine And.intro (.inr ⟨by kernel_rfl, Ssz.keep (Ssx.whole Old.refl rfl rfl (gp) (nums .u32 (bigL (p0))) (fun _ _ h => h) (fun _ h => h.d.pa.rngX) Try.underlying45 rfl (info8 (bigL_length _)) (fun _ => rfl)) hE (by kernel_rfl)⟩) ?_
                refine And.intro (.inr ⟨by kernel_rfl, Ssz.keep (Ssx.call rfl fun a' w' hC hop => ⟨19, #[.agg (nums .u32 (bigL (A1))).toArray, .agg (nums .u32 (bigL (p0))).toArray], ?_, (D2c.out w').mono fun _ _ ⟨h1, h2⟩ => ⟨_, h1, hC.mono h2, h2, rfl⟩⟩) hE (by kernel_rfl)⟩) ?_
                · have h0 : a'.eval (.tmp 118) = .agg (nums .u32 (bigL (A1))).toArray := hop 118 (by simp [Op.operands, Call.operands])
                  have h1 : a'.eval (.tmp 119) = .agg (nums .u32 (bigL (p0))).toArray := hop 119 (by simp [Op.operands, Call.operands])
                  simp [Act.eval] at h0 h1
                  simp [h0, h1, go_sem]
                refine And.intro (.inr ⟨by kernel_rfl, Ssz.keep (Ssx.call rfl fun a' w' hC hop => ⟨31, #[.agg (nums .u32 (bigL (q0))).toArray, .agg (nums .u32 (bigL (A2))).toArray], ?_, (D3c.out w').mono fun _ _ ⟨h1, h2⟩ => ⟨_, h1, hC.mono h2, h2, rfl⟩⟩) hE (by kernel_rfl)⟩) ?_
                · have h0 : a'.eval (.tmp 115) = .agg (nums .u32 (bigL (q0))).toArray := hop 115 (by simp [Op.operands, Call.operands])
                  have h1 : a'.eval (.tmp 120) = .agg (nums .u32 (bigL (A2))).toArray := hop 120 (by simp [Op.operands, Call.operands])
                  simp [Act.eval] at h0 h1
                  simp [h0, h1, go_sem]
                exact trivial
              case behind =>
                intro vals wb hC hD hv
                have v115 : vals 115 = _ := hv _ (.head _)
                have v116 : vals 116 = _ := hv _ (.tail _ (.head _))
                have v117 : vals 117 = _ := hv _ (.tail _ (.tail _ (.head _)))
                have v118 : vals 118 = _ := hv _ (.tail _ (.tail _ (.tail _ (.head _))))
                have v119 : vals 119 = _ := hv _ (.tail _ (.tail _ (.tail _ (.tail _ (.head _)))))
                have v120 : vals 120 = _ := hv _ (.tail _ (.tail _ (.tail _ (.tail _ (.tail _ (.head _))))))
                have v121 : vals 121 = _ := hv _ (.tail _ (.tail _ (.tail _ (.tail _ (.tail _ (.tail _ (.head _)))))))
                simp only [Ssa.putAll, List.map_cons, List.map_nil, List.foldl_cons, List.foldl_nil, List.setIfInBounds_toArray, List.set_cons_succ, List.set_cons_zero, v115, v116, v117, v118, v119, v120, v121, List.drop_succ_cons, List.drop_zero]
                have Q3 := hide hC
                clear hC hD hv Q2 v115 v116 v117 v118 v119 v120 v121 D1c D2c D3c
                clear vals
                go_wp2_with (refine wp_store_whole rfl 45 _ _ rfl gq rfl (nums .u32 (bigL (A3))) rfl Q3.out.d.sq (info8 (bigL_length _)) (by rw [nums_length, nums_length, bigL_length, bigL_length]) (nums_oneCell _ _) ?_; rintro w3 h3
                             have Q4 := hide (Q3.out.square _ h3)
                             clear h3 Q3)
                try simp only [Act.put]
                refine Ssz.region (Ext := Old) 7 (fun w' => D3 w go gb gp gq gl gm [.int .i64 lo, .int .i64 hi, .int .i64 mo, .slice a n cap] (.slice (some ⟨gb, 0, none⟩) (n + 1) cb :: [.int .i64 (c : Nat), .int .u64 0, .int .u64 0, .int .u64 0, .int .u64 0, .bool false]) (ints (binsV n vs) ++ rst) (bigL p0) (bigL (A3)) (bigL L0) (bigL K0) w') (Ssz.Apart []) [122, 123, 124, 125, 126, 127, 128]
                  [(122, Ssx.cst (.agg (nums .u32 (bigL (A3))).toArray)), (123, Ssx.cst (.agg (nums .u32 (bigL (K0))).toArray)), (124, Ssx.cst (.agg (nums .u32 (bigL (L0))).toArray)), (125, Ssx.cst (.agg (nums .u32 (bigL (L0))).toArray)), (126, Ssx.cst (.agg (nums .u32 (bigL (A4))).toArray)), (127, Ssx.cst (.agg (nums .u32 (bigL (A5))).toArray)), (128, Ssx.cst (.agg (nums .u32 (bigL (qq))).toArray))]
                  [] (by kernel_rfl) (by kernel_rfl) (by kernel_rfl) (by simp) (by kernel_rfl) (by intro p hp; cases hp) (by kernel_rfl) (by kernel_rfl) Old.refl (Q4.out.mono (Old.of_drewN _ _)) ?apart ?good ?behind
                case apart => exact ⟨fun s hs => by simp at hs, fun s hs => by simp at hs⟩
                case good =>
                  have hE : ∀ w w' : World, Old w w' → w.heap.size ≤ w'.heap.size := fun _ _ h => h.size
                  refine And.intro (.inr ⟨by kernel_rfl, Ssz.keep (Ssx.whole Old.refl rfl rfl (gq) (nums .u32 (bigL (A3))) (fun _ _ h => h) (fun _ h => h.d.sq.rngX) Try.underlying45 rfl (info8 (bigL_length _)) (fun _ => rfl)) hE (by kernel_rfl)⟩) ?_
                  refine And.intro (.inr ⟨by kernel_rfl, Ssz.keep (Ssx.whole Old.refl rfl rfl (gm) (nums .u32 (bigL (K0))) (fun _ _ h => h) (fun _ h => h.mn.rngX) Try.underlying45 rfl (info8 (bigL_length _)) (fun _ => rfl)) hE (by kernel_rfl)⟩) ?_
                  refine And.intro (.inr ⟨by kernel_rfl, Ssz.keep (Ssx.whole Old.refl rfl rfl (gl) (nums .u32 (bigL (L0))) (fun _ _ h => h) (fun _ h => h.lw.rngX) Try.underlying45 rfl (info8 (bigL_length _)) (fun _ => rfl)) hE (by kernel_rfl)⟩) ?_
                  refine And.intro (.inr ⟨by kernel_rfl, Ssz.keep (Ssx.whole Old.refl rfl rfl (gl) (nums .u32 (bigL (L0))) (fun _ _ h => h) (fun _ h => h.lw.rngX) Try.underlying45 rfl (info8 (bigL_length _)) (fun _ => rfl)) hE (by kernel_rfl)⟩) ?_
                  refine And.intro (.inr ⟨by kernel_rfl, Ssz.keep (Ssx.call rfl fun a' w' hC hop => ⟨19, #[.agg (nums .u32 (bigL (L0))).toArray, .agg (nums .u32 (bigL (L0))).toArray], ?_, (D4c.out w').mono fun _ _ ⟨h1, h2⟩ => ⟨_, h1, hC.mono h2, h2, rfl⟩⟩) hE (by kernel_rfl)⟩) ?_
                  · have h0 : a'.eval (.tmp 124) = .agg (nums .u32 (bigL (L0))).toArray := hop 124 (by simp [Op.operands, Call.operands])
                    have h1 : a'.eval (.tmp 125) = .agg (nums .u32 (bigL (L0))).toArray := hop 125 (by simp [Op.operands, Call.operands])
                    simp [Act.eval] at h0 h1
                    simp [h0, h1, go_sem]
                  refine And.intro (.inr ⟨by kernel_rfl, Ssz.keep (Ssx.call rfl fun a' w' hC hop => ⟨19, #[.agg (nums .u32 (bigL (K0))).toArray, .agg (nums .u32 (bigL (A4))).toArray], ?_, (D5c.out w').mono fun _ _ ⟨h1, h2⟩ => ⟨_, h1, hC.mono h2, h2, rfl⟩⟩) hE (by kernel_rfl)⟩) ?_
                  · have h0 : a'.eval (.tmp 123) = .agg (nums .u32 (bigL (K0))).toArray := hop 123 (by simp [Op.operands, Call.operands])
                    have h1 : a'.eval (.tmp 126) = .agg (nums .u32 (bigL (A4))).toArray := hop 126 (by simp [Op.operands, Call.operands])
                    simp [Act.eval] at h0 h1
                    simp [h0, h1, go_sem]
                  refine And.intro (.inr ⟨by kernel_rfl, Ssz.keep (Ssx.call rfl fun a' w' hC hop => ⟨31, #[.agg (nums .u32 (bigL (A3))).toArray, .agg (nums .u32 (bigL (A5))).toArray], ?_, (D6c.out w').mono fun _ _ ⟨h1, h2⟩ => ⟨_, h1, hC.mono h2, h2, rfl⟩⟩) hE (by kernel_rfl)⟩) ?_
                  · have h0 : a'.eval (.tmp 122) = .agg (nums .u32 (bigL (A3))).toArray := hop 122 (by simp [Op.operands, Call.operands])
                    have h1 : a'.eval (.tmp 127) = .agg (nums .u32 (bigL (A5))).toArray := hop 127 (by simp [Op.operands, Call.operands])
                    simp [Act.eval] at h0 h1
                    simp [h0, h1, go_sem]
                  exact trivial
                case behind =>
                  intro vals wb hC hD hv
                  have v122 : vals 122 = _ := hv _ (.head _)
                  have v123 : vals 123 = _ := hv _ (.tail _ (.head _))
                  have v124 : vals 124 = _ := hv _ (.tail _ (.tail _ (.head _)))
                  have v125 : vals 125 = _ := hv _ (.tail _ (.tail _ (.tail _ (.head _))))
                  have v126 : vals 126 = _ := hv _ (.tail _ (.tail _ (.tail _ (.tail _ (.head _)))))
                  have v127 : vals 127 = _ := hv _ (.tail _ (.tail _ (.tail _ (.tail _ (.tail _ (.head _))))))
                  have v128 : vals 128 = _ := hv _ (.tail _ (.tail _ (.tail _ (.tail _ (.tail _ (.tail _ (.head _)))))))
                  simp only [Ssa.putAll, List.map_cons, List.map_nil, List.foldl_cons, List.foldl_nil, List.setIfInBounds_toArray, List.set_cons_succ, List.set_cons_zero, v122, v123, v124, v125, v126, v127, v128, List.drop_succ_cons, List.drop_zero]
                  have Q5 := hide hC
                  clear hC hD hv Q4 v122 v123 v124 v125 v126 v127 v128 D4c D5c D6c
                  clear vals
                  have CW := hide (fun wr : World => refWide9_any qq wr)
                  unfold bv wv at CW
                  go_wp2_with (first
                    | (refine wp_store_whole rfl 45 _ _ rfl gq rfl (nums .u32 (bigL qq)) rfl Q5.out.d.sq (info8 (bigL_length _)) (by rw [nums_length, nums_length, bigL_length, bigL_length]) (nums_oneCell _ _) ?_; rintro w4 h4
                       have Q6 := hide (Q5.out.square _ h4)
                       clear h4 Q5)
                    | refine wp_load_whole rfl 45 _ rfl gq rfl Q6.out.d.sq Try.underlying45 rfl (info8 (bigL_length _)) ?_)
                  refine (CW.out _).mono ?_
                  rintro e w5 ⟨rfl, o5⟩
                  have Q7 := hide (Q6.out.mono o5)
                  clear Q6 o5 CW
                  have Q8 : Hid (D3 w go gb gp gq gl gm [.int .i64 lo, .int .i64 hi, .int .i64 mo, .slice a n cap] [.slice (some ⟨gb, 0, none⟩) (n + 1) cb, .int .i64 (c : Nat), .int .u64 0, .int .u64 0, .int .u64 (Wd.hi qq : Nat), .int .u64 (Wd.lo qq : Nat), .bool false] (ints (binsV n vs) ++ rst) (bigL p0) (bigL qq) (bigL L0) (bigL K0) ((w5.setCell ⟨go, 4, none⟩ (.int .u64 (Wd.hi qq : Nat))).setCell ⟨go, 5, none⟩ (.int .u64 (Wd.lo qq : Nat)))) := (Q7.out.set 4 (.int .u64 (Wd.hi qq : Nat))).set 5 (.int .u64 (Wd.lo qq : Nat))
                  have c4 := Q7.out.d.out.cell (i := 4) rfl
                  have c5 := Q7.out.d.out.cell (i := 5) rfl
                  have f4 := Q7.out.d.out.free 4
                  have f5 := Q7.out.d.out.free 5
                  go_wp2_with fail
                  clear c4 c5 f4 f5 Q7
                  revert Q8
                  generalize ((w5.setCell ⟨go, 4, none⟩ (.int .u64 (Wd.hi qq : Nat))).setCell ⟨go, 5, none⟩ (.int .u64 (Wd.lo qq : Nat))) = w6
                  intro Q8
                  have HLT : Hid (gl < w6.heap.size ∧ gm < w6.heap.size ∧ gq < w6.heap.size) := ⟨Q8.out.lw.lt, Q8.out.mn.lt, Q8.out.d.sq.lt⟩
                  refine Ssm.region (Ext := Ssm.Kp (w6.heap.size) 45) 11 10 (fun w' => D3 w go gb gp gq gl gm [.int .i64 lo, .int .i64 hi, .int .i64 mo, .slice a n cap] [.slice (some ⟨gb, 0, none⟩) (n + 1) cb, .int .i64 (c : Nat), .int .u64 0, .int .u64 0, .int .u64 (Wd.hi qq : Nat), .int .u64 (Wd.lo qq : Nat), .bool false] (ints (binsV n vs) ++ rst) (bigL p0) (bigL qq) (bigL L0) (bigL K0) w' ∧ w6.heap.size ≤ w'.heap.size) (Ssm.Mk 18 (w6.heap.size) 45 (nums .u32 z8) (nums .u32 (bigL DA))) [133, 134, 135, 136, 137, 138, 132, 139, 140, 18]
                    [(133, Ssx.cst (.agg (nums .u32 (bigL (p0))).toArray)), (134, Ssx.cst (.agg (nums .u32 (bigL (K0))).toArray)), (135, Ssx.cst (.agg (nums .u32 (bigL (L0))).toArray)), (136, Ssx.cst (.agg (nums .u32 (bigL (A7))).toArray)), (137, Ssx.cst (.agg (nums .u32 (bigL (DN))).toArray)), (138, Ssx.cst (.tuple #[.agg (nums .u32 (bigL (DA))).toArray, .bool (decide (ds < 0))])), (132, Ssx.cst (.tuple #[.agg (nums .u32 (bigL (DA))).toArray, .bool (decide (ds < 0))])), (139, Ssx.cst (.agg (nums .u32 (bigL (DA))).toArray)), (140, Ssx.cst (.bool (decide (ds < 0)))), (18, (⟨fun v _ => ∃ g, v = .pointer (some ⟨g, 0, none⟩), fun _ _ _ h _ => h⟩ : Ssx.XP (Ssm.Kp w6.heap.size 45)))]
                    [] (by kernel_rfl) (by kernel_rfl) (by kernel_rfl) (by simp) (by decide) (by kernel_rfl) (by intro p hp; cases hp) (by kernel_rfl) (by kernel_rfl) (Ssm.Kp.refl _ _) (⟨Q8.out.mono (Old.of_drewN _ _), Nat.le_refl _⟩) (Ssm.Mk.none rfl) ?good ?behind
                  case good =>
                    have hB : ∀ w' : World, (fun w' => D3 w go gb gp gq gl gm [.int .i64 lo, .int .i64 hi, .int .i64 mo, .slice a n cap] [.slice (some ⟨gb, 0, none⟩) (n + 1) cb, .int .i64 (c : Nat), .int .u64 0, .int .u64 0, .int .u64 (Wd.hi qq : Nat), .int .u64 (Wd.lo qq : Nat), .bool false] (ints (binsV n vs) ++ rst) (bigL p0) (bigL qq) (bigL L0) (bigL K0) w' ∧ w6.heap.size ≤ w'.heap.size) w' → (w6.heap.size) ≤ w'.heap.size := fun _ h => h.2
                    refine And.intro (Ssm.ask_free (by decide) (fun b => ⟨by kernel_rfl, Ssm.keep (Ssx.whole Old.refl rfl rfl (gp) (nums .u32 (bigL (p0))) (fun _ _ h => h) (fun _ h => h.1.d.pa.rngX) Try.underlying45 rfl (info8 (bigL_length _)) (fun _ => rfl)) hB (by kernel_rfl)⟩)) ?_
                    refine And.intro (Ssm.ask_free (by decide) (fun b => ⟨by kernel_rfl, Ssm.keep (Ssx.whole Old.refl rfl rfl (gm) (nums .u32 (bigL (K0))) (fun _ _ h => h) (fun _ h => h.1.mn.rngX) Try.underlying45 rfl (info8 (bigL_length _)) (fun _ => rfl)) hB (by kernel_rfl)⟩)) ?_
                    refine And.intro (Ssm.ask_free (by decide) (fun b => ⟨by kernel_rfl, Ssm.keep (Ssx.whole Old.refl rfl rfl (gl) (nums .u32 (bigL (L0))) (fun _ _ h => h) (fun _ h => h.1.lw.rngX) Try.underlying45 rfl (info8 (bigL_length _)) (fun _ => rfl)) hB (by kernel_rfl)⟩)) ?_
                    refine And.intro (Ssm.ask_free (by decide) (fun b => ⟨by kernel_rfl, Ssm.keep (Ssx.call rfl fun a' w' hC hop => ⟨19, #[.agg (nums .u32 (bigL (K0))).toArray, .agg (nums .u32 (bigL (L0))).toArray], ?_, (D7c.out w').mono fun _ _ ⟨h1, h2⟩ => ⟨_, h1, ⟨hC.1.mono h2, Nat.le_trans hC.2 h2.size⟩, h2, rfl⟩⟩) hB (by kernel_rfl)⟩)) ?_
                    · have h0 : a'.eval (.tmp 134) = .agg (nums .u32 (bigL (K0))).toArray := hop 134 (by simp [Op.operands, Call.operands])
                      have h1 : a'.eval (.tmp 135) = .agg (nums .u32 (bigL (L0))).toArray := hop 135 (by simp [Op.operands, Call.operands])
                      simp [Act.eval] at h0 h1
                      simp [h0, h1, go_sem]
                    refine And.intro (Ssm.ask_free (by decide) (fun b => ⟨by kernel_rfl, Ssm.keep (Ssx.call rfl fun a' w' hC hop => ⟨31, #[.agg (nums .u32 (bigL (p0))).toArray, .agg (nums .u32 (bigL (A7))).toArray], ?_, (D8c.out w').mono fun _ _ ⟨h1, h2⟩ => ⟨_, h1, ⟨hC.1.mono h2, Nat.le_trans hC.2 h2.size⟩, h2, rfl⟩⟩) hB (by kernel_rfl)⟩)) ?_
                    · have h0 : a'.eval (.tmp 133) = .agg (nums .u32 (bigL (p0))).toArray := hop 133 (by simp [Op.operands, Call.operands])
                      have h1 : a'.eval (.tmp 136) = .agg (nums .u32 (bigL (A7))).toArray := hop 136 (by simp [Op.operands, Call.operands])
                      simp [Act.eval] at h0 h1
                      simp [h0, h1, go_sem]
                    refine And.intro (Ssm.ask_free (by decide) (fun b => ⟨by kernel_rfl, Ssm.keep (Ssx.call rfl fun a' w' hC hop => ⟨32, #[.agg (nums .u32 (bigL (DN))).toArray], ?_, (D9c.out w').mono fun _ _ ⟨h1, h2⟩ => ⟨_, h1, ⟨hC.1.mono h2, Nat.le_trans hC.2 h2.size⟩, h2, rfl⟩⟩) hB (by kernel_rfl)⟩)) ?_
                    · have h0 : a'.eval (.tmp 137) = .agg (nums .u32 (bigL (DN))).toArray := hop 137 (by simp [Op.operands, Call.operands])
                      simp [Act.eval] at h0
                      simp [h0, go_sem]
                    refine And.intro (Ssm.ask_free (by decide) (fun b => ⟨by kernel_rfl, Ssm.keep (Ssx.mv Old.refl rfl rfl (fun _ _ h => h)) hB (by kernel_rfl)⟩)) ?_
                    refine And.intro (Ssm.ask_free (by decide) (fun b => ⟨by kernel_rfl, Ssm.keep (ex_ext Old.refl 0 rfl rfl (fun _ _ h => ⟨_, _, h, rfl, rfl⟩)) hB (by kernel_rfl)⟩)) ?_
                    refine And.intro (Ssm.ask_free (by decide) (fun b => ⟨by kernel_rfl, Ssm.keep (ex_ext Old.refl 1 rfl rfl (fun _ _ h => ⟨_, _, h, rfl, rfl⟩)) hB (by kernel_rfl)⟩)) ?_
                    refine And.intro (Ssm.ask_early (by decide) (by kernel_rfl) (by kernel_rfl) (Ssm.alloc rfl rfl (fun w => by kernel_rfl) (fun _ h => ⟨h.1.mono (Old.of_alloc _ _), Nat.le_trans h.2 (Old.of_alloc _ _).size⟩) hB (fun g w => ⟨g, rfl⟩))) ?_
                    refine And.intro (Ssm.ask_mark (by decide) (by kernel_rfl) (Ssm.store rfl rfl (fun _ _ h => h) (fun _ _ h => h) (info8 (bigL_length _)) (by rw [nums_length, nums_length, bigL_length]; rfl) (nums_oneCell _ _) (fun w' g h hB _ => ⟨h.1.far (grown_setRow _ _ _) (by have := HLT.out; omega) (by have := HLT.out; omega) (by have := HLT.out; omega), Nat.le_trans h.2 (by simp)⟩) hB)) ?_
                    exact trivial
                  case behind =>
                    intro vals wb hC hD hv
                    have v133 : vals 133 = _ := hv _ (.head _)
                    have v134 : vals 134 = _ := hv _ (.tail _ (.head _))
                    have v135 : vals 135 = _ := hv _ (.tail _ (.tail _ (.head _)))
                    have v136 : vals 136 = _ := hv _ (.tail _ (.tail _ (.tail _ (.head _))))
                    have v137 : vals 137 = _ := hv _ (.tail _ (.tail _ (.tail _ (.tail _ (.head _)))))
                    have v138 : vals 138 = _ := hv _ (.tail _ (.tail _ (.tail _ (.tail _ (.tail _ (.head _))))))
                    have v132 : vals 132 = _ := hv _ (.tail _ (.tail _ (.tail _ (.tail _ (.tail _ (.tail _ (.head _)))))))
                    have v139 : vals 139 = _ := hv _ (.tail _ (.tail _ (.tail _ (.tail _ (.tail _ (.tail _ (.tail _ (.head _))))))))
                    have v140 : vals 140 = _ := hv _ (.tail _ (.tail _ (.tail _ (.tail _ (.tail _ (.tail _ (.tail _ (.tail _ (.head _)))))))))
                    have v18 := hv _ (.tail _ (.tail _ (.tail _ (.tail _ (.tail _ (.tail _ (.tail _ (.tail _ (.tail _ (.head _))))))))))
                    obtain ⟨gs, hgs⟩ := v18
                    simp only [Ssa.putAll, List.map_cons, List.map_nil, List.foldl_cons, List.foldl_nil, List.setIfInBounds_toArray, List.set_cons_succ, List.set_cons_zero, v133, v134, v135, v136, v137, v138, v132, v139, v140, hgs, List.drop_succ_cons, List.drop_zero] at hD ⊢
                    obtain ⟨gs', hg', _, Zs⟩ := hD _ rfl
                    obtain rfl : gs = gs' := by simpa using hg'
                    simp only [if_true] at Zs
                    have Z9 := hide Zs
                    have Q9 := hide hC.1
                    clear hC hD hv Q8 v133 v134 v135 v136 v137 v138 v132 v139 v140 hgs hg' Zs D7c D8c D9c HLT
                    clear vals
                    have CW := hide (fun wr : World => refWide9_any DA wr)
                    unfold bv wv at CW
                    go_wp2_with (refine wp_load_whole rfl 45 _ rfl gs rfl Z9.out Try.underlying45 rfl (info8 (bigL_length _)) ?_)
                    refine (CW.out _).mono ?_
                    rintro e w8 ⟨rfl, o8⟩
                    have R5 := hide (Q9.out.mono o8)
                    clear Q9 Z9 o8 CW
                    have R6 : Hid (D3 w go gb gp gq gl gm [.int .i64 lo, .int .i64 hi, .int .i64 mo, .slice a n cap] [.slice (some ⟨gb, 0, none⟩) (n + 1) cb, .int .i64 (c : Nat), .int .u64 (Wd.hi DA : Nat), .int .u64 (Wd.lo DA : Nat), .int .u64 (Wd.hi qq : Nat), .int .u64 (Wd.lo qq : Nat), .bool (decide (ds < 0))] (ints (binsV n vs) ++ rst) (bigL p0) (bigL qq) (bigL L0) (bigL K0) (((w8.setCell ⟨go, 2, none⟩ (.int .u64 (Wd.hi DA : Nat))).setCell ⟨go, 3, none⟩ (.int .u64 (Wd.lo DA : Nat))).setCell ⟨go, 6, none⟩ (.bool (decide (ds < 0))))) := ((R5.out.set 2 (.int .u64 (Wd.hi DA : Nat))).set 3 (.int .u64 (Wd.lo DA : Nat))).set 6 (.bool (decide (ds < 0)))
                    have c2 := R5.out.d.out.cell (i := 2) rfl
                    have c3 := R5.out.d.out.cell (i := 3) rfl
                    have c6 := R5.out.d.out.cell (i := 6) rfl
                    have f2 := R5.out.d.out.free 2
                    have f3 := R5.out.d.out.free 3
                    have f6 := R5.out.d.out.free 6
                    go_wp2_with (first
                      | refine wp_load_whole rfl 29 _ rfl go rfl R6.out.d.out Try.underlying29 rfl infoSt ?_
                      | (refine wp_store_whole rfl 29 _ _ rfl (w.heap.size + 1) rfl [.slice (some ⟨gb, 0, none⟩) (n + 1) cb, .int .i64 (c : Nat), .int .u64 (Wd.hi DA : Nat), .int .u64 (Wd.lo DA : Nat), .int .u64 (Wd.hi qq : Nat), .int .u64 (Wd.lo qq : Nat), .bool (decide (ds < 0))] rfl R6.out.d.res infoSt rfl (by intro v hv; simp at hv; rcases hv with rfl | rfl | rfl | rfl | rfl | rfl | rfl <;> rfl) ?_; rintro w9 h9
                         have E9 := R6.out.d.end_ _ h9
                         clear h9))
                    refine bodyPost_ret (results_cell_tmp rfl rfl rfl E9.1 Try.underlying29 rfl infoSt) rfl ?_
                    have LB : (binsV n vs).length = n + 1 := by unfold binsV; rw [List.length_map, List.length_take, HV.out.len]; have := HN.out; omega
                    have l1 := R6.out.d.l1
                    have l2 := R6.out.d.l2
                    rw [HER.out, HH.out]
                    refine ⟨_, rfl, E9.2.2, fun _ => ⟨gb, cb, rst, ?_, by omega, E9.2.1⟩, fun h => absurd rfl h⟩
                    rw [LB, ← HQD.out.1, ← HQD.out.2, ← HCN.out]
                    unfold SV.of
                    rw [← HDA.out]
                    rfl
          · go_wp2_with (first
              | (refine wp_store_whole rfl 29 _ _ rfl (w.heap.size + 1) rfl stz rfl R1.out.res infoSt rfl stz_one ?_; rintro w9 h9
                 have E9 := R1.out.end_ _ h9
                 clear h9))
            refine bodyPost_ret (results_cell_tmp rfl rfl rfl E9.1 Try.underlying29 rfl infoSt) rfl ?_
            rw [HER.out, HH.out]
            exact ⟨_, rfl, E9.2.2, fun h => absurd h (by decide), fun _ => ⟨none, 0, rfl⟩⟩
        · obtain ⟨t, rfl⟩ : ∃ t, j = t + 1 := ⟨j - 1, by omega⟩
          obtain rfl : z = (t : Int) := by omega
          obtain ⟨x, hx⟩ : ∃ x, x = vs.getD (n + 2 + t) 0 := ⟨_, rfl⟩
          have him : n + 2 + t < m := by have := HN.out; omega
          have xl : x < 4294967296 := by rw [hx]; exact HV.out.lt _
          have HX := hide hx
          have htb : t < 3 * bb := by omega
          have NA : Hid ((bd || ((bitsV n vs).drop t).any fun x => decide (c < x)) = ((bd || ((bitsV n vs).drop (t + 1)).any fun x => decide (c < x)) || decide (c < x))) := by
            have hl : t < (bitsV n vs).length := by rw [HBL.out]; exact htb
            have e : (bitsV n vs)[t] = x := by rw [hx, ← HBG.out t]; simp [List.getD, hl]
            rw [Hid, List.drop_eq_getElem_cons hl, List.any_cons, e]
            cases bd <;> cases decide (c < x) <;> simp
          have CI := hide (fun wr : World => refInt13_any (x : Nat) (by unfold B64; omega) wr)
          have cx : wr.cell? ⟨b', off + (n + 2 + t), none⟩ = some (.int .u32 (x : Nat)) := by rw [hx]; exact (HV.out.mono R.out.old).at him
          have cc5 : wr.cell? ⟨b', off + (n + 1), none⟩ = some (.int .u32 (c : Nat)) := by rw [HCN.out]; exact (HV.out.mono R.out.old).at (by omega)
          have ex : IntKind.i64.wrap (x : Int) = x := by rw [IntKind.wrap_i64]; omega
          have t6 : decide ((0 : Int) ≤ (t : Int)) = true := by simp
          have tl : (t : Int) ≤ 120 := by have := HN.out; omega
          have q3 : (0 : Int) ≤ (n : Int) + 1 + 1 + t := by omega
          have q4 : (n : Int) + 1 + 1 + t < m := by omega
          have q0 : (0 : Int) ≤ (n : Int) + 1 := by omega
          have q1 : (n : Int) + 1 < m := by omega
          unfold bv at CI
          clear hx hz hj0 xl
          revert NA
          generalize (bd || ((bitsV n vs).drop (t + 1)).any fun x => decide (c < x)) = b0
          intro NA
          cases b0
          · obtain ⟨b1, hb1⟩ : ∃ b1 : Bool, b1 = decide (c < x) := ⟨_, rfl⟩
            have tt : decide ((c : Int) < (x : Int)) = b1 := by rw [hb1, Bool.eq_iff_iff]; simp
            have tt' : decide (c < x) = b1 := hb1.symm
            rw [tt'] at NA
            clear hb1
            go_wp2_with fail
            go_quiet (fail)
            clear tt tt'
            have R1 := hide (R.out.mono (Old.of_drewN _ nq))
            have cx1 : (wr.drewN nq).cell? ⟨b', off + (n + 2 + t), none⟩ = some (.int .u32 (x : Nat)) := by rw [HX.out]; exact (HV.out.mono R1.out.old).at him
            clear R cx cc5
            revert R1 cx1
            generalize wr.drewN nq = w4
            intro R1 cx1
            go_wp2_with fail
            refine (CI.out _).mono ?_
            rintro e w5 ⟨rfl, o5⟩
            have R2 := hide (R1.out.mono o5)
            clear R1 o5 cx1
            have Z5 := hide (Row.new w5 45 (nums .u32 z8))
            by_cases hbt : bb ≤ t
            · have t7 : decide ((bb : Int) ≤ (t : Int)) = true := by simp; omega
              have t7' : decide (bb ≤ t) = true := by simp; omega
              obtain ⟨pn, hpn⟩ : ∃ pn, pn = horN (((bitsV n vs).take bb).drop (t + 1)) := ⟨_, rfl⟩
              obtain ⟨qn, hqn⟩ : ∃ qn, qn = horN ((bitsV n vs).drop (max bb (t + 1))) := ⟨_, rfl⟩
              rw [← hpn, ← hqn] at R2
              have NP : Hid (horN (((bitsV n vs).take bb).drop t) = pn) := by
                rw [Hid, hpn]
                rw [horN_far _ (by rw [List.length_take]; omega), horN_far _ (by rw [List.length_take]; omega)]
              have NQ : Hid (horN ((bitsV n vs).drop (max bb t)) = qn + qn + x) := by
                rw [Hid, hqn]
                rw [show max bb t = t by omega, show max bb (t + 1) = t + 1 by omega, horN_drop _ (by rw [HBL.out]; exact htb), HBG.out, ← HX.out]; omega
              clear hpn hqn
              go_wp2_with (refine wp_store_whole rfl 45 _ _ rfl w5.heap.size rfl (nums .u32 (bigL (zN (x : Nat)))) rfl Z5.out (info8 (bigL_length _)) (by rw [nums_length, nums_length, bigL_length]; rfl) (nums_oneCell _ _) ?_; rintro w7 h7
                           have Q7 : Hid (D2 w go gb gp gq [.int .i64 lo, .int .i64 hi, .int .i64 mo, .slice a n cap] (.slice (some ⟨gb, 0, none⟩) (n + 1) cb :: [.int .i64 (c : Nat), .int .u64 0, .int .u64 0, .int .u64 0, .int .u64 0, .bool false]) (ints (binsV n vs) ++ rst) (bigL pn) (bigL qn) w7 ∧ Row w7 w5.heap.size 45 (nums .u32 (bigL x))) := by
                             subst h7
                             rw [big_nat]
                             have o7 : Old w5 ((w5.alloc (.cells (nums .u32 z8).toArray 45)).setRow w5.heap.size (nums .u32 (bigL x)).toArray) := (Old.of_alloc w5 _).grown (grown_setRow _ _ _) (Nat.le_refl _)
                             exact ⟨R2.out.mono o7, Z5.out.whole _⟩
                           clear h7)
              clear Z5 R2
              revert Q7
              generalize w5.heap.size = g9
              intro Q7
              have CA := hide (fun wr : World => refAdd9_any qn qn wr)
              have CB := hide (fun wr : World => refAdd9_any (qn + qn) x wr)
              unfold bv at CA CB
              refine Ssz.region (Ext := Old) 5 (fun w' => D2 w go gb gp gq [.int .i64 lo, .int .i64 hi, .int .i64 mo, .slice a n cap] (.slice (some ⟨gb, 0, none⟩) (n + 1) cb :: [.int .i64 (c : Nat), .int .u64 0, .int .u64 0, .int .u64 0, .int .u64 0, .bool false]) (ints (binsV n vs) ++ rst) (bigL pn) (bigL qn) w' ∧ Row w' g9 45 (nums .u32 (bigL x))) (Ssz.Apart []) [97, 98, 99, 100, 101]
                [(97, Ssx.cst (.agg (nums .u32 (bigL (qn))).toArray)), (98, Ssx.cst (.agg (nums .u32 (bigL (qn))).toArray)), (99, Ssx.cst (.agg (nums .u32 (bigL (qn + qn))).toArray)), (100, Ssx.cst (.agg (nums .u32 (bigL (x))).toArray)), (101, Ssx.cst (.agg (nums .u32 (bigL (qn + qn + x))).toArray))]
                [] (by kernel_rfl) (by kernel_rfl) (by kernel_rfl) (by simp) (by kernel_rfl) (by intro p hp; cases hp) (by kernel_rfl) (by kernel_rfl) Old.refl (⟨Q7.out.1.mono (Old.of_drewN _ _), Q7.out.2.mono (Old.of_drewN _ _)⟩) ?apart ?good ?behind
              case apart => exact ⟨fun s hs => by simp at hs, fun s hs => by simp at hs⟩
              case good =>
                have hE : ∀ w w' : World, Old w w' → w.heap.size ≤ w'.heap.size := fun _ _ h => h.size
                refine And.intro (.inr ⟨by kernel_rfl, Ssz.keep (Ssx.whole Old.refl rfl rfl (gq) (nums .u32 (bigL (qn))) (fun _ _ h => h) (fun _ h => h.1.sq.rngX) Try.underlying45 rfl (info8 (bigL_length _)) (fun _ => rfl)) hE (by kernel_rfl)⟩) ?_
                refine And.intro (.inr ⟨by kernel_rfl, Ssz.keep (Ssx.whole Old.refl rfl rfl (gq) (nums .u32 (bigL (qn))) (fun _ _ h => h) (fun _ h => h.1.sq.rngX) Try.underlying45 rfl (info8 (bigL_length _)) (fun _ => rfl)) hE (by kernel_rfl)⟩) ?_
                refine And.intro (.inr ⟨by kernel_rfl, Ssz.keep (Ssx.call rfl fun a' w' hC hop => ⟨31, #[.agg (nums .u32 (bigL (qn))).toArray, .agg (nums .u32 (bigL (qn))).toArray], ?_, (CA.out w').mono fun _ _ ⟨h1, h2⟩ => ⟨_, h1, ⟨hC.1.mono h2, hC.2.mono h2⟩, h2, rfl⟩⟩) hE (by kernel_rfl)⟩) ?_
                · have h0 : a'.eval (.tmp 97) = .agg (nums .u32 (bigL (qn))).toArray := hop 97 (by simp [Op.operands, Call.operands])
                  have h1 : a'.eval (.tmp 98) = .agg (nums .u32 (bigL (qn))).toArray := hop 98 (by simp [Op.operands, Call.operands])
                  simp [Act.eval] at h0 h1
                  simp [h0, h1, go_sem]
                refine And.intro (.inr ⟨by kernel_rfl, Ssz.keep (Ssx.whole Old.refl rfl rfl (g9) (nums .u32 (bigL (x))) (fun _ _ h => h) (fun _ h => h.2.rngX) Try.underlying45 rfl (info8 (bigL_length _)) (fun _ => rfl)) hE (by kernel_rfl)⟩) ?_
                refine And.intro (.inr ⟨by kernel_rfl, Ssz.keep (Ssx.call rfl fun a' w' hC hop => ⟨31, #[.agg (nums .u32 (bigL (qn + qn))).toArray, .agg (nums .u32 (bigL (x))).toArray], ?_, (CB.out w').mono fun _ _ ⟨h1, h2⟩ => ⟨_, h1, ⟨hC.1.mono h2, hC.2.mono h2⟩, h2, rfl⟩⟩) hE (by kernel_rfl)⟩) ?_
                · have h0 : a'.eval (.tmp 99) = .agg (nums .u32 (bigL (qn + qn))).toArray := hop 99 (by simp [Op.operands, Call.operands])
                  have h1 : a'.eval (.tmp 100) = .agg (nums .u32 (bigL (x))).toArray := hop 100 (by simp [Op.operands, Call.operands])
                  simp [Act.eval] at h0 h1
                  simp [h0, h1, go_sem]
                exact trivial
              case behind =>
                intro vals wb hC hD hv
                have y97 : vals 97 = _ := hv _ (.head _)
                have y98 : vals 98 = _ := hv _ (.tail _ (.head _))
                have y99 : vals 99 = _ := hv _ (.tail _ (.tail _ (.head _)))
                have y100 : vals 100 = _ := hv _ (.tail _ (.tail _ (.tail _ (.head _))))
                have y101 : vals 101 = _ := hv _ (.tail _ (.tail _ (.tail _ (.tail _ (.head _)))))
                simp only [Ssa.putAll, List.map_cons, List.map_nil, List.foldl_cons, List.foldl_nil, List.setIfInBounds_toArray, List.set_cons_succ, List.set_cons_zero, y97, y98, y99, y100, y101, List.drop_succ_cons, List.drop_zero]
                have Q8 := hide hC.1
                clear hC hD hv Q7 y97 y98 y99 y100 y101 CA CB
                clear vals
                go_wp2_with (first
                  | (refine wp_store_whole rfl 45 _ _ rfl gq rfl (nums .u32 (bigL (qn + qn + x))) rfl Q8.out.sq (info8 (bigL_length _)) (by rw [nums_length, nums_length, bigL_length, bigL_length]) (nums_oneCell _ _) ?_; rintro w8 h8
                     have Q9 := hide (Q8.out.square _ h8)
                     clear h8 Q8))
                go_roundw
                case rel =>
                  refine ⟨t, (t : Int) - 1, by omega, rfl, rfl, by rw [NA.out]; rfl, ?_⟩
                  rw [NP.out, NQ.out]
                  exact Q9
                case measure => simp [intOf]
            · have t7 : decide ((bb : Int) ≤ (t : Int)) = false := by simp; omega
              have t7' : decide (bb ≤ t) = false := by simp; omega
              obtain ⟨pn, hpn⟩ : ∃ pn, pn = horN (((bitsV n vs).take bb).drop (t + 1)) := ⟨_, rfl⟩
              obtain ⟨qn, hqn⟩ : ∃ qn, qn = horN ((bitsV n vs).drop (max bb (t + 1))) := ⟨_, rfl⟩
              rw [← hpn, ← hqn] at R2
              have NP : Hid (horN (((bitsV n vs).take bb).drop t) = pn + pn + x) := by
                rw [Hid, hpn]
                rw [horN_drop _ (by rw [List.length_take, HBL.out]; omega), show ((bitsV n vs).take bb).getD t 0 = x by rw [HX.out, ← HBG.out]; simp [List.getD, show t < bb by omega]]; omega
              have NQ : Hid (horN ((bitsV n vs).drop (max bb t)) = qn) := by
                rw [Hid, hqn]
                rw [show max bb t = bb by omega, show max bb (t + 1) = bb by omega]
              clear hpn hqn
              go_wp2_with (refine wp_store_whole rfl 45 _ _ rfl w5.heap.size rfl (nums .u32 (bigL (zN (x : Nat)))) rfl Z5.out (info8 (bigL_length _)) (by rw [nums_length, nums_length, bigL_length]; rfl) (nums_oneCell _ _) ?_; rintro w7 h7
                           have Q7 : Hid (D2 w go gb gp gq [.int .i64 lo, .int .i64 hi, .int .i64 mo, .slice a n cap] (.slice (some ⟨gb, 0, none⟩) (n + 1) cb :: [.int .i64 (c : Nat), .int .u64 0, .int .u64 0, .int .u64 0, .int .u64 0, .bool false]) (ints (binsV n vs) ++ rst) (bigL pn) (bigL qn) w7 ∧ Row w7 w5.heap.size 45 (nums .u32 (bigL x))) := by
                             subst h7
                             rw [big_nat]
                             have o7 : Old w5 ((w5.alloc (.cells (nums .u32 z8).toArray 45)).setRow w5.heap.size (nums .u32 (bigL x)).toArray) := (Old.of_alloc w5 _).grown (grown_setRow _ _ _) (Nat.le_refl _)
                             exact ⟨R2.out.mono o7, Z5.out.whole _⟩
                           clear h7)
              clear Z5 R2
              revert Q7
              generalize w5.heap.size = g9
              intro Q7
              have CA := hide (fun wr : World => refAdd9_any pn pn wr)
              have CB := hide (fun wr : World => refAdd9_any (pn + pn) x wr)
              unfold bv at CA CB
              refine Ssz.region (Ext := Old) 5 (fun w' => D2 w go gb gp gq [.int .i64 lo, .int .i64 hi, .int .i64 mo, .slice a n cap] (.slice (some ⟨gb, 0, none⟩) (n + 1) cb :: [.int .i64 (c : Nat), .int .u64 0, .int .u64 0, .int .u64 0, .int .u64 0, .bool false]) (ints (binsV n vs) ++ rst) (bigL pn) (bigL qn) w' ∧ Row w' g9 45 (nums .u32 (bigL x))) (Ssz.Apart []) [102, 103, 104, 105, 106]
                [(102, Ssx.cst (.agg (nums .u32 (bigL (pn))).toArray)), (103, Ssx.cst (.agg (nums .u32 (bigL (pn))).toArray)), (104, Ssx.cst (.agg (nums .u32 (bigL (pn + pn))).toArray)), (105, Ssx.cst (.agg (nums .u32 (bigL (x))).toArray)), (106, Ssx.cst (.agg (nums .u32 (bigL (pn + pn + x))).toArray))]
                [] (by kernel_rfl) (by kernel_rfl) (by kernel_rfl) (by simp) (by kernel_rfl) (by intro p hp; cases hp) (by kernel_rfl) (by kernel_rfl) Old.refl (⟨Q7.out.1.mono (Old.of_drewN _ _), Q7.out.2.mono (Old.of_drewN _ _)⟩) ?apart ?good ?behind
              case apart => exact ⟨fun s hs => by simp at hs, fun s hs => by simp at hs⟩
              case good =>
                have hE : ∀ w w' : World, Old w w' → w.heap.size ≤ w'.heap.size := fun _ _ h => h.size
                refine And.intro (.inr ⟨by kernel_rfl, Ssz.keep (Ssx.whole Old.refl rfl rfl (gp) (nums .u32 (bigL (pn))) (fun _ _ h => h) (fun _ h => h.1.pa.rngX) Try.underlying45 rfl (info8 (bigL_length _)) (fun _ => rfl)) hE (by kernel_rfl)⟩) ?_
                refine And.intro (.inr ⟨by kernel_rfl, Ssz.keep (Ssx.whole Old.refl rfl rfl (gp) (nums .u32 (bigL (pn))) (fun _ _ h => h) (fun _ h => h.1.pa.rngX) Try.underlying45 rfl (info8 (bigL_length _)) (fun _ => rfl)) hE (by kernel_rfl)⟩) ?_
                refine And.intro (.inr ⟨by kernel_rfl, Ssz.keep (Ssx.call rfl fun a' w' hC hop => ⟨31, #[.agg (nums .u32 (bigL (pn))).toArray, .agg (nums .u32 (bigL (pn))).toArray], ?_, (CA.out w').mono fun _ _ ⟨h1, h2⟩ => ⟨_, h1, ⟨hC.1.mono h2, hC.2.mono h2⟩, h2, rfl⟩⟩) hE (by kernel_rfl)⟩) ?_
                · have h0 : a'.eval (.tmp 102) = .agg (nums .u32 (bigL (pn))).toArray := hop 102 (by simp [Op.operands, Call.operands])
                  have h1 : a'.eval (.tmp 103) = .agg (nums .u32 (bigL (pn))).toArray := hop 103 (by simp [Op.operands, Call.operands])
                  simp [Act.eval] at h0 h1
                  simp [h0, h1, go_sem]
                refine And.intro (.inr ⟨by kernel_rfl, Ssz.keep (Ssx.whole Old.refl rfl rfl (g9) (nums .u32 (bigL (x))) (fun _ _ h => h) (fun _ h => h.2.rngX) Try.underlying45 rfl (info8 (bigL_length _)) (fun _ => rfl)) hE (by kernel_rfl)⟩) ?_
                refine And.intro (.inr ⟨by kernel_rfl, Ssz.keep (Ssx.call rfl fun a' w' hC hop => ⟨31, #[.agg (nums .u32 (bigL (pn + pn))).toArray, .agg (nums .u32 (bigL (x))).toArray], ?_, (CB.out w').mono fun _ _ ⟨h1, h2⟩ => ⟨_, h1, ⟨hC.1.mono h2, hC.2.mono h2⟩, h2, rfl⟩⟩) hE (by kernel_rfl)⟩) ?_
                · have h0 : a'.eval (.tmp 104) = .agg (nums .u32 (bigL (pn + pn))).toArray := hop 104 (by simp [Op.operands, Call.operands])
                  have h1 : a'.eval (.tmp 105) = .agg (nums .u32 (bigL (x))).toArray := hop 105 (by simp [Op.operands, Call.operands])
                  simp [Act.eval] at h0 h1
                  simp [h0, h1, go_sem]
                exact trivial
              case behind =>
                intro vals wb hC hD hv
                have y102 : vals 102 = _ := hv _ (.head _)
                have y103 : vals 103 = _ := hv _ (.tail _ (.head _))
                have y104 : vals 104 = _ := hv _ (.tail _ (.tail _ (.head _)))
                have y105 : vals 105 = _ := hv _ (.tail _ (.tail _ (.tail _ (.head _))))
                have y106 : vals 106 = _ := hv _ (.tail _ (.tail _ (.tail _ (.tail _ (.head _)))))
                simp only [Ssa.putAll, List.map_cons, List.map_nil, List.foldl_cons, List.foldl_nil, List.setIfInBounds_toArray, List.set_cons_succ, List.set_cons_zero, y102, y103, y104, y105, y106, List.drop_succ_cons, List.drop_zero]
                have Q8 := hide hC.1
                clear hC hD hv Q7 y102 y103 y104 y105 y106 CA CB
                clear vals
                go_wp2_with (first
                  | (refine wp_store_whole rfl 45 _ _ rfl gp rfl (nums .u32 (bigL (pn + pn + x))) rfl Q8.out.pa (info8 (bigL_length _)) (by rw [nums_length, nums_length, bigL_length, bigL_length]) (nums_oneCell _ _) ?_; rintro w8 h8
                     have Q9 := hide (Q8.out.place _ h8)
                     clear h8 Q8))
                go_roundw
                case rel =>
                  refine ⟨t, (t : Int) - 1, by omega, rfl, rfl, by rw [NA.out]; rfl, ?_⟩
                  rw [NP.out, NQ.out]
                  exact Q9
                case measure => simp [intOf]
          · go_wp2_with fail
            go_quiet (fail)
            have R1 := hide (R.out.mono (Old.of_drewN _ nq))
            have cx1 : (wr.drewN nq).cell? ⟨b', off + (n + 2 + t), none⟩ = some (.int .u32 (x : Nat)) := by rw [HX.out]; exact (HV.out.mono R1.out.old).at him
            clear R cx cc5
            revert R1 cx1
            generalize wr.drewN nq = w4
            intro R1 cx1
            go_wp2_with fail
            refine (CI.out _).mono ?_
            rintro e w5 ⟨rfl, o5⟩
            have R2 := hide (R1.out.mono o5)
            clear R1 o5 cx1
            have Z5 := hide (Row.new w5 45 (nums .u32 z8))
            by_cases hbt : bb ≤ t
            · have t7 : decide ((bb : Int) ≤ (t : Int)) = true := by simp; omega
              have t7' : decide (bb ≤ t) = true := by simp; omega
              obtain ⟨pn, hpn⟩ : ∃ pn, pn = horN (((bitsV n vs).take bb).drop (t + 1)) := ⟨_, rfl⟩
              obtain ⟨qn, hqn⟩ : ∃ qn, qn = horN ((bitsV n vs).drop (max bb (t + 1))) := ⟨_, rfl⟩
              rw [← hpn, ← hqn] at R2
              have NP : Hid (horN (((bitsV n vs).take bb).drop t) = pn) := by
                rw [Hid, hpn]
                rw [horN_far _ (by rw [List.length_take]; omega), horN_far _ (by rw [List.length_take]; omega)]
              have NQ : Hid (horN ((bitsV n vs).drop (max bb t)) = qn + qn + x) := by
                rw [Hid, hqn]
                rw [show max bb t = t by omega, show max bb (t + 1) = t + 1 by omega, horN_drop _ (by rw [HBL.out]; exact htb), HBG.out, ← HX.out]; omega
              clear hpn hqn
              go_wp2_with (refine wp_store_whole rfl 45 _ _ rfl w5.heap.size rfl (nums .u32 (bigL (zN (x : Nat)))) rfl Z5.out (info8 (bigL_length _)) (by rw [nums_length, nums_length, bigL_length]; rfl) (nums_oneCell _ _) ?_; rintro w7 h7
                           have Q7 : Hid (D2 w go gb gp gq [.int .i64 lo, .int .i64 hi, .int .i64 mo, .slice a n cap] (.slice (some ⟨gb, 0, none⟩) (n + 1) cb :: [.int .i64 (c : Nat), .int .u64 0, .int .u64 0, .int .u64 0, .int .u64 0, .bool false]) (ints (binsV n vs) ++ rst) (bigL pn) (bigL qn) w7 ∧ Row w7 w5.heap.size 45 (nums .u32 (bigL x))) := by
                             subst h7
                             rw [big_nat]
                             have o7 : Old w5 ((w5.alloc (.cells (nums .u32 z8).toArray 45)).setRow w5.heap.size (nums .u32 (bigL x)).toArray) := (Old.of_alloc w5 _).grown (grown_setRow _ _ _) (Nat.le_refl _)
                             exact ⟨R2.out.mono o7, Z5.out.whole _⟩
                           clear h7)
              clear Z5 R2
              revert Q7
              generalize w5.heap.size = g9
              intro Q7
              have CA := hide (fun wr : World => refAdd9_any qn qn wr)
              have CB := hide (fun wr : World => refAdd9_any (qn + qn) x wr)
              unfold bv at CA CB
              refine Ssz.region (Ext := Old) 5 (fun w' => D2 w go gb gp gq [.int .i64 lo, .int .i64 hi, .int .i64 mo, .slice a n cap] (.slice (some ⟨gb, 0, none⟩) (n + 1) cb :: [.int .i64 (c : Nat), .int .u64 0, .int .u64 0, .int .u64 0, .int .u64 0, .bool false]) (ints (binsV n vs) ++ rst) (bigL pn) (bigL qn) w' ∧ Row w' g9 45 (nums .u32 (bigL x))) (Ssz.Apart []) [97, 98, 99, 100, 101]
                [(97, Ssx.cst (.agg (nums .u32 (bigL (qn))).toArray)), (98, Ssx.cst (.agg (nums .u32 (bigL (qn))).toArray)), (99, Ssx.cst (.agg (nums .u32 (bigL (qn + qn))).toArray)), (100, Ssx.cst (.agg (nums .u32 (bigL (x))).toArray)), (101, Ssx.cst (.agg (nums .u32 (bigL (qn + qn + x))).toArray))]
                [] (by kernel_rfl) (by kernel_rfl) (by kernel_rfl) (by simp) (by kernel_rfl) (by intro p hp; cases hp) (by kernel_rfl) (by kernel_rfl) Old.refl (⟨Q7.out.1.mono (Old.of_drewN _ _), Q7.out.2.mono (Old.of_drewN _ _)⟩) ?apart ?good ?behind
              case apart => exact ⟨fun s hs => by simp at hs, fun s hs => by simp at hs⟩
              case good =>
                have hE : ∀ w w' : World, Old w w' → w.heap.size ≤ w'.heap.size := fun _ _ h => h.size
                refine And.intro (.inr ⟨by kernel_rfl, Ssz.keep (Ssx.whole Old.refl rfl rfl (gq) (nums .u32 (bigL (qn))) (fun _ _ h => h) (fun _ h => h.1.sq.rngX) Try.underlying45 rfl (info8 (bigL_length _)) (fun _ => rfl)) hE (by kernel_rfl)⟩) ?_
                refine And.intro (.inr ⟨by kernel_rfl, Ssz.keep (Ssx.whole Old.refl rfl rfl (gq) (nums .u32 (bigL (qn))) (fun _ _ h => h) (fun _ h => h.1.sq.rngX) Try.underlying45 rfl (info8 (bigL_length _)) (fun _ => rfl)) hE (by kernel_rfl)⟩) ?_
                refine And.intro (.inr ⟨by kernel_rfl, Ssz.keep (Ssx.call rfl fun a' w' hC hop => ⟨31, #[.agg (nums .u32 (bigL (qn))).toArray, .agg (nums .u32 (bigL (qn))).toArray], ?_, (CA.out w').mono fun _ _ ⟨h1, h2⟩ => ⟨_, h1, ⟨hC.1.mono h2, hC.2.mono h2⟩, h2, rfl⟩⟩) hE (by kernel_rfl)⟩) ?_
                · have h0 : a'.eval (.tmp 97) = .agg (nums .u32 (bigL (qn))).toArray := hop 97 (by simp [Op.operands, Call.operands])
                  have h1 : a'.eval (.tmp 98) = .agg (nums .u32 (bigL (qn))).toArray := hop 98 (by simp [Op.operands, Call.operands])
                  simp [Act.eval] at h0 h1
                  simp [h0, h1, go_sem]
                refine And.intro (.inr ⟨by kernel_rfl, Ssz.keep (Ssx.whole Old.refl rfl rfl (g9) (nums .u32 (bigL (x))) (fun _ _ h => h) (fun _ h => h.2.rngX) Try.underlying45 rfl (info8 (bigL_length _)) (fun _ => rfl)) hE (by kernel_rfl)⟩) ?_
                refine And.intro (.inr ⟨by kernel_rfl, Ssz.keep (Ssx.call rfl fun a' w' hC hop => ⟨31, #[.agg (nums .u32 (bigL (qn + qn))).toArray, .agg (nums .u32 (bigL (x))).toArray], ?_, (CB.out w').mono fun _ _ ⟨h1, h2⟩ => ⟨_, h1, ⟨hC.1.mono h2, hC.2.mono h2⟩, h2, rfl⟩⟩) hE (by kernel_rfl)⟩) ?_
                · have h0 : a'.eval (.tmp 99) = .agg (nums .u32 (bigL (qn + qn))).toArray := hop 99 (by simp [Op.operands, Call.operands])
                  have h1 : a'.eval (.tmp 100) = .agg (nums .u32 (bigL (x))).toArray := hop 100 (by simp [Op.operands, Call.operands])
                  simp [Act.eval] at h0 h1
                  simp [h0, h1, go_sem]
                exact trivial
              case behind =>
                intro vals wb hC hD hv
                have y97 : vals 97 = _ := hv _ (.head _)
                have y98 : vals 98 = _ := hv _ (.tail _ (.head _))
                have y99 : vals 99 = _ := hv _ (.tail _ (.tail _ (.head _)))
                have y100 : vals 100 = _ := hv _ (.tail _ (.tail _ (.tail _ (.head _))))
                have y101 : vals 101 = _ := hv _ (.tail _ (.tail _ (.tail _ (.tail _ (.head _)))))
                simp only [Ssa.putAll, List.map_cons, List.map_nil, List.foldl_cons, List.foldl_nil, List.setIfInBounds_toArray, List.set_cons_succ, List.set_cons_zero, y97, y98, y99, y100, y101, List.drop_succ_cons, List.drop_zero]
                have Q8 := hide hC.1
                clear hC hD hv Q7 y97 y98 y99 y100 y101 CA CB
                clear vals
                go_wp2_with (first
                  | (refine wp_store_whole rfl 45 _ _ rfl gq rfl (nums .u32 (bigL (qn + qn + x))) rfl Q8.out.sq (info8 (bigL_length _)) (by rw [nums_length, nums_length, bigL_length, bigL_length]) (nums_oneCell _ _) ?_; rintro w8 h8
                     have Q9 := hide (Q8.out.square _ h8)
                     clear h8 Q8))
                go_roundw
                case rel =>
                  refine ⟨t, (t : Int) - 1, by omega, rfl, rfl, by rw [NA.out]; rfl, ?_⟩
                  rw [NP.out, NQ.out]
                  exact Q9
                case measure => simp [intOf]
            · have t7 : decide ((bb : Int) ≤ (t : Int)) = false := by simp; omega
              have t7' : decide (bb ≤ t) = false := by simp; omega
              obtain ⟨pn, hpn⟩ : ∃ pn, pn = horN (((bitsV n vs).take bb).drop (t + 1)) := ⟨_, rfl⟩
              obtain ⟨qn, hqn⟩ : ∃ qn, qn = horN ((bitsV n vs).drop (max bb (t + 1))) := ⟨_, rfl⟩
              rw [← hpn, ← hqn] at R2
              have NP : Hid (horN (((bitsV n vs).take bb).drop t) = pn + pn + x) := by
                rw [Hid, hpn]
                rw [horN_drop _ (by rw [List.length_take, HBL.out]; omega), show ((bitsV n vs).take bb).getD t 0 = x by rw [HX.out, ← HBG.out]; simp [List.getD, show t < bb by omega]]; omega
              have NQ : Hid (horN ((bitsV n vs).drop (max bb t)) = qn) := by
                rw [Hid, hqn]
                rw [show max bb t = bb by omega, show max bb (t + 1) = bb by omega]
              clear hpn hqn
              go_wp2_with (refine wp_store_whole rfl 45 _ _ rfl w5.heap.size rfl (nums .u32 (bigL (zN (x : Nat)))) rfl Z5.out (info8 (bigL_length _)) (by rw [nums_length, nums_length, bigL_length]; rfl) (nums_oneCell _ _) ?_; rintro w7 h7
                           have Q7 : Hid (D2 w go gb gp gq [.int .i64 lo, .int .i64 hi, .int .i64 mo, .slice a n cap] (.slice (some ⟨gb, 0, none⟩) (n + 1) cb :: [.int .i64 (c : Nat), .int .u64 0, .int .u64 0, .int .u64 0, .int .u64 0, .bool false]) (ints (binsV n vs) ++ rst) (bigL pn) (bigL qn) w7 ∧ Row w7 w5.heap.size 45 (nums .u32 (bigL x))) := by
                             subst h7
                             rw [big_nat]
                             have o7 : Old w5 ((w5.alloc (.cells (nums .u32 z8).toArray 45)).setRow w5.heap.size (nums .u32 (bigL x)).toArray) := (Old.of_alloc w5 _).grown (grown_setRow _ _ _) (Nat.le_refl _)
                             exact ⟨R2.out.mono o7, Z5.out.whole _⟩
                           clear h7)
              clear Z5 R2
              revert Q7
              generalize w5.heap.size = g9
              intro Q7
              have CA := hide (fun wr : World => refAdd9_any pn pn wr)
              have CB := hide (fun wr : World => refAdd9_any (pn + pn) x wr)
              unfold bv at CA CB
              refine Ssz.region (Ext := Old) 5 (fun w' => D2 w go gb gp gq [.int .i64 lo, .int .i64 hi, .int .i64 mo, .slice a n cap] (.slice (some ⟨gb, 0, none⟩) (n + 1) cb :: [.int .i64 (c : Nat), .int .u64 0, .int .u64 0, .int .u64 0, .int .u64 0, .bool false]) (ints (binsV n vs) ++ rst) (bigL pn) (bigL qn) w' ∧ Row w' g9 45 (nums .u32 (bigL x))) (Ssz.Apart []) [102, 103, 104, 105, 106]
                [(102, Ssx.cst (.agg (nums .u32 (bigL (pn))).toArray)), (103, Ssx.cst (.agg (nums .u32 (bigL (pn))).toArray)), (104, Ssx.cst (.agg (nums .u32 (bigL (pn + pn))).toArray)), (105, Ssx.cst (.agg (nums .u32 (bigL (x))).toArray)), (106, Ssx.cst (.agg (nums .u32 (bigL (pn + pn + x))).toArray))]
                [] (by kernel_rfl) (by kernel_rfl) (by kernel_rfl) (by simp) (by kernel_rfl) (by intro p hp; cases hp) (by kernel_rfl) (by kernel_rfl) Old.refl (⟨Q7.out.1.mono (Old.of_drewN _ _), Q7.out.2.mono (Old.of_drewN _ _)⟩) ?apart ?good ?behind
              case apart => exact ⟨fun s hs => by simp at hs, fun s hs => by simp at hs⟩
              case good =>
                have hE : ∀ w w' : World, Old w w' → w.heap.size ≤ w'.heap.size := fun _ _ h => h.size
                refine And.intro (.inr ⟨by kernel_rfl, Ssz.keep (Ssx.whole Old.refl rfl rfl (gp) (nums .u32 (bigL (pn))) (fun _ _ h => h) (fun _ h => h.1.pa.rngX) Try.underlying45 rfl (info8 (bigL_length _)) (fun _ => rfl)) hE (by kernel_rfl)⟩) ?_
                refine And.intro (.inr ⟨by kernel_rfl, Ssz.keep (Ssx.whole Old.refl rfl rfl (gp) (nums .u32 (bigL (pn))) (fun _ _ h => h) (fun _ h => h.1.pa.rngX) Try.underlying45 rfl (info8 (bigL_length _)) (fun _ => rfl)) hE (by kernel_rfl)⟩) ?_
                refine And.intro (.inr ⟨by kernel_rfl, Ssz.keep (Ssx.call rfl fun a' w' hC hop => ⟨31, #[.agg (nums .u32 (bigL (pn))).toArray, .agg (nums .u32 (bigL (pn))).toArray], ?_, (CA.out w').mono fun _ _ ⟨h1, h2⟩ => ⟨_, h1, ⟨hC.1.mono h2, hC.2.mono h2⟩, h2, rfl⟩⟩) hE (by kernel_rfl)⟩) ?_
                · have h0 : a'.eval (.tmp 102) = .agg (nums .u32 (bigL (pn))).toArray := hop 102 (by simp [Op.operands, Call.operands])
                  have h1 : a'.eval (.tmp 103) = .agg (nums .u32 (bigL (pn))).toArray := hop 103 (by simp [Op.operands, Call.operands])
                  simp [Act.eval] at h0 h1
                  simp [h0, h1, go_sem]
                refine And.intro (.inr ⟨by kernel_rfl, Ssz.keep (Ssx.whole Old.refl rfl rfl (g9) (nums .u32 (bigL (x))) (fun _ _ h => h) (fun _ h => h.2.rngX) Try.underlying45 rfl (info8 (bigL_length _)) (fun _ => rfl)) hE (by kernel_rfl)⟩) ?_
                refine And.intro (.inr ⟨by kernel_rfl, Ssz.keep (Ssx.call rfl fun a' w' hC hop => ⟨31, #[.agg (nums .u32 (bigL (pn + pn))).toArray, .agg (nums .u32 (bigL (x))).toArray], ?_, (CB.out w').mono fun _ _ ⟨h1, h2⟩ => ⟨_, h1, ⟨hC.1.mono h2, hC.2.mono h2⟩, h2, rfl⟩⟩) hE (by kernel_rfl)⟩) ?_
                · have h0 : a'.eval (.tmp 104) = .agg (nums .u32 (bigL (pn + pn))).toArray := hop 104 (by simp [Op.operands, Call.operands])
                  have h1 : a'.eval (.tmp 105) = .agg (nums .u32 (bigL (x))).toArray := hop 105 (by simp [Op.operands, Call.operands])
                  simp [Act.eval] at h0 h1
                  simp [h0, h1, go_sem]
                exact trivial
              case behind =>
                intro vals wb hC hD hv
                have y102 : vals 102 = _ := hv _ (.head _)
                have y103 : vals 103 = _ := hv _ (.tail _ (.head _))
                have y104 : vals 104 = _ := hv _ (.tail _ (.tail _ (.head _)))
                have y105 : vals 105 = _ := hv _ (.tail _ (.tail _ (.tail _ (.head _))))
                have y106 : vals 106 = _ := hv _ (.tail _ (.tail _ (.tail _ (.tail _ (.head _)))))
                simp only [Ssa.putAll, List.map_cons, List.map_nil, List.foldl_cons, List.foldl_nil, List.setIfInBounds_toArray, List.set_cons_succ, List.set_cons_zero, y102, y103, y104, y105, y106, List.drop_succ_cons, List.drop_zero]
                have Q8 := hide hC.1
                clear hC hD hv Q7 y102 y103 y104 y105 y106 CA CB
                clear vals
                go_wp2_with (first
                  | (refine wp_store_whole rfl 45 _ _ rfl gp rfl (nums .u32 (bigL (pn + pn + x))) rfl Q8.out.pa (info8 (bigL_length _)) (by rw [nums_length, nums_length, bigL_length, bigL_length]) (nums_oneCell _ _) ?_; rintro w8 h8
                     have Q9 := hide (Q8.out.place _ h8)
                     clear h8 Q8))
                go_roundw
                case rel =>
                  refine ⟨t, (t : Int) - 1, by omega, rfl, rfl, by rw [NA.out]; rfl, ?_⟩
                  rw [NP.out, NQ.out]
                  exact Q9
                case measure => simp [intOf]
end Go.Proofs.Ythaaajepolahfaa
