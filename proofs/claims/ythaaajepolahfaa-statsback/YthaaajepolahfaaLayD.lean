/-
  Layer 12 as it landed: how a vector is laid out; what tally's Len answers.
-/
import Derived.Test.YthaaajepolahfaaLenC
import Derived.Test.YthaaajepolahfaaWhole
import Derived.Test.YthaaajepolahfaaClampL
namespace Go.Proofs.Ythaaajepolahfaa
open Go.RowKit Pn
set_option linter.unusedVariables false

/-- A layout: how many bins, places, squares. -/
def lyv (p q r : Nat) : Value := .agg #[.int .i64 (p : Int), .int .i64 (q : Int), .int .i64 (r : Int)]

theorem length_any (p q r : Nat) (hp : p ≤ 1000) (hq : q ≤ 1000) (hr : r ≤ 1000) (w : World) :
    Calls Try.prog 62 #[lyv p q r] w fun e w' => e = .returned (.int .i64 ((p + 1 + q + r : Nat) : Int)) ∧ Old w w' := by
  have e1 : IntKind.i64.wrap ((p : Int) + 1) = ((p + 1 : Nat) : Int) := by rw [IntKind.wrap_i64]; omega
  have e2 : IntKind.i64.wrap (((p + 1 : Nat) : Int) + (q : Int)) = ((p + 1 + q : Nat) : Int) := by rw [IntKind.wrap_i64]; omega
  have e3 : IntKind.i64.wrap (((p + 1 + q : Nat) : Int) + (r : Int)) = ((p + 1 + q + r : Nat) : Int) := by rw [IntKind.wrap_i64]; omega
  have O := Old.of_alloc w (.cells #[.int .i64 (p : Int), .int .i64 (q : Int), .int .i64 (r : Int)] 92)
  unfold lyv
  go_enter Try.func62, Try.ntmps62
  go_wp2
  go_ret
  exact ⟨rfl, O⟩



theorem results_lay {P : Program} {fn : Func} {p q : Tmp} {ty : TypeId} (h : fn.results = #[.cell p ty, .tmp q]) {tmps : Array Value} {w : World} {g : Nat} {t : TypeId} {vs : List Value} {d : TypeDesc} {v : Value}
    (hp : tmps.getD p undef = .pointer (some ⟨g, 0, none⟩)) (hq : tmps.getD q undef = v) (R : Row w g t vs)
    (hu : P.underlying ty = some d) (hd : (match d with | .struct _ | .array _ _ => true | _ => false) = true) (hi : (P.info? ty).map (·.size) = some vs.length) :
    (results fn tmps).run P w = .ok (.tuple #[.agg vs.toArray, v]) w := by
  have hp' : tmps[p]?.getD undef = .pointer (some ⟨g, 0, none⟩) := by simpa using hp
  have hq' : tmps[q]?.getD undef = v := by simpa using hq
  simp [results, h, hp', hq', asAddr, run_loadVar_row w g t ty vs.toArray (0, 0) d R hu hd (by simpa using hi)]
theorem infoLy {a b c : Value} : (Try.prog.info? 92).map (·.size) = some [a, b, c].length := by kernel_rfl
theorem three_ints (a b c : Int) : ∀ v ∈ [Value.int .i64 a, .int .i64 b, .int .i64 c], v.oneCell' = true := by
  intro v hv
  simp at hv
  rcases hv with rfl | rfl | rfl <;> rfl

/-- The plan in its box, and beside it the layout to be answered. -/
structure Ly (w : World) (lo hi mo : Int) (a : Option Addr) (n cap : Nat) (es : List Int) (x y z : Int) (wr : World) : Prop where
  bx : Bx w w.heap.size lo hi mo a n cap es wr
  res : Row wr (w.heap.size + 1) 92 [.int .i64 x, .int .i64 y, .int .i64 z]
theorem Ly.mono {w : World} {lo hi mo : Int} {a : Option Addr} {n cap : Nat} {es : List Int} {x y z : Int} {wr w' : World} (h : Ly w lo hi mo a n cap es x y z wr) (o : Old wr w') : Ly w lo hi mo a n cap es x y z w' := ⟨h.bx.mono o, h.res.mono o⟩
theorem Ly.start {w : World} {lo hi mo : Int} {a : Option Addr} {n : Nat} {es : List Int} (cap : Nat) (F : Fit w lo hi mo a n es) : Ly w lo hi mo a n cap es 0 0 0 ((w.alloc (.cells #[.int .i64 lo, .int .i64 hi, .int .i64 mo, .slice a n cap] 24)).alloc (.cells #[.int .i64 0, .int .i64 0, .int .i64 0] 92)) := by
  refine ⟨(Bx.start cap F).mono (Old.of_alloc _ _), ?_⟩
  have := Row.new (w.alloc (.cells #[.int .i64 lo, .int .i64 hi, .int .i64 mo, .slice a n cap] 24)) 92 [.int .i64 0, .int .i64 0, .int .i64 0]
  rw [World.size_alloc] at this
  exact this
theorem Ly.end_ {w : World} {lo hi mo : Int} {a : Option Addr} {n cap : Nat} {es : List Int} {x y z : Int} {wr w9 : World} (h : Ly w lo hi mo a n cap es x y z wr) (x' y' z' : Int) (e : w9 = wr.setRow (w.heap.size + 1) [.int .i64 x', .int .i64 y', .int .i64 z'].toArray) :
    Row w9 (w.heap.size + 1) 92 [.int .i64 x', .int .i64 y', .int .i64 z'] ∧ Old w w9 := by
  subst e
  exact ⟨h.res.whole _, h.bx.old.grown (grown_setRow _ _ _) (by omega)⟩

def layS (s lo hi : Int) (n : Nat) : Value := if s = 0 then lyv (n + 1) (bN lo hi) (2 * bN lo hi) else lyv 0 0 0

set_option maxHeartbeats 1000000 in
theorem layoutOf_any {lo hi mo : Int} {a : Option Addr} {n : Nat} {es : List Int} (cap : Nat) (w : World) (F : Fit w lo hi mo a n es) :
    Calls Try.prog 61 #[pv lo hi mo a n cap] w fun e w' => e = .returned (.tuple #[layS (soundZ lo hi mo es) lo hi n, .int .i64 (soundZ lo hi mo es)]) ∧ Old w w' := by
  have L0 := hide (Ly.start cap F)
  have X := hide (fun w F => bits10 lo hi mo a n cap es w F)
  have NB := hide (@sound_of lo hi mo es)
  have HN := hide F.len
  unfold pv at *
  clear F
  revert X NB
  generalize soundZ lo hi mo es = s
  intro X NB
  go_enter Try.func61, Try.ntmps61
  have c0 := L0.out.bx.c0
  have c1 := L0.out.bx.c1
  have c2 := L0.out.bx.c2
  have c3 := L0.out.bx.c3
  go_wp2_with fail
  refine (X.out _ L0.out.bx.fit).mono ?_
  rintro e w1 ⟨rfl, o1⟩
  have L1 := hide (L0.out.mono o1)
  clear L0 o1 X c0 c1 c2 c3
  by_cases hs : s = 0
  · subst hs
    have E : Hid (layS 0 lo hi n = lyv (n + 1) (bN lo hi) (2 * bN lo hi)) := by show _ = _; unfold layS; rw [if_pos rfl]
    have EB : bitsS 0 lo hi = ((bN lo hi : Nat) : Int) := by unfold bitsS bN; rw [if_pos rfl]
    have nb : n ≤ 64 ∧ bN lo hi ≤ 40 := by
      obtain ⟨h1, _, h3⟩ := NB.out rfl
      unfold bad1 at h1
      unfold bad3 at h3
      have := bits_40 (d := (hi - lo).toNat) (by omega)
      have := HN.out
      unfold bN
      omega
    rw [EB]
    clear EB NB
    revert E
    generalize bN lo hi = bb at nb ⊢
    intro E
    obtain ⟨n64, b40⟩ := nb
    have n1 : (n : Int) ≤ 64 := by omega
    have b1 : (bb : Int) ≤ 40 := by omega
    have b0 : (0 : Int) ≤ bb := by omega
    have e1 : IntKind.i64.wrap ((n : Int) + 1) = ((n + 1 : Nat) : Int) := by rw [IntKind.wrap_i64]; omega
    have e2 : IntKind.i64.wrap (2 * (bb : Int)) = ((2 * bb : Nat) : Int) := by rw [IntKind.wrap_i64]; omega
    have c3 := L1.out.bx.c3
    unfold lyv at E
    revert E e1 e2
    generalize n + 1 = n2
    generalize 2 * bb = b2
    intro E e1 e2
    go_wp2_with (first
      | (refine wp_store_whole rfl 92 _ _ rfl (w.heap.size + 1) rfl [.int .i64 (n2 : Int), .int .i64 (bb : Int), .int .i64 (b2 : Int)] rfl L1.out.res infoLy rfl (three_ints _ _ _) ?_; rintro w9 h9
         have E9 := L1.out.end_ _ _ _ h9
         clear h9))
    exact bodyPost_ret (v := .tuple #[.agg [.int .i64 (n2 : Int), .int .i64 (bb : Int), .int .i64 (b2 : Int)].toArray, .int .i64 0]) (results_lay rfl rfl rfl E9.1 Try.underlying92 rfl infoLy) rfl ⟨by rw [E.out], E9.2⟩
  · have E : Hid (layS s lo hi n = lyv 0 0 0) := by show _ = _; unfold layS; rw [if_neg hs]
    have t : (s != 0) = true := by simpa using hs
    clear hs NB
    generalize bitsS s lo hi = q
    go_wp2_with (first
      | (refine wp_store_whole rfl 92 _ _ rfl (w.heap.size + 1) rfl [.int .i64 0, .int .i64 0, .int .i64 0] rfl L1.out.res infoLy rfl (three_ints _ _ _) ?_; rintro w9 h9
         have E9 := L1.out.end_ _ _ _ h9
         clear h9))
    exact bodyPost_ret (v := .tuple #[.agg [.int .i64 0, .int .i64 0, .int .i64 0].toArray, .int .i64 s]) (results_lay rfl rfl rfl E9.1 Try.underlying92 rfl infoLy) rfl ⟨by rw [E.out]; rfl, E9.2⟩
theorem lay_put (w1 : World) (x y z : Int) {w9 : World} (e : w9 = (w1.alloc (.cells #[.int .i64 0, .int .i64 0, .int .i64 0] 92)).setRow w1.heap.size [.int .i64 x, .int .i64 y, .int .i64 z].toArray) :
    Row w9 w1.heap.size 92 [.int .i64 x, .int .i64 y, .int .i64 z] ∧ Old w1 w9 := by
  subst e
  exact ⟨(Row.new w1 92 [.int .i64 0, .int .i64 0, .int .i64 0]).whole _, (Old.of_alloc _ _).grown (grown_setRow _ _ _) (Nat.le_refl _)⟩

set_option maxHeartbeats 1000000 in
theorem len12 : LenC12 := by
  intro lo hi mo a n cap es w F
  have B0 := hide (Bx.start cap F)
  have X := hide (fun w F => layoutOf_any (lo := lo) (hi := hi) (mo := mo) (a := a) (n := n) (es := es) cap w F)
  have NB := hide (@sound_of lo hi mo es)
  have HN := hide F.len
  unfold pv at *
  clear F
  revert X NB
  generalize soundZ lo hi mo es = s
  intro X NB
  go_enter Try.func45, Try.ntmps45
  have c0 := B0.out.c0
  have c1 := B0.out.c1
  have c2 := B0.out.c2
  have c3 := B0.out.c3
  go_wp2_with fail
  refine (X.out _ B0.out.fit).mono ?_
  rintro e w1 ⟨rfl, o1⟩
  have O1 := hide (B0.out.old.trans o1)
  clear B0 o1 X c0 c1 c2 c3
  by_cases hs : s = 0
  · subst hs
    have E : layS 0 lo hi n = lyv (n + 1) (bN lo hi) (2 * bN lo hi) := by unfold layS; rw [if_pos rfl]
    have EL : Hid (lenS 0 lo hi es = ((n + 1 + 1 + bN lo hi + 2 * bN lo hi : Nat) : Int)) := by show _ = _; unfold lenS lenN; rw [if_pos rfl, HN.out]; omega
    have nb : n ≤ 64 ∧ bN lo hi ≤ 40 := by
      obtain ⟨h1, _, h3⟩ := NB.out rfl
      unfold bad1 at h1
      unfold bad3 at h3
      have := bits_40 (d := (hi - lo).toNat) (by omega)
      have := HN.out
      unfold bN
      omega
    have Y := hide (fun w => length_any (n + 1) (bN lo hi) (2 * bN lo hi) (by omega) (by omega) (by omega) w)
    rw [E]
    clear E NB nb
    unfold lyv at *
    revert EL Y
    generalize n + 1 = n2
    generalize 2 * bN lo hi = b2
    generalize bN lo hi = bb
    intro EL Y
    have R0 := hide (Row.new w1 92 [.int .i64 0, .int .i64 0, .int .i64 0])
    go_wp2_with (first
      | (refine wp_store_whole rfl 92 _ _ rfl w1.heap.size rfl [.int .i64 (n2 : Int), .int .i64 (bb : Int), .int .i64 (b2 : Int)] rfl R0.out infoLy rfl (three_ints _ _ _) ?_; rintro w9 h9
         have E9 := hide (lay_put w1 _ _ _ h9)
         have d0 := E9.out.1.cell (i := 0) rfl
         have d1 := E9.out.1.cell (i := 1) rfl
         have d2 := E9.out.1.cell (i := 2) rfl
         clear h9))
    refine (Y.out _).mono ?_
    rintro e w3 ⟨rfl, o3⟩
    have O3 := O1.out.trans (E9.out.2.trans o3)
    clear d0 d1 d2 E9 o3 O1 R0
    go_wp2
    go_ret2
    exact ⟨by rw [EL.out]; rfl, O3⟩
  · have E : layS s lo hi n = lyv 0 0 0 := by unfold layS; rw [if_neg hs]
    have EL : Hid (lenS s lo hi es = 0) := by show _ = _; unfold lenS; rw [if_neg hs]
    have t : (s != 0) = true := by simpa using hs
    rw [E]
    clear E NB hs
    unfold lyv
    have R0 := hide (Row.new w1 92 [.int .i64 0, .int .i64 0, .int .i64 0])
    go_wp2_with (first
      | (refine wp_store_whole rfl 92 _ _ rfl w1.heap.size rfl [.int .i64 ((0 : Nat) : Int), .int .i64 ((0 : Nat) : Int), .int .i64 ((0 : Nat) : Int)] rfl R0.out infoLy rfl (three_ints _ _ _) ?_; rintro w9 h9
         have O3 := O1.out.trans (lay_put w1 _ _ _ h9).2
         clear h9))
    go_ret2
    exact ⟨by rw [EL.out]; rfl, O3⟩
end Go.Proofs.Ythaaajepolahfaa
