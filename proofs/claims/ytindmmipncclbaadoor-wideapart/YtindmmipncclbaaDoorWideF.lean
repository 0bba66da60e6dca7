/-
  Package wide: what lastGroup answers: a number parted by 10^19.
-/
import Derived.Test.YtindmmipncclbaaDoorWideE
namespace Go.Proofs.YtindmmipncclbaaDoor
open Go.RowKit Wd
set_option linter.unusedVariables false

theorem results_struct2 {P : Program} {fn : Func} {p q : Tmp} {ty : TypeId} (h : fn.results = #[.cell p ty, .tmp q]) {tmps : Array Value} {w : World} {g : Nat} {t : TypeId} {vs : List Value} {d : TypeDesc} {v : Value}
    (hp : tmps.getD p undef = .pointer (some ⟨g, 0, none⟩)) (hq : tmps.getD q undef = v) (R : Row w g t vs)
    (hu : P.underlying ty = some d) (hd : (match d with | .struct _ | .array _ _ => true | _ => false) = true) (hi : (P.info? ty).map (·.size) = some vs.length) :
    (results fn tmps).run P w = .ok (.tuple #[.agg vs.toArray, v]) w := by
  have hp' : tmps[p]?.getD undef = .pointer (some ⟨g, 0, none⟩) := by simpa using hp
  have hq' : tmps[q]?.getD undef = v := by simpa using hq
  simp [results, h, hp', hq', asAddr, run_loadVar_row w g t ty vs.toArray (0, 0) d R hu hd (by simpa using hi)]

theorem Div19_any (h l : Nat) (hh : h < 10000000000000000000) (hl : l < 18446744073709551616) (w : World) :
    Calls Tryd.prog 33 #[.int .u64 (h : Nat), .int .u64 (l : Nat), .int .u64 10000000000000000000] w fun e w' => e = .returned (.tuple #[.int .u64 (((h * 18446744073709551616 + l) / 10000000000000000000 : Nat) : Int), .int .u64 (((h * 18446744073709551616 + l) % 10000000000000000000 : Nat) : Int)]) ∧ Old w w' := by
  rcases Nat.eq_zero_or_pos h with rfl | h0
  · have := Div0_any l hl w
    rw [show 0 * 18446744073709551616 + l = l by omega]
    exact this
  · exact (Div_any h l hh h0 hl w).mono fun e w' ⟨h1, h2⟩ => ⟨h1, h2 ▸ Old.refl _⟩

theorem group_parts {x : Nat} (hx : x < M) : hi (x / 10000000000000000000) = hi x / 10000000000000000000 ∧ lo (x / 10000000000000000000) = (hi x % 10000000000000000000 * 18446744073709551616 + lo x) / 10000000000000000000 ∧ x % 10000000000000000000 = (hi x % 10000000000000000000 * 18446744073709551616 + lo x) % 10000000000000000000 := by
  have sx := split_hl hx
  have hl := lo_lt x
  have hhi := hi_lt x
  obtain ⟨q, hq⟩ : ∃ q, q = hi x / 10000000000000000000 := ⟨_, rfl⟩
  obtain ⟨r, hr⟩ : ∃ r, r = hi x % 10000000000000000000 := ⟨_, rfl⟩
  have rl : r < 10000000000000000000 := by rw [hr]; exact Nat.mod_lt _ (by omega)
  rw [← hq, ← hr]
  obtain ⟨q', hq'⟩ : ∃ q', q' = (r * 18446744073709551616 + lo x) / 10000000000000000000 := ⟨_, rfl⟩
  obtain ⟨r', hr'⟩ : ∃ r', r' = (r * 18446744073709551616 + lo x) % 10000000000000000000 := ⟨_, rfl⟩
  have rl' : r' < 10000000000000000000 := by rw [hr']; exact Nat.mod_lt _ (by omega)
  have ql' : q' < 18446744073709551616 := by rw [hq']; exact D19.quo_lt (by omega) (by omega)
  have a1 := D19.quo_rem hq hr
  have a2 := D19.quo_rem hq' hr'
  rw [← hq', ← hr']
  have a3 : x = (q * 18446744073709551616 + q') * 10000000000000000000 + r' := by
    conv => lhs; rw [sx, a1, Nat.add_mul, Nat.add_assoc, a2]
    rw [Nat.add_mul, Nat.mul_right_comm, Nat.add_assoc]
  obtain ⟨b1, b2⟩ := D19.unique a3 rl'
  rw [b1, b2]
  have ql : q < 18446744073709551616 := by rw [hq]; exact Nat.lt_of_le_of_lt (Nat.div_le_self _ _) hhi
  clear a1 a2 a3 b1 b2 hq hr hq' hr' sx
  refine ⟨?_, ?_, rfl⟩
  · unfold hi; omega
  · unfold lo; omega

set_option maxHeartbeats 1000000 in
theorem group_any (x : Nat) (hx : x < M) (w : World) :
    Calls Tryd.prog 29 #[wv x] w fun e w' => e = .returned (.tuple #[wv (x / 10000000000000000000), .int .u64 ((x % 10000000000000000000 : Nat) : Int)]) ∧ Old w w' := by
  obtain ⟨p1, p2, p3⟩ := group_parts hx
  have C1 := hide (fun w => Div19_any 0 (hi x) (by omega) (hi_lt x) w)
  rw [show 0 * 18446744073709551616 + hi x = hi x by omega, show ((0 : Nat) : Int) = 0 from rfl, ← p1] at C1
  have C2 := hide (fun w => Div19_any (hi x % 10000000000000000000) (lo x) (Nat.mod_lt _ (by omega)) (lo_lt x) w)
  rw [← p2, ← p3] at C2
  unfold wv
  clear p1 p2 p3
  revert C1 C2
  generalize hi (x / 10000000000000000000) = s
  generalize lo (x / 10000000000000000000) = t
  generalize hi x % 10000000000000000000 = m
  generalize x % 10000000000000000000 = z
  generalize hi x = h
  generalize lo x = l
  intro C1 C2
  have R0 := hide (Row.new w 24 [.int .u64 (h : Nat), .int .u64 (l : Nat)])
  have O0 := Old.of_alloc w (.cells #[.int .u64 (h : Nat), .int .u64 (l : Nat)] 24)
  have R1 := hide (Row.new (w.alloc (.cells #[.int .u64 (h : Nat), .int .u64 (l : Nat)] 24)) 24 [.int .u64 0, .int .u64 0])
  rw [size_allocW] at R1
  go_enter Tryd.func29, Tryd.ntmps29
  go_wp2_with fail
  refine (C1.out _).mono ?_
  rintro e w1 ⟨rfl, o1⟩
  have o2 := (Old.of_alloc (w.alloc (.cells #[.int .u64 (h : Nat), .int .u64 (l : Nat)] 24)) (.cells #[.int .u64 0, .int .u64 0] 24)).trans o1
  have R2 := hide (R0.out.mono o2)
  have R3 := hide (R1.out.mono o1)
  have O1 := O0.trans o2
  clear o1 o2 R0 R1 O0
  have c1 := R2.out.cell (i := 1) rfl
  go_wp2_with fail
  refine (C2.out _).mono ?_
  rintro e w2 ⟨rfl, o2⟩
  have R4 := hide (R3.out.mono o2)
  have O2 := O1.trans o2
  clear o2 R2 R3 O1 c1
  go_wp2_with (refine wp_store_whole rfl 24 _ _ rfl (w.heap.size + 1) rfl [.int .u64 (s : Nat), .int .u64 (t : Nat)] rfl R4.out infoW rfl (two_ints _ _) ?_; rintro w9 h9
               have E9 : Row w9 (w.heap.size + 1) 24 [.int .u64 (s : Nat), .int .u64 (t : Nat)] ∧ Old w w9 := by subst h9; exact ⟨R4.out.whole _, O2.grown (grown_setRow _ _ _) (by omega)⟩
               clear h9 R4 O2)
  exact bodyPost_ret (v := .tuple #[.agg #[.int .u64 (s : Nat), .int .u64 (t : Nat)], .int .u64 (z : Nat)]) (results_struct2 rfl rfl rfl E9.1 Tryd.underlying24 rfl infoW) rfl ⟨rfl, E9.2⟩
end Go.Proofs.YtindmmipncclbaaDoor
