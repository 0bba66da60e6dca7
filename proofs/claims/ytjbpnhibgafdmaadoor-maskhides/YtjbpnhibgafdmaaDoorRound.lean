/-
  (*cipher.state).doubleRound: eight quarter rounds, at the places of the package's table.
-/
import Derived.Test.YtjbpnhibgafdmaaDoorQuart
import Derived.Test.YtjbpnhibgafdmaaDoorSsaOps
import Derived.Laws.Rows
namespace Go.Proofs.YtjbpnhibgafdmaaDoor
open Go.RowKit Cha
set_option linter.unusedVariables false

def qtab : Array Value := #[.int .i64 0, .int .i64 4, .int .i64 8, .int .i64 12, .int .i64 1, .int .i64 5, .int .i64 9, .int .i64 13, .int .i64 2, .int .i64 6, .int .i64 10, .int .i64 14, .int .i64 3, .int .i64 7, .int .i64 11, .int .i64 15, .int .i64 0, .int .i64 5, .int .i64 10, .int .i64 15, .int .i64 1, .int .i64 6, .int .i64 11, .int .i64 12, .int .i64 2, .int .i64 7, .int .i64 8, .int .i64 13, .int .i64 3, .int .i64 4, .int .i64 9, .int .i64 14]
/-- The package's table lies in the world as its initialiser lays it. -/
def QTab (w : World) : Prop := ∃ t fr, w.heap[0]? = some (.cells qtab t fr)

/-- Four places, each below 16, none twice. -/
structure Apart (p : Nat × Nat × Nat × Nat) : Prop where
  a : p.1 < 16
  b : p.2.1 < 16
  c : p.2.2.1 < 16
  d : p.2.2.2 < 16
  ab : p.1 ≠ p.2.1
  ac : p.1 ≠ p.2.2.1
  ad : p.1 ≠ p.2.2.2
  bc : p.2.1 ≠ p.2.2.1
  bd : p.2.1 ≠ p.2.2.2
  cd : p.2.2.1 ≠ p.2.2.2

theorem qtabAt (k : Nat) (hk : k < 8) : ∃ p : Nat × Nat × Nat × Nat, places[k]? = some p ∧ Apart p ∧
    ∀ w : World, (Instr.index 99 (.agg qtab) (.int .i64 (k : Nat))).run Tryd.prog w = .ok (.agg #[.int .i64 (p.1 : Nat), .int .i64 (p.2.1 : Nat), .int .i64 (p.2.2.1 : Nat), .int .i64 (p.2.2.2 : Nat)]) w := by
  match k, hk with
  | 0, _ => exact ⟨(0, 4, 8, 12), rfl, by constructor <;> simp, fun w => by kernel_rfl⟩
  | 1, _ => exact ⟨(1, 5, 9, 13), rfl, by constructor <;> simp, fun w => by kernel_rfl⟩
  | 2, _ => exact ⟨(2, 6, 10, 14), rfl, by constructor <;> simp, fun w => by kernel_rfl⟩
  | 3, _ => exact ⟨(3, 7, 11, 15), rfl, by constructor <;> simp, fun w => by kernel_rfl⟩
  | 4, _ => exact ⟨(0, 5, 10, 15), rfl, by constructor <;> simp, fun w => by kernel_rfl⟩
  | 5, _ => exact ⟨(1, 6, 11, 12), rfl, by constructor <;> simp, fun w => by kernel_rfl⟩
  | 6, _ => exact ⟨(2, 7, 8, 13), rfl, by constructor <;> simp, fun w => by kernel_rfl⟩
  | 7, _ => exact ⟨(3, 4, 9, 14), rfl, by constructor <;> simp, fun w => by kernel_rfl⟩

set_option maxHeartbeats 1000000 in
set_option maxRecDepth 20000 in
theorem doubleRound_any (g : Nat) (s : List Nat) (hs : s.length = 16) (hb : ∀ x ∈ s, x < 4294967296) (w : World) (ht : QTab w) (row : Row w g 90 (nums .u32 s)) :
    Calls Tryd.prog 58 #[.pointer (some ⟨g, 0, none⟩)] w fun e w' =>
      e = .returned (.tuple #[]) ∧ Row w' g 90 (nums .u32 (double s)) ∧ w.grownBy w' (some g) := by
  obtain ⟨t, fr, hr⟩ := ht
  have HS := hide hs
  have HB := hide hb
  clear hs hb
  go_enter Tryd.func58, Tryd.ntmps58
  go_wp2_with (refine wpList_load_row rfl 99 _ rfl 0 rfl t _ fr _ hr Tryd.underlying99 rfl (by kernel_rfl) ?_)
  go_loopw [5] (fun vi wr => ∃ k : Nat, k ≤ 8 ∧ vi = .int .i64 (k : Nat) ∧ Row wr g 90 (nums .u32 (rounds (places.take k) s)) ∧ w.grownBy wr (some g)) (fun vi _ => (8 - intOf vi).toNat)
  case atStart => exact ⟨0, by omega, rfl, row, World.grownBy.refl _ _⟩
  case round =>
    obtain ⟨k, hk, rfl, hrow, hgr⟩ := hrel
    by_cases hk8 : k = 8
    · subst hk8
      go_wp2
      go_end0
      exact ⟨rfl, hrow, hgr⟩
    · obtain ⟨p, hp1, hp2, hp3⟩ := qtabAt k (by omega)
      have hb : decide ((k : Int) < 8) = true := decide_eq_true (by omega)
      have HP := hide hp1
      have HA := hide hp2
      clear hp1 hp2
      go_wp2_with fail
      obtain ⟨p0, p1, p2, p3⟩ := p
      have HZ : Hid ((rounds (places.take k) s).length = 16) := (rounds_length _ _).trans HS.out
      have HZB : Hid (∀ x ∈ rounds (places.take k) s, x < 4294967296) := rounds_lt _ HB.out
      have HK := hide (rounds_take k s HP.out)
      revert hrow HZ HZB HK
      generalize rounds (places.take k) s = z
      intro hrow HZ HZB HK
      have hgl := hrow.lt
      obtain ⟨W0, hW0⟩ : ∃ W0, W0 = (wr.alloc (.cells #[.int .i64 (p0 : Nat), .int .i64 (p1 : Nat), .int .i64 (p2 : Nat), .int .i64 (p3 : Nat)] 98)).drewN 1 := ⟨_, rfl⟩
      have R0 : Row W0 g 90 (nums .u32 z) := by rw [hW0]; exact (hrow.mono (Old.of_alloc _ _)).drewN 1
      have O0 : Old wr W0 := by rw [hW0]; exact (Old.of_alloc _ _).drewN 1
      have l0 : p0 < 16 := HA.out.a
      have l1 : p1 < 16 := HA.out.b
      have l2 : p2 < 16 := HA.out.c
      have l3 : p3 < 16 := HA.out.d
      obtain ⟨x0, X0⟩ : ∃ x, x = at_ z p0 := ⟨_, rfl⟩
      obtain ⟨x1, X1⟩ : ∃ x, x = at_ z p1 := ⟨_, rfl⟩
      obtain ⟨x2, X2⟩ : ∃ x, x = at_ z p2 := ⟨_, rfl⟩
      obtain ⟨x3, X3⟩ : ∃ x, x = at_ z p3 := ⟨_, rfl⟩
      have b0 : x0 < 4294967296 := by rw [X0]; exact at_lt HZB.out _
      have b1 : x1 < 4294967296 := by rw [X1]; exact at_lt HZB.out _
      have b2 : x2 < 4294967296 := by rw [X2]; exact at_lt HZB.out _
      have b3 : x3 < 4294967296 := by rw [X3]; exact at_lt HZB.out _
      obtain ⟨W1, hW1⟩ : ∃ W, W = W0.setCell ⟨g, p0, none⟩ (.int .u32 (qA x0 x1 x2 x3 : Nat)) := ⟨_, rfl⟩
      obtain ⟨W2, hW2⟩ : ∃ W, W = W1.setCell ⟨g, p1, none⟩ (.int .u32 (qB x0 x1 x2 x3 : Nat)) := ⟨_, rfl⟩
      obtain ⟨W3, hW3⟩ : ∃ W, W = W2.setCell ⟨g, p2, none⟩ (.int .u32 (qC x0 x1 x2 x3 : Nat)) := ⟨_, rfl⟩
      obtain ⟨W4, hW4⟩ : ∃ W, W = W3.setCell ⟨g, p3, none⟩ (.int .u32 (qD x0 x1 x2 x3 : Nat)) := ⟨_, rfl⟩
      have R1 : Row W1 g 90 (nums .u32 (z.set p0 (qA x0 x1 x2 x3))) := by rw [hW1, ← nums_set]; exact R0.set _ _
      have R2 : Row W2 g 90 (nums .u32 ((z.set p0 (qA x0 x1 x2 x3)).set p1 (qB x0 x1 x2 x3))) := by rw [hW2, ← nums_set]; exact R1.set _ _
      have R3 : Row W3 g 90 (nums .u32 (((z.set p0 (qA x0 x1 x2 x3)).set p1 (qB x0 x1 x2 x3)).set p2 (qC x0 x1 x2 x3))) := by rw [hW3, ← nums_set]; exact R2.set _ _
      have R4 : Row W4 g 90 (nums .u32 (rounds (places.take (k + 1)) s)) := by
        rw [HK.out, hW4, X0, X1, X2, X3]
        rw [X0, X1, X2, X3] at R3
        unfold quart
        rw [← nums_set]; exact R3.set _ _
      have G4 : W0.grownBy W4 (some g) := by
        rw [hW4, hW3, hW2, hW1]
        exact grown_trans (grown_trans (grown_trans (grown_set _ _ _ _) (grown_set _ _ _ _)) (grown_set _ _ _ _)) (grown_set _ _ _ _)
      have hsome : ∀ {W : World} {l : List Nat} {q : Nat}, Row W g 90 (nums .u32 l) → l.length = 16 → q < 16 → ∃ o, W.cell? ⟨g, q, none⟩ = some o ∧ W.frozen? ⟨g, q, none⟩ = false := by
        intro W l q R hl hq
        obtain ⟨y, _, hy⟩ := R.num (i := q) (by omega)
        exact ⟨_, hy, R.free q⟩
      obtain ⟨o0, e0⟩ := hsome R0 HZ.out l0
      obtain ⟨o1, e1⟩ := hsome R1 (by simpa using HZ.out) l1
      obtain ⟨o2, e2⟩ := hsome R2 (by simpa using HZ.out) l2
      obtain ⟨o3, e3⟩ := hsome R3 (by simpa using HZ.out) l3
      have hs0 : ∀ w, Ssa.stages [W0, W1, W2, W3, W4] 0 w → w.cell? ⟨g, p0, none⟩ = some o0 ∧ w.frozen? ⟨g, p0, none⟩ = false := fun w hw => by rw [show w = W0 from hw]; exact e0
      have hs1 : ∀ w, Ssa.stages [W0, W1, W2, W3, W4] 1 w → w.cell? ⟨g, p1, none⟩ = some o1 ∧ w.frozen? ⟨g, p1, none⟩ = false := fun w hw => by rw [show w = W1 from hw]; exact e1
      have hs2 : ∀ w, Ssa.stages [W0, W1, W2, W3, W4] 2 w → w.cell? ⟨g, p2, none⟩ = some o2 ∧ w.frozen? ⟨g, p2, none⟩ = false := fun w hw => by rw [show w = W2 from hw]; exact e2
      have hs3 : ∀ w, Ssa.stages [W0, W1, W2, W3, W4] 3 w → w.cell? ⟨g, p3, none⟩ = some o3 ∧ w.frozen? ⟨g, p3, none⟩ = false := fun w hw => by rw [show w = W3 from hw]; exact e3
      have hxg : ∀ {q x : Nat}, x = at_ z q → q < 16 → ∀ w, Ssa.stages [W0, W1, W2, W3, W4] 0 w → w.cell? ⟨g, q, none⟩ = some (.int .u32 (x : Nat)) := by
        intro q x hx hq w hw
        rw [show w = W0 from hw, hx]
        refine R0.cell ?_
        have := HZ.out
        have hq' : q < z.length := by omega
        simp [nums, at_, hq']
      have hx0 := hxg X0 l0
      have hx1 := hxg X1 l1
      have hx2 := hxg X2 l2
      have hx3 := hxg X3 l3
      have hpg : ∀ {j : Nat} {v : Value}, W0.cell? ⟨wr.heap.size, j, none⟩ = some v → ∀ s w, Ssa.stages [W0, W1, W2, W3, W4] s w → w.cell? ⟨wr.heap.size, j, none⟩ = some v := by
        intro j v hv s w hw
        have ne : ∀ (W : World) (q : Nat) (u : Value), (W.setCell ⟨g, q, none⟩ u).cell? ⟨wr.heap.size, j, none⟩ = W.cell? ⟨wr.heap.size, j, none⟩ := by
          intro W q u
          unfold World.cell?
          rw [show (W.setCell ⟨g, q, none⟩ u).heap[wr.heap.size]? = W.heap[wr.heap.size]? from heap_setCell_other _ _ _ _ (by simp; omega)]
        match s, hw with
        | 0, hw => rw [show w = W0 from hw]; exact hv
        | 1, hw => rw [show w = W1 from hw, hW1, ne]; exact hv
        | 2, hw => rw [show w = W2 from hw, hW2, ne, hW1, ne]; exact hv
        | 3, hw => rw [show w = W3 from hw, hW3, ne, hW2, ne, hW1, ne]; exact hv
        | 4, hw => rw [show w = W4 from hw, hW4, ne, hW3, ne, hW2, ne, hW1, ne]; exact hv
      have hrowp : Row W0 wr.heap.size 98 [.int .i64 (p0 : Nat), .int .i64 (p1 : Nat), .int .i64 (p2 : Nat), .int .i64 (p3 : Nat)] := by
        rw [hW0]; exact (Row.new wr _ _).drewN 1
      have hp0 := hpg (hrowp.cell (i := 0) rfl)
      have hp1 := hpg (hrowp.cell (i := 1) rfl)
      have hp2 := hpg (hrowp.cell (i := 2) rfl)
      have hp3 := hpg (hrowp.cell (i := 3) rfl)
      have szI : (Tryd.prog.info? 3).map (·.size) = some 1 := by kernel_rfl
      have szU : (Tryd.prog.info? 41).map (·.size) = some 1 := by kernel_rfl
      refine Ssa.region_put [44, 47, 50, 53] [14, 17, 20, 23, 26, 29, 32, 35, 36] [(9, .pointer (some ⟨g, 0, none⟩)), (10, .pointer (some ⟨wr.heap.size, 0, none⟩)), (11, .int .i64 (p0 : Nat)), (12, .pointer (some ⟨g, 0, none⟩)), (13, .pointer (some ⟨wr.heap.size, 1, none⟩)), (14, .int .i64 (p1 : Nat)), (15, .pointer (some ⟨g, 0, none⟩)), (16, .pointer (some ⟨wr.heap.size, 2, none⟩)), (17, .int .i64 (p2 : Nat)), (18, .pointer (some ⟨g, 0, none⟩)), (19, .pointer (some ⟨wr.heap.size, 3, none⟩)), (20, .int .i64 (p3 : Nat)), (21, .pointer (some ⟨g, 0, none⟩)), (22, .pointer (some ⟨wr.heap.size, 0, none⟩)), (23, .int .i64 (p0 : Nat)), (24, .pointer (some ⟨g, 0, none⟩)), (25, .pointer (some ⟨g, p0, none⟩)), (26, .int .u32 (x0 : Nat)), (27, .pointer (some ⟨g, 0, none⟩)), (28, .pointer (some ⟨wr.heap.size, 1, none⟩)), (29, .int .i64 (p1 : Nat)), (30, .pointer (some ⟨g, 0, none⟩)), (31, .pointer (some ⟨g, p1, none⟩)), (32, .int .u32 (x1 : Nat)), (33, .pointer (some ⟨g, 0, none⟩)), (34, .pointer (some ⟨wr.heap.size, 2, none⟩)), (35, .int .i64 (p2 : Nat)), (36, .pointer (some ⟨g, 0, none⟩)), (37, .pointer (some ⟨g, p2, none⟩)), (38, .int .u32 (x2 : Nat)), (39, .pointer (some ⟨g, 0, none⟩)), (40, .pointer (some ⟨wr.heap.size, 3, none⟩)), (41, .int .i64 (p3 : Nat)), (42, .pointer (some ⟨g, 0, none⟩)), (43, .pointer (some ⟨g, p3, none⟩)), (44, .int .u32 (x3 : Nat)), (45, .tuple #[.int .u32 (qA x0 x1 x2 x3 : Nat), .int .u32 (qB x0 x1 x2 x3 : Nat), .int .u32 (qC x0 x1 x2 x3 : Nat), .int .u32 (qD x0 x1 x2 x3 : Nat)]), (8, .tuple #[.int .u32 (qA x0 x1 x2 x3 : Nat), .int .u32 (qB x0 x1 x2 x3 : Nat), .int .u32 (qC x0 x1 x2 x3 : Nat), .int .u32 (qD x0 x1 x2 x3 : Nat)]), (46, .int .u32 (qA x0 x1 x2 x3 : Nat)), (47, .int .u32 (qB x0 x1 x2 x3 : Nat)), (48, .int .u32 (qC x0 x1 x2 x3 : Nat)), (49, .int .u32 (qD x0 x1 x2 x3 : Nat)), (50, .pointer (some ⟨g, 0, none⟩)), (51, .pointer (some ⟨g, p0, none⟩)), (52, .pointer (some ⟨g, 0, none⟩)), (53, .pointer (some ⟨g, p1, none⟩)), (54, .pointer (some ⟨g, 0, none⟩)), (55, .pointer (some ⟨g, p2, none⟩)), (56, .pointer (some ⟨g, 0, none⟩)), (57, .pointer (some ⟨g, p3, none⟩))] (Ssa.stages [W0, W1, W2, W3, W4]) (by kernel_rfl) (by kernel_rfl) (by kernel_rfl) hW0.symm (fun af haf => ?asked) ?behind
      case asked =>
        have f0 : af.tmps[0]? = some (.pointer (some ⟨g, 0, none⟩)) := by rw [haf]; kernel_rfl
        have f3 : af.tmps[3]? = some (.pointer (some ⟨wr.heap.size, 0, none⟩)) := by rw [haf]; kernel_rfl
        have f9 : af.tmps[9]? = some (.pointer (some ⟨g, 0, none⟩)) := by rw [haf]; kernel_rfl
        have f10 : af.tmps[10]? = some (.pointer (some ⟨wr.heap.size, 0, none⟩)) := by rw [haf]; kernel_rfl
        have f11 : af.tmps[11]? = some (.int .i64 (p0 : Nat)) := by rw [haf]; kernel_rfl
        have f12 : af.tmps[12]? = some (.pointer (some ⟨g, 0, none⟩)) := by rw [haf]; kernel_rfl
        have f13 : af.tmps[13]? = some (.pointer (some ⟨wr.heap.size, 1, none⟩)) := by rw [haf]; kernel_rfl
        have f14 : af.tmps[14]? = some (.int .i64 (p1 : Nat)) := by rw [haf]; kernel_rfl
        have f15 : af.tmps[15]? = some (.pointer (some ⟨g, 0, none⟩)) := by rw [haf]; kernel_rfl
        have f16 : af.tmps[16]? = some (.pointer (some ⟨wr.heap.size, 2, none⟩)) := by rw [haf]; kernel_rfl
        have f17 : af.tmps[17]? = some (.int .i64 (p2 : Nat)) := by rw [haf]; kernel_rfl
        have f18 : af.tmps[18]? = some (.pointer (some ⟨g, 0, none⟩)) := by rw [haf]; kernel_rfl
        have f19 : af.tmps[19]? = some (.pointer (some ⟨wr.heap.size, 3, none⟩)) := by rw [haf]; kernel_rfl
        have f20 : af.tmps[20]? = some (.int .i64 (p3 : Nat)) := by rw [haf]; kernel_rfl
        have f21 : af.tmps[21]? = some (.pointer (some ⟨g, 0, none⟩)) := by rw [haf]; kernel_rfl
        have f22 : af.tmps[22]? = some (.pointer (some ⟨wr.heap.size, 0, none⟩)) := by rw [haf]; kernel_rfl
        have f23 : af.tmps[23]? = some (.int .i64 (p0 : Nat)) := by rw [haf]; kernel_rfl
        have f24 : af.tmps[24]? = some (.pointer (some ⟨g, 0, none⟩)) := by rw [haf]; kernel_rfl
        have f25 : af.tmps[25]? = some (.pointer (some ⟨g, p0, none⟩)) := by rw [haf]; kernel_rfl
        have f26 : af.tmps[26]? = some (.int .u32 (x0 : Nat)) := by rw [haf]; kernel_rfl
        have f27 : af.tmps[27]? = some (.pointer (some ⟨g, 0, none⟩)) := by rw [haf]; kernel_rfl
        have f28 : af.tmps[28]? = some (.pointer (some ⟨wr.heap.size, 1, none⟩)) := by rw [haf]; kernel_rfl
        have f29 : af.tmps[29]? = some (.int .i64 (p1 : Nat)) := by rw [haf]; kernel_rfl
        have f30 : af.tmps[30]? = some (.pointer (some ⟨g, 0, none⟩)) := by rw [haf]; kernel_rfl
        have f31 : af.tmps[31]? = some (.pointer (some ⟨g, p1, none⟩)) := by rw [haf]; kernel_rfl
        have f32 : af.tmps[32]? = some (.int .u32 (x1 : Nat)) := by rw [haf]; kernel_rfl
        have f33 : af.tmps[33]? = some (.pointer (some ⟨g, 0, none⟩)) := by rw [haf]; kernel_rfl
        have f34 : af.tmps[34]? = some (.pointer (some ⟨wr.heap.size, 2, none⟩)) := by rw [haf]; kernel_rfl
        have f35 : af.tmps[35]? = some (.int .i64 (p2 : Nat)) := by rw [haf]; kernel_rfl
        have f36 : af.tmps[36]? = some (.pointer (some ⟨g, 0, none⟩)) := by rw [haf]; kernel_rfl
        have f37 : af.tmps[37]? = some (.pointer (some ⟨g, p2, none⟩)) := by rw [haf]; kernel_rfl
        have f38 : af.tmps[38]? = some (.int .u32 (x2 : Nat)) := by rw [haf]; kernel_rfl
        have f39 : af.tmps[39]? = some (.pointer (some ⟨g, 0, none⟩)) := by rw [haf]; kernel_rfl
        have f40 : af.tmps[40]? = some (.pointer (some ⟨wr.heap.size, 3, none⟩)) := by rw [haf]; kernel_rfl
        have f41 : af.tmps[41]? = some (.int .i64 (p3 : Nat)) := by rw [haf]; kernel_rfl
        have f42 : af.tmps[42]? = some (.pointer (some ⟨g, 0, none⟩)) := by rw [haf]; kernel_rfl
        have f43 : af.tmps[43]? = some (.pointer (some ⟨g, p3, none⟩)) := by rw [haf]; kernel_rfl
        have f44 : af.tmps[44]? = some (.int .u32 (x3 : Nat)) := by rw [haf]; kernel_rfl
        have f45 : af.tmps[45]? = some (.tuple #[.int .u32 (qA x0 x1 x2 x3 : Nat), .int .u32 (qB x0 x1 x2 x3 : Nat), .int .u32 (qC x0 x1 x2 x3 : Nat), .int .u32 (qD x0 x1 x2 x3 : Nat)]) := by rw [haf]; kernel_rfl
        have f8 : af.tmps[8]? = some (.tuple #[.int .u32 (qA x0 x1 x2 x3 : Nat), .int .u32 (qB x0 x1 x2 x3 : Nat), .int .u32 (qC x0 x1 x2 x3 : Nat), .int .u32 (qD x0 x1 x2 x3 : Nat)]) := by rw [haf]; kernel_rfl
        have f46 : af.tmps[46]? = some (.int .u32 (qA x0 x1 x2 x3 : Nat)) := by rw [haf]; kernel_rfl
        have f47 : af.tmps[47]? = some (.int .u32 (qB x0 x1 x2 x3 : Nat)) := by rw [haf]; kernel_rfl
        have f48 : af.tmps[48]? = some (.int .u32 (qC x0 x1 x2 x3 : Nat)) := by rw [haf]; kernel_rfl
        have f49 : af.tmps[49]? = some (.int .u32 (qD x0 x1 x2 x3 : Nat)) := by rw [haf]; kernel_rfl
        have f50 : af.tmps[50]? = some (.pointer (some ⟨g, 0, none⟩)) := by rw [haf]; kernel_rfl
        have f51 : af.tmps[51]? = some (.pointer (some ⟨g, p0, none⟩)) := by rw [haf]; kernel_rfl
        have f52 : af.tmps[52]? = some (.pointer (some ⟨g, 0, none⟩)) := by rw [haf]; kernel_rfl
        have f53 : af.tmps[53]? = some (.pointer (some ⟨g, p1, none⟩)) := by rw [haf]; kernel_rfl
        have f54 : af.tmps[54]? = some (.pointer (some ⟨g, 0, none⟩)) := by rw [haf]; kernel_rfl
        have f55 : af.tmps[55]? = some (.pointer (some ⟨g, p2, none⟩)) := by rw [haf]; kernel_rfl
        have f56 : af.tmps[56]? = some (.pointer (some ⟨g, 0, none⟩)) := by rw [haf]; kernel_rfl
        have f57 : af.tmps[57]? = some (.pointer (some ⟨g, p3, none⟩)) := by rw [haf]; kernel_rfl
        clear haf
        have hcall : ∀ w, (execOp af.eval { dst := some 45, op := .call { callee := .value (.func 64), args := #[.tmp 26, .tmp 32, .tmp 38, .tmp 44], argTypes := #[41, 41, 41, 41] }, type := 100, pos := "cipher.go:39", after := #[⟨17, .data⟩, ⟨23, .data⟩, ⟨29, .data⟩, ⟨35, .data⟩], guard := none }).run Tryd.prog w = .ok (.enter 64 #[.int .u32 (x0 : Nat), .int .u32 (x1 : Nat), .int .u32 (x2 : Nat), .int .u32 (x3 : Nat)]) w := by
          intro w
          simp [f26, f32, f38, f44, go_sem]
        refine And.intro (Ssa.any_of rfl rfl fun s _ => Ssa.good_of (d := 9) (.pointer (some ⟨g, 0, none⟩)) rfl f9 fun w hw => Ssa.run_mv rfl (Ssa.ev f0) w) ?_
        refine And.intro (Ssa.any_of rfl rfl fun s _ => Ssa.good_of (d := 10) (.pointer (some ⟨wr.heap.size, 0, none⟩)) rfl f10 fun w hw => Ssa.run_addr 98 _ _ 4 3 rfl wr.heap.size 0 (Ssa.ev f3) rfl (by decide) Tryd.underlying98 szI w) ?_
        refine And.intro (Ssa.any_of rfl rfl fun s _ => Ssa.good_of (d := 11) (.int .i64 (p0 : Nat)) rfl f11 fun w hw => Ssa.run_load 3 _ _ rfl ⟨wr.heap.size, 0, none⟩ _ (Ssa.ev f10) Tryd.underlying3 rfl w (hp0 _ w hw)) ?_
        refine And.intro (Ssa.any_of rfl rfl fun s _ => Ssa.good_of (d := 12) (.pointer (some ⟨g, 0, none⟩)) rfl f12 fun w hw => Ssa.run_mv rfl (Ssa.ev f0) w) ?_
        refine And.intro (Ssa.any_of rfl rfl fun s _ => Ssa.good_of (d := 13) (.pointer (some ⟨wr.heap.size, 1, none⟩)) rfl f13 fun w hw => Ssa.run_addr 98 _ _ 4 3 rfl wr.heap.size 1 (Ssa.ev f3) rfl (by decide) Tryd.underlying98 szI w) ?_
        refine And.intro (Ssa.any_of rfl rfl fun s _ => Ssa.good_of (d := 14) (.int .i64 (p1 : Nat)) rfl f14 fun w hw => Ssa.run_load 3 _ _ rfl ⟨wr.heap.size, 1, none⟩ _ (Ssa.ev f13) Tryd.underlying3 rfl w (hp1 _ w hw)) ?_
        refine And.intro (Ssa.any_of rfl rfl fun s _ => Ssa.good_of (d := 15) (.pointer (some ⟨g, 0, none⟩)) rfl f15 fun w hw => Ssa.run_mv rfl (Ssa.ev f0) w) ?_
        refine And.intro (Ssa.any_of rfl rfl fun s _ => Ssa.good_of (d := 16) (.pointer (some ⟨wr.heap.size, 2, none⟩)) rfl f16 fun w hw => Ssa.run_addr 98 _ _ 4 3 rfl wr.heap.size 2 (Ssa.ev f3) rfl (by decide) Tryd.underlying98 szI w) ?_
        refine And.intro (Ssa.any_of rfl rfl fun s _ => Ssa.good_of (d := 17) (.int .i64 (p2 : Nat)) rfl f17 fun w hw => Ssa.run_load 3 _ _ rfl ⟨wr.heap.size, 2, none⟩ _ (Ssa.ev f16) Tryd.underlying3 rfl w (hp2 _ w hw)) ?_
        refine And.intro (Ssa.any_of rfl rfl fun s _ => Ssa.good_of (d := 18) (.pointer (some ⟨g, 0, none⟩)) rfl f18 fun w hw => Ssa.run_mv rfl (Ssa.ev f0) w) ?_
        refine And.intro (Ssa.any_of rfl rfl fun s _ => Ssa.good_of (d := 19) (.pointer (some ⟨wr.heap.size, 3, none⟩)) rfl f19 fun w hw => Ssa.run_addr 98 _ _ 4 3 rfl wr.heap.size 3 (Ssa.ev f3) rfl (by decide) Tryd.underlying98 szI w) ?_
        refine And.intro (Ssa.any_of rfl rfl fun s _ => Ssa.good_of (d := 20) (.int .i64 (p3 : Nat)) rfl f20 fun w hw => Ssa.run_load 3 _ _ rfl ⟨wr.heap.size, 3, none⟩ _ (Ssa.ev f19) Tryd.underlying3 rfl w (hp3 _ w hw)) ?_
        refine And.intro (Ssa.any_of rfl rfl fun s _ => Ssa.good_of (d := 21) (.pointer (some ⟨g, 0, none⟩)) rfl f21 fun w hw => Ssa.run_mv rfl (Ssa.ev f0) w) ?_
        refine And.intro (Ssa.any_of rfl rfl fun s _ => Ssa.good_of (d := 22) (.pointer (some ⟨wr.heap.size, 0, none⟩)) rfl f22 fun w hw => Ssa.run_addr 98 _ _ 4 3 rfl wr.heap.size 0 (Ssa.ev f3) rfl (by decide) Tryd.underlying98 szI w) ?_
        refine And.intro (Ssa.early_of rfl rfl (Ssa.good_of (d := 23) (.int .i64 (p0 : Nat)) rfl f23 fun w hw => Ssa.run_load 3 _ _ rfl ⟨wr.heap.size, 0, none⟩ _ (Ssa.ev f22) Tryd.underlying3 rfl w (hp0 _ w hw))) ?_
        refine And.intro (Ssa.any_of rfl rfl fun s _ => Ssa.good_of (d := 24) (.pointer (some ⟨g, 0, none⟩)) rfl f24 fun w hw => Ssa.run_nil rfl (Ssa.ev f21) w) ?_
        refine And.intro (Ssa.any_of rfl rfl fun s _ => Ssa.good_of (d := 25) (.pointer (some ⟨g, p0, none⟩)) rfl f25 fun w hw => Ssa.run_addr 90 _ _ 16 41 rfl g p0 (Ssa.ev f24) (Ssa.ev f23) l0 Tryd.underlying90 szU w) ?_
        refine And.intro (Ssa.early_of rfl rfl (Ssa.good_of (d := 26) (.int .u32 (x0 : Nat)) rfl f26 fun w hw => Ssa.run_load 41 _ _ rfl ⟨g, p0, none⟩ _ (Ssa.ev f25) Tryd.underlying41 rfl w (hx0 w hw))) ?_
        refine And.intro (Ssa.any_of rfl rfl fun s _ => Ssa.good_of (d := 27) (.pointer (some ⟨g, 0, none⟩)) rfl f27 fun w hw => Ssa.run_mv rfl (Ssa.ev f0) w) ?_
        refine And.intro (Ssa.any_of rfl rfl fun s _ => Ssa.good_of (d := 28) (.pointer (some ⟨wr.heap.size, 1, none⟩)) rfl f28 fun w hw => Ssa.run_addr 98 _ _ 4 3 rfl wr.heap.size 1 (Ssa.ev f3) rfl (by decide) Tryd.underlying98 szI w) ?_
        refine And.intro (Ssa.early_of rfl rfl (Ssa.good_of (d := 29) (.int .i64 (p1 : Nat)) rfl f29 fun w hw => Ssa.run_load 3 _ _ rfl ⟨wr.heap.size, 1, none⟩ _ (Ssa.ev f28) Tryd.underlying3 rfl w (hp1 _ w hw))) ?_
        refine And.intro (Ssa.any_of rfl rfl fun s _ => Ssa.good_of (d := 30) (.pointer (some ⟨g, 0, none⟩)) rfl f30 fun w hw => Ssa.run_nil rfl (Ssa.ev f27) w) ?_
        refine And.intro (Ssa.any_of rfl rfl fun s _ => Ssa.good_of (d := 31) (.pointer (some ⟨g, p1, none⟩)) rfl f31 fun w hw => Ssa.run_addr 90 _ _ 16 41 rfl g p1 (Ssa.ev f30) (Ssa.ev f29) l1 Tryd.underlying90 szU w) ?_
        refine And.intro (Ssa.early_of rfl rfl (Ssa.good_of (d := 32) (.int .u32 (x1 : Nat)) rfl f32 fun w hw => Ssa.run_load 41 _ _ rfl ⟨g, p1, none⟩ _ (Ssa.ev f31) Tryd.underlying41 rfl w (hx1 w hw))) ?_
        refine And.intro (Ssa.any_of rfl rfl fun s _ => Ssa.good_of (d := 33) (.pointer (some ⟨g, 0, none⟩)) rfl f33 fun w hw => Ssa.run_mv rfl (Ssa.ev f0) w) ?_
        refine And.intro (Ssa.any_of rfl rfl fun s _ => Ssa.good_of (d := 34) (.pointer (some ⟨wr.heap.size, 2, none⟩)) rfl f34 fun w hw => Ssa.run_addr 98 _ _ 4 3 rfl wr.heap.size 2 (Ssa.ev f3) rfl (by decide) Tryd.underlying98 szI w) ?_
        refine And.intro (Ssa.early_of rfl rfl (Ssa.good_of (d := 35) (.int .i64 (p2 : Nat)) rfl f35 fun w hw => Ssa.run_load 3 _ _ rfl ⟨wr.heap.size, 2, none⟩ _ (Ssa.ev f34) Tryd.underlying3 rfl w (hp2 _ w hw))) ?_
        refine And.intro (Ssa.any_of rfl rfl fun s _ => Ssa.good_of (d := 36) (.pointer (some ⟨g, 0, none⟩)) rfl f36 fun w hw => Ssa.run_nil rfl (Ssa.ev f33) w) ?_
        refine And.intro (Ssa.any_of rfl rfl fun s _ => Ssa.good_of (d := 37) (.pointer (some ⟨g, p2, none⟩)) rfl f37 fun w hw => Ssa.run_addr 90 _ _ 16 41 rfl g p2 (Ssa.ev f36) (Ssa.ev f35) l2 Tryd.underlying90 szU w) ?_
        refine And.intro (Ssa.early_of rfl rfl (Ssa.good_of (d := 38) (.int .u32 (x2 : Nat)) rfl f38 fun w hw => Ssa.run_load 41 _ _ rfl ⟨g, p2, none⟩ _ (Ssa.ev f37) Tryd.underlying41 rfl w (hx2 w hw))) ?_
        refine And.intro (Ssa.any_of rfl rfl fun s _ => Ssa.good_of (d := 39) (.pointer (some ⟨g, 0, none⟩)) rfl f39 fun w hw => Ssa.run_mv rfl (Ssa.ev f0) w) ?_
        refine And.intro (Ssa.any_of rfl rfl fun s _ => Ssa.good_of (d := 40) (.pointer (some ⟨wr.heap.size, 3, none⟩)) rfl f40 fun w hw => Ssa.run_addr 98 _ _ 4 3 rfl wr.heap.size 3 (Ssa.ev f3) rfl (by decide) Tryd.underlying98 szI w) ?_
        refine And.intro (Ssa.early_of rfl rfl (Ssa.good_of (d := 41) (.int .i64 (p3 : Nat)) rfl f41 fun w hw => Ssa.run_load 3 _ _ rfl ⟨wr.heap.size, 3, none⟩ _ (Ssa.ev f40) Tryd.underlying3 rfl w (hp3 _ w hw))) ?_
        refine And.intro (Ssa.any_of rfl rfl fun s _ => Ssa.good_of (d := 42) (.pointer (some ⟨g, 0, none⟩)) rfl f42 fun w hw => Ssa.run_nil rfl (Ssa.ev f39) w) ?_
        refine And.intro (Ssa.any_of rfl rfl fun s _ => Ssa.good_of (d := 43) (.pointer (some ⟨g, p3, none⟩)) rfl f43 fun w hw => Ssa.run_addr 90 _ _ 16 41 rfl g p3 (Ssa.ev f42) (Ssa.ev f41) l3 Tryd.underlying90 szU w) ?_
        refine And.intro (Ssa.early_of rfl rfl (Ssa.good_of (d := 44) (.int .u32 (x3 : Nat)) rfl f44 fun w hw => Ssa.run_load 41 _ _ rfl ⟨g, p3, none⟩ _ (Ssa.ev f43) Tryd.underlying41 rfl w (hx3 w hw))) ?_
        refine And.intro (Ssa.early_of rfl rfl (Ssa.good_call (d := 45) (.tuple #[.int .u32 (qA x0 x1 x2 x3 : Nat), .int .u32 (qB x0 x1 x2 x3 : Nat), .int .u32 (qC x0 x1 x2 x3 : Nat), .int .u32 (qD x0 x1 x2 x3 : Nat)]) 64 #[.int .u32 (x0 : Nat), .int .u32 (x1 : Nat), .int .u32 (x2 : Nat), .int .u32 (x3 : Nat)] rfl f45 hcall fun w hw => Quarter_any x0 x1 x2 x3 b0 b1 b2 b3 w)) ?_
        refine And.intro (Ssa.any_of rfl rfl fun s _ => Ssa.good_of (d := 8) (.tuple #[.int .u32 (qA x0 x1 x2 x3 : Nat), .int .u32 (qB x0 x1 x2 x3 : Nat), .int .u32 (qC x0 x1 x2 x3 : Nat), .int .u32 (qD x0 x1 x2 x3 : Nat)]) rfl f8 fun w hw => Ssa.run_mv rfl (Ssa.ev f45) w) ?_
        refine And.intro (Ssa.any_of rfl rfl fun s _ => Ssa.good_of (d := 46) (.int .u32 (qA x0 x1 x2 x3 : Nat)) rfl f46 fun w hw => Ssa.run_ext 0 rfl (Ssa.ev f8) rfl w) ?_
        refine And.intro (Ssa.any_of rfl rfl fun s _ => Ssa.good_of (d := 47) (.int .u32 (qB x0 x1 x2 x3 : Nat)) rfl f47 fun w hw => Ssa.run_ext 1 rfl (Ssa.ev f8) rfl w) ?_
        refine And.intro (Ssa.any_of rfl rfl fun s _ => Ssa.good_of (d := 48) (.int .u32 (qC x0 x1 x2 x3 : Nat)) rfl f48 fun w hw => Ssa.run_ext 2 rfl (Ssa.ev f8) rfl w) ?_
        refine And.intro (Ssa.any_of rfl rfl fun s _ => Ssa.good_of (d := 49) (.int .u32 (qD x0 x1 x2 x3 : Nat)) rfl f49 fun w hw => Ssa.run_ext 3 rfl (Ssa.ev f8) rfl w) ?_
        refine And.intro (Ssa.any_of rfl rfl fun s _ => Ssa.good_of (d := 50) (.pointer (some ⟨g, 0, none⟩)) rfl f50 fun w hw => Ssa.run_nil rfl (Ssa.ev f9) w) ?_
        refine And.intro (Ssa.any_of rfl rfl fun s _ => Ssa.good_of (d := 51) (.pointer (some ⟨g, p0, none⟩)) rfl f51 fun w hw => Ssa.run_addr 90 _ _ 16 41 rfl g p0 (Ssa.ev f50) (Ssa.ev f11) l0 Tryd.underlying90 szU w) ?_
        refine And.intro (Ssa.store_of 0 rfl rfl (Ssa.good_store 41 _ _ rfl rfl ⟨g, p0, none⟩ .u32 (qA x0 x1 x2 x3 : Nat) o0 (Ssa.ev f51) (Ssa.ev f46) szU hs0 (fun w hw => show _ = W1 by rw [show w = W0 from hw, hW1]))) ?_
        refine And.intro (Ssa.any_of rfl rfl fun s _ => Ssa.good_of (d := 52) (.pointer (some ⟨g, 0, none⟩)) rfl f52 fun w hw => Ssa.run_nil rfl (Ssa.ev f12) w) ?_
        refine And.intro (Ssa.any_of rfl rfl fun s _ => Ssa.good_of (d := 53) (.pointer (some ⟨g, p1, none⟩)) rfl f53 fun w hw => Ssa.run_addr 90 _ _ 16 41 rfl g p1 (Ssa.ev f52) (Ssa.ev f14) l1 Tryd.underlying90 szU w) ?_
        refine And.intro (Ssa.store_of 1 rfl rfl (Ssa.good_store 41 _ _ rfl rfl ⟨g, p1, none⟩ .u32 (qB x0 x1 x2 x3 : Nat) o1 (Ssa.ev f53) (Ssa.ev f47) szU hs1 (fun w hw => show _ = W2 by rw [show w = W1 from hw, hW2]))) ?_
        refine And.intro (Ssa.any_of rfl rfl fun s _ => Ssa.good_of (d := 54) (.pointer (some ⟨g, 0, none⟩)) rfl f54 fun w hw => Ssa.run_nil rfl (Ssa.ev f15) w) ?_
        refine And.intro (Ssa.any_of rfl rfl fun s _ => Ssa.good_of (d := 55) (.pointer (some ⟨g, p2, none⟩)) rfl f55 fun w hw => Ssa.run_addr 90 _ _ 16 41 rfl g p2 (Ssa.ev f54) (Ssa.ev f17) l2 Tryd.underlying90 szU w) ?_
        refine And.intro (Ssa.store_of 2 rfl rfl (Ssa.good_store 41 _ _ rfl rfl ⟨g, p2, none⟩ .u32 (qC x0 x1 x2 x3 : Nat) o2 (Ssa.ev f55) (Ssa.ev f48) szU hs2 (fun w hw => show _ = W3 by rw [show w = W2 from hw, hW3]))) ?_
        refine And.intro (Ssa.any_of rfl rfl fun s _ => Ssa.good_of (d := 56) (.pointer (some ⟨g, 0, none⟩)) rfl f56 fun w hw => Ssa.run_nil rfl (Ssa.ev f18) w) ?_
        refine And.intro (Ssa.any_of rfl rfl fun s _ => Ssa.good_of (d := 57) (.pointer (some ⟨g, p3, none⟩)) rfl f57 fun w hw => Ssa.run_addr 90 _ _ 16 41 rfl g p3 (Ssa.ev f56) (Ssa.ev f20) l3 Tryd.underlying90 szU w) ?_
        refine And.intro (Ssa.store_of 3 rfl rfl (Ssa.good_store 41 _ _ rfl rfl ⟨g, p3, none⟩ .u32 (qD x0 x1 x2 x3 : Nat) o3 (Ssa.ev f57) (Ssa.ev f49) szU hs3 (fun w hw => show _ = W4 by rw [show w = W3 from hw, hW4]))) ?_
        exact trivial
      case behind =>
        intro w4 h4
        obtain rfl : w4 = W4 := h4
        have GR : w.grownBy w4 (some g) := grown_trans hgr (grown_trans (grown_old O0 _) G4)
        clear hp0 hp1 hp2 hp3 hpg hx0 hx1 hx2 hx3 hxg hs0 hs1 hs2 hs3 e0 e1 e2 e3 hsome hrowp hW0 hW1 hW2 hW3 hW4 R0 R1 R2 R3 X0 X1 X2 X3
        simp only [Ssa.putAll, List.foldl_cons, List.foldl_nil, List.setIfInBounds_toArray, List.set_cons_succ, List.set_cons_zero]
        go_wp2
        go_roundw
        case rel => exact ⟨k + 1, by omega, by go_num, R4, GR⟩
        case measure => simp [intOf]; omega
end Go.Proofs.YtjbpnhibgafdmaaDoor
