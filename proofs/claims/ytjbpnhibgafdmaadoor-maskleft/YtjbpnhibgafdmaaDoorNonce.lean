/-
  stream.Nonce and the document's: a tag's nonce.
-/
import Derived.Test.YtjbpnhibgafdmaaDoorStream
import Derived.Test.YtjbpnhibgafdmaaDoorSsx
namespace Go.Proofs.YtjbpnhibgafdmaaDoor
open Go.RowKit Cha
set_option linter.unusedVariables false

theorem info_8 {l : List Nat} (h : l.length = 8) : (Tryd.prog.info? 70).map (·.size) = some (nums .u8 l).length := by
  rw [nums_length, h]; kernel_rfl
theorem size_u8 : (Tryd.prog.info? 5).map (·.size) = some 1 := by kernel_rfl

/-- The blocks of Nonce: the result, the nonce, the tag's bytes. -/
structure NB (w : World) (g : Nat) (low zs : List Nat) (wr : World) : Prop where
  r : Row wr w.heap.size 77 (nums .u8 (List.replicate 12 0))
  n : Row wr (w.heap.size + 1) 77 (nums .u8 zs)
  b : Row wr g 70 (nums .u8 low)
  old : Old w wr
theorem NB.mono {w wr w' : World} {g : Nat} {low zs : List Nat} (h : NB w g low zs wr) (o : Old wr w') : NB w g low zs w' :=
  ⟨h.r.mono o, h.n.mono o, h.b.mono o, h.old.trans o⟩
theorem NB.set {w wr : World} {g : Nat} {low zs : List Nat} (h : NB w g low zs wr) (hg : w.heap.size + 1 < g) (zs' : List Nat) : NB w g low zs' (wr.setRow (w.heap.size + 1) (nums .u8 zs').toArray) :=
  ⟨h.r.grown (grown_setRow _ _ _) (by omega), h.n.whole _, h.b.grown (grown_setRow _ _ _) (by omega), h.old.grown (grown_setRow _ _ _) (by omega)⟩
theorem two_zeros (w : World) : Row ((w.alloc (.cells (nums .u8 (List.replicate 12 0)).toArray 77)).alloc (.cells (nums .u8 (List.replicate 12 0)).toArray 77)) w.heap.size 77 (nums .u8 (List.replicate 12 0)) ∧
    Row ((w.alloc (.cells (nums .u8 (List.replicate 12 0)).toArray 77)).alloc (.cells (nums .u8 (List.replicate 12 0)).toArray 77)) (w.heap.size + 1) 77 (nums .u8 (List.replicate 12 0)) ∧
    Old w ((w.alloc (.cells (nums .u8 (List.replicate 12 0)).toArray 77)).alloc (.cells (nums .u8 (List.replicate 12 0)).toArray 77)) := by
  have K2 := Row.new (w.alloc (.cells (nums .u8 (List.replicate 12 0)).toArray 77)) 77 (nums .u8 (List.replicate 12 0))
  rw [size_alloc] at K2
  exact ⟨(Row.new _ _ _).mono (Old.of_alloc _ _), K2, (Old.of_alloc _ _).alloc _⟩

set_option maxRecDepth 100000 in
set_option maxHeartbeats 2000000 in
theorem Nonce_any (t : Nat) (ht : t < 4294967296) (w : World) :
    Calls Tryd.prog 46 #[.int .u32 (t : Nat)] w fun e w' => e = .returned (.agg (nums .u8 (nonceOf t)).toArray) ∧ Old w w' := by
  have HT := hide ht
  have K0 := hide (two_zeros w)
  have C1 := hide (lowestFirst_any t (by omega))
  go_enter Tryd.func46, Tryd.ntmps46
  go_wp2_with fail
  refine (C1.out _).mono ?_
  rintro e w1 ⟨rfl, o1⟩
  have M1 := K0.out.1.mono o1
  have M2 := K0.out.2.1.mono o1
  have O1 := K0.out.2.2.trans o1
  clear K0 o1 C1
  have Z1 : Hid (Row (w1.alloc (.cells (nums .u8 (List.replicate 8 0)).toArray 70)) w1.heap.size 70 (nums .u8 (List.replicate 8 0))) := Row.new _ _ _
  have l1 := hide M2.lt
  go_wp2_with (first
    | (refine wp_store_whole rfl 70 _ _ rfl w1.heap.size rfl (nums .u8 (lo8 t)) rfl Z1.out (info_8 (lo8_length _)) (by rw [nums_length, nums_length, lo8_length]; rfl) (nums_oneCell _ _) ?_; rintro w2 h2
       have X2 : NB w w1.heap.size (lo8 t) (List.replicate 12 0) w2 := by
         have K2 : Row w2 w1.heap.size 70 (nums .u8 (lo8 t)) := by rw [h2]; exact Z1.out.whole _
         have o2 : Old w1 w2 := by rw [h2]; exact (Old.of_alloc _ _).grown (grown_setRow _ _ _) (Nat.le_refl _)
         exact ⟨M1.mono o2, M2.mono o2, K2, O1.trans o2⟩
       clear h2 Z1 M1 M2 O1))
  refine Ssx.region (Ext := Ssx.Into (w.heap.size + 1) 77 (nums .u8 (nonceOf t))) (fun w' => ∃ zs, NB w w1.heap.size (lo8 t) zs w' ∧ zs.length = 12 ∧ zs.drop 8 = List.replicate 4 0) [8, 9, 10]
    [(8, Ssx.cst (.slice (some ⟨w.heap.size + 1, 0, none⟩) 12 12)), (9, Ssx.cst (.slice (some ⟨w1.heap.size, 0, none⟩) 8 8)), (10, Ssx.laid _ _ _)]
    [] (by kernel_rfl) (by kernel_rfl) (by kernel_rfl) (by kernel_rfl) (fun _ _ h => by cases h) (by kernel_rfl) (by kernel_rfl) (by kernel_rfl) ⟨_, X2.mono ((Old.refl _).drewN 1), rfl, rfl⟩ ?good ?behind
  case good =>
    refine ⟨Ssx.all (Ssx.Into.refl _ _ _) rfl rfl Tryd.underlying77 size_u8 (w.heap.size + 1) (fun _ _ h => h) (fun _ => rfl), Ssx.all (Ssx.Into.refl _ _ _) rfl rfl Tryd.underlying70 size_u8 w1.heap.size (fun _ _ h => h) (fun _ => rfl), ?_, trivial⟩
    refine Ssx.step rfl fun a w' hC hop => ?_
    obtain ⟨zs, X, hz, hz8⟩ := hC
    have h1 : a.eval (.tmp 8) = .slice (some ⟨w.heap.size + 1, 0, none⟩) 12 12 := hop 8 (by simp [Op.operands, Call.operands])
    have h2 : a.eval (.tmp 9) = .slice (some ⟨w1.heap.size, 0, none⟩) 8 8 := hop 9 (by simp [Op.operands, Call.operands])
    have hrun := Ssx.run_into (P := Tryd.prog) (dT := 67) (sT := 67) (ty := 3) Tryd.underlying67 size_u8 (cap := 12) (cap' := 8) X.n hz (lo8_length t) (by omega) (by omega) X.b.rd
    rw [hz8, lo8_tag HT.out] at hrun
    have hx := X.set l1.out (nonceOf t)
    refine ⟨goInt 8, _, ?_, ⟨_, hx, rfl, rfl⟩, ⟨grown_setRow _ _ _, fun _ => hx.n⟩, hx.n⟩
    simp [Act.eval] at h1 h2
    simp [h1, h2, hrun, go_sem]
  case behind =>
    intro vals w' hC hv
    have R3 : Row w' (w.heap.size + 1) 77 (nums .u8 (nonceOf t)) := hv _ (.tail _ (.tail _ (.head _)))
    obtain ⟨zs, X, -, -⟩ := hC
    have R2 := X.r
    have hol := X.old
    clear X X2 hv
    simp only [Ssa.putAll, Act.put, List.map_cons, List.map_nil, List.foldl_cons, List.foldl_nil, List.setIfInBounds_toArray, List.set_cons_succ, List.set_cons_zero]
    generalize vals 8 = x8
    generalize vals 9 = x9
    generalize vals 10 = x10
    rename_i Q0 K0 hK
    refine hK _ w' ?_
    clear hK
    go_wp2_with (first
      | refine wp_load_whole rfl 77 _ rfl (w.heap.size + 1) rfl R3 Tryd.underlying77 rfl (info_n (nonceOf_length t)) ?_
      | (refine wp_store_whole rfl 77 _ _ rfl w.heap.size rfl (nums .u8 (nonceOf t)) rfl R2 (info_n (nonceOf_length t)) rfl (nums_oneCell _ _) ?_; rintro w9 h9))
    have K9 : Row w9 w.heap.size 77 (nums .u8 (nonceOf t)) := by rw [h9]; exact R2.whole _
    have O9 : Old w w9 := by rw [h9]; exact hol.grown (grown_setRow _ _ _) (by omega)
    exact bodyPost_ret (v := .agg (nums .u8 (nonceOf t)).toArray) (results_whole rfl rfl K9 Tryd.underlying77 rfl (info_n (nonceOf_length t))) rfl ⟨rfl, O9⟩

set_option maxHeartbeats 1000000 in
theorem refNonce_any (t : Nat) (ht : t < 4294967296) (w : World) :
    Calls Tryd.prog 48 #[.int .u32 (t : Nat)] w fun e w' => e = .returned (.agg (nums .u8 (nonceOf t)).toArray) ∧ Old w w' := by
  have Z1 : Hid (Row (w.alloc (.cells (nums .u8 (List.replicate 12 0)).toArray 77)) w.heap.size 77 (nums .u8 (List.replicate 12 0))) := Row.new _ _ _
  go_enter Tryd.func48, Tryd.ntmps48
  go_wp2
  have e3 : (t : Int) / 16777216 = ((t / 16777216 % 256 : Nat) : Int) := by omega
  have e : #[Value.int .u8 ((t : Int) % 256), .int .u8 ((t : Int) / 256 % 256), .int .u8 ((t : Int) / 65536 % 256), .int .u8 ((t : Int) / 16777216), .int .u8 0, .int .u8 0, .int .u8 0, .int .u8 0, .int .u8 0, .int .u8 0, .int .u8 0, .int .u8 0] = (nums .u8 (nonceOf t)).toArray := by
    rw [e3]; rfl
  rw [e]
  clear e e3 Z1
  exact bodyPost_ret (v := .agg (nums .u8 (nonceOf t)).toArray) (results_whole rfl rfl (Row.new w 77 (nums .u8 (nonceOf t))) Tryd.underlying77 rfl (info_n (nonceOf_length t))) rfl ⟨rfl, Old.of_alloc _ _⟩
end Go.Proofs.YtjbpnhibgafdmaaDoor
