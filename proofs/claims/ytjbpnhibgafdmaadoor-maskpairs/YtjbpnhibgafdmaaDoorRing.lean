/-
  What the functions of package ring answer: a contract a function, for vectors of any length; nothing that was there is changed.
-/
import Derived.Test.YtjbpnhibgafdmaaDoorProg
import Derived.Test.YtjbpnhibgafdmaaDoorMem
import Derived.Test.YtjbpnhibgafdmaaDoorVec
namespace Go.Proofs.YtjbpnhibgafdmaaDoor
open Go.RowKit Vec
set_option linter.unusedVariables false

theorem row_step {f : Nat → Nat → Nat} {wr : World} {g k : Nat} {t : TypeId} {xs ys : List Nat} (row : Row wr g t (nums .u32 (vpart f k xs ys))) (h : xs.length = ys.length) {x y : Nat}
    (hx : (vpart f k xs ys)[k]? = some x) (hy : ys[k]? = some y) (z : Int) (hz : z = (f x y : Nat)) : Row (wr.setCell ⟨g, k, none⟩ (.int .u32 z)) g t (nums .u32 (vpart f (k + 1) xs ys)) := by
  have hk : k < xs.length := by have := (List.getElem?_eq_some_iff.1 hy).1; omega
  rw [vpart_get f k xs ys h hk] at hx
  have := row.set k (.int .u32 z)
  rw [hz, nums_set, vpart_step f k xs ys h x y hx hy] at this
  rw [hz]; exact this

set_option maxHeartbeats 1000000 in
theorem vadd_any (g n : Nat) (t : TypeId) (xs ys : List Nat) (a : Option Addr) (c : Nat) (w : World) (hn : n ≤ 70368744177664)
    (hx : xs.length = n) (hy : ys.length = n) (row : Row w g t (nums .u32 xs)) (rd : Rd w a (nums .u32 ys)) (hne : ∀ x, 0 < n → a = some x → x.block ≠ g) :
    Calls Tryd.prog 50 #[.slice (some ⟨g, 0, none⟩) n n, .slice a n c] w fun e w' =>
      e = .returned (.tuple #[]) ∧ Row w' g t (nums .u32 (List.zipWith add32 xs ys)) ∧ w.grownBy w' (some g) := by
  have hxy : Hid (xs.length = ys.length) := hx.trans hy.symm
  have HX : Hid (xs.length = n) := hx
  have HY : Hid (ys.length = n) := hy
  clear hx hy
  go_enter Tryd.func50, Tryd.ntmps50
  go_wp2
  go_loopw [8] (fun i wr => ∃ k : Nat, k ≤ n ∧ i = .int .i64 k ∧ Row wr g t (nums .u32 (vpart add32 k xs ys)) ∧ w.grownBy wr (some g)) (fun i _ => n - (intOf i).toNat)
  case atStart => exact ⟨0, Nat.zero_le _, rfl, by rw [vpart_zero]; exact row, World.grownBy.refl _ _⟩
  case round =>
    obtain ⟨k, hk, rfl, hrow, hgr⟩ := hrel
    by_cases hlt : k < n
    · have hkx : k < xs.length := by have := HX.out; omega
      have hky : k < ys.length := by have := HY.out; omega
      obtain ⟨b, off, y, rfl, Hy, hc⟩ := (rd.grown hgr (by intro x hp; exact hne x (by omega))).num hky
      obtain ⟨x, Hx', hcx⟩ := hrow.num (by rw [vpart_length _ _ _ _ hxy.out]; exact hkx)
      have hfz := hrow.free k
      go_wp2
      go_roundw
      case rel => exact ⟨k + 1, by omega, by go_num, row_step hrow hxy.out Hx'.out Hy.out _ (by unfold add32; omega), grown_trans hgr (grown_set _ _ _ _)⟩
      case measure => simp [intOf]; omega
    · have hkn : k = n := by omega
      go_wp2
      go_end0
      refine ⟨rfl, ?_, hgr⟩
      rw [hkn, vpart_all _ _ _ _ HX.out HY.out] at hrow
      exact hrow

set_option maxHeartbeats 1000000 in
theorem vtake_any (g n : Nat) (t : TypeId) (xs ys : List Nat) (a : Option Addr) (c : Nat) (w : World) (hn : n ≤ 70368744177664)
    (hx : xs.length = n) (hy : ys.length = n) (hb : ∀ y ∈ ys, y < 4294967296) (row : Row w g t (nums .u32 xs)) (rd : Rd w a (nums .u32 ys)) (hne : ∀ x, 0 < n → a = some x → x.block ≠ g) :
    Calls Tryd.prog 51 #[.slice (some ⟨g, 0, none⟩) n n, .slice a n c] w fun e w' =>
      e = .returned (.tuple #[]) ∧ Row w' g t (nums .u32 (List.zipWith sub32 xs ys)) ∧ w.grownBy w' (some g) := by
  have hxy : Hid (xs.length = ys.length) := hx.trans hy.symm
  have HX : Hid (xs.length = n) := hx
  have HY : Hid (ys.length = n) := hy
  have HB : Hid (∀ y ∈ ys, y < 4294967296) := hb
  clear hx hy hb
  go_enter Tryd.func51, Tryd.ntmps51
  go_wp2
  go_loopw [8] (fun i wr => ∃ k : Nat, k ≤ n ∧ i = .int .i64 k ∧ Row wr g t (nums .u32 (vpart sub32 k xs ys)) ∧ w.grownBy wr (some g)) (fun i _ => n - (intOf i).toNat)
  case atStart => exact ⟨0, Nat.zero_le _, rfl, by rw [vpart_zero]; exact row, World.grownBy.refl _ _⟩
  case round =>
    obtain ⟨k, hk, rfl, hrow, hgr⟩ := hrel
    by_cases hlt : k < n
    · have hkx : k < xs.length := by have := HX.out; omega
      have hky : k < ys.length := by have := HY.out; omega
      obtain ⟨b, off, y, rfl, Hy, hc⟩ := (rd.grown hgr (by intro x hp; exact hne x (by omega))).num hky
      obtain ⟨x, Hx', hcx⟩ := hrow.num (by rw [vpart_length _ _ _ _ hxy.out]; exact hkx)
      have hfz := hrow.free k
      go_wp2
      go_roundw
      case rel => exact ⟨k + 1, by omega, by go_num, row_step hrow hxy.out Hx'.out Hy.out _ (by have := HB.out y (List.mem_of_getElem? Hy.out); unfold sub32; omega), grown_trans hgr (grown_set _ _ _ _)⟩
      case measure => simp [intOf]; omega
    · have hkn : k = n := by omega
      go_wp2
      go_end0
      refine ⟨rfl, ?_, hgr⟩
      rw [hkn, vpart_all _ _ _ _ HX.out HY.out] at hrow
      exact hrow

theorem Tryd.infoU32 : (Tryd.prog.info? 41).map (fun i => (i.zero, i.size, i.bytes)) = some (some (.int .u32 0), 1, 4) := by kernel_rfl

theorem make_vec (n : Nat) (hn : n ≤ 70368744177664) : ∀ w : World, (Instr.makeSlice 82 (.int .i64 (n : Int)) (.int .i64 (n : Int))).run Tryd.prog w = .ok (.slice (some ⟨w.heap.size, 0, none⟩) n n) (w.alloc (.cells (nums .u32 (List.replicate n 0)).toArray 41)) :=
  make_nums Tryd.underlying82 Tryd.infoU32 n (by omega) (by omega)

theorem Tryd.sizeU32 : (Tryd.prog.info? 41).map (·.size) = some 1 := by kernel_rfl

set_option maxHeartbeats 1000000 in
theorem both_add (n : Nat) (xs ys : List Nat) (a b : Option Addr) (ca cb : Nat) (w : World) (hn : n ≤ 35184372088832)
    (hx : xs.length = n) (hy : ys.length = n) (rx : Rd w a (nums .u32 xs)) (ry : Rd w b (nums .u32 ys)) :
    Calls Tryd.prog 49 #[.func (.func 50) #[] #[], .slice a n ca, .slice b n cb] w fun e w' =>
      ∃ g, e = .returned (.tuple #[.slice (some ⟨g, 0, none⟩) n n, .int .i64 0]) ∧ Rd w' (some ⟨g, 0, none⟩) (nums .u32 (List.zipWith add32 xs ys)) ∧ Old w w' := by
  have hm := make_vec n (by omega) w
  have hc := fun ty => copy_nums (P := Tryd.prog) (dT := 82) (sT := 24) (ty := ty) Tryd.underlying82 Tryd.sizeU32 (k := .u32) n xs hx a ca (nums .u32 (List.replicate n 0)) (by simp [nums]) w rx
  have HX : Hid (xs.length = n) := hx
  have HY : Hid (ys.length = n) := hy
  clear hx hy
  go_enter Tryd.func49, Tryd.ntmps49
  go_wp2_with fail
  refine (vadd_any w.heap.size n 41 xs ys b cb _ (by omega) HX.out HY.out (Row.new w _ _) (ry.mono (Old.of_alloc _ _)) ?_).mono ?_
  · intro x hp hx
    have := ry.lt hx (by rw [nums_length, HY.out]; exact hp)
    omega
  rintro e w' ⟨rfl, row, gr⟩
  go_wp2
  go_ret2
  exact ⟨_, rfl, row.rd, (Old.of_alloc _ _).grown gr (Nat.le_refl _)⟩

set_option maxHeartbeats 1000000 in
theorem both_take (n : Nat) (xs ys : List Nat) (a b : Option Addr) (ca cb : Nat) (w : World) (hn : n ≤ 35184372088832)
    (hx : xs.length = n) (hy : ys.length = n) (hb : ∀ y ∈ ys, y < 4294967296) (rx : Rd w a (nums .u32 xs)) (ry : Rd w b (nums .u32 ys)) :
    Calls Tryd.prog 49 #[.func (.func 51) #[] #[], .slice a n ca, .slice b n cb] w fun e w' =>
      ∃ g, e = .returned (.tuple #[.slice (some ⟨g, 0, none⟩) n n, .int .i64 0]) ∧ Rd w' (some ⟨g, 0, none⟩) (nums .u32 (List.zipWith sub32 xs ys)) ∧ Old w w' := by
  have hm := make_vec n (by omega) w
  have hc := fun ty => copy_nums (P := Tryd.prog) (dT := 82) (sT := 24) (ty := ty) Tryd.underlying82 Tryd.sizeU32 (k := .u32) n xs hx a ca (nums .u32 (List.replicate n 0)) (by simp [nums]) w rx
  have HX : Hid (xs.length = n) := hx
  have HY : Hid (ys.length = n) := hy
  have HB : Hid (∀ y ∈ ys, y < 4294967296) := hb
  clear hx hy hb
  go_enter Tryd.func49, Tryd.ntmps49
  go_wp2_with fail
  refine (vtake_any w.heap.size n 41 xs ys b cb _ (by omega) HX.out HY.out HB.out (Row.new w _ _) (ry.mono (Old.of_alloc _ _)) ?_).mono ?_
  · intro x hp hx
    have := ry.lt hx (by rw [nums_length, HY.out]; exact hp)
    omega
  rintro e w' ⟨rfl, row, gr⟩
  go_wp2
  go_ret2
  exact ⟨_, rfl, row.rd, (Old.of_alloc _ _).grown gr (Nat.le_refl _)⟩


set_option maxHeartbeats 1000000 in
theorem both_unlike (f : Nat) (n m : Nat) (a b : Option Addr) (ca cb : Nat) (w : World) (hnm : n ≠ m) :
    Calls Tryd.prog 49 #[.func (.func f) #[] #[], .slice a n ca, .slice b m cb] w fun e w' =>
      e = .returned (.tuple #[.slice none 0 0, .int .i64 1]) ∧ w' = w := by
  have hd : ((n : Int) == (m : Int)) = false := by rw [beq_eq_false_iff_ne]; omega
  have hd2 : ((n : Int) != (m : Int)) = true := by rw [bne_iff_ne]; omega
  go_enter Tryd.func49, Tryd.ntmps49
  go_wp2
  go_ret2
  exact ⟨rfl, rfl⟩

set_option maxHeartbeats 1000000 in
theorem Add_ok (n : Nat) (xs ys : List Nat) (a b : Option Addr) (ca cb : Nat) (w : World) (hn : n ≤ 35184372088832)
    (hx : xs.length = n) (hy : ys.length = n) (rx : Rd w a (nums .u32 xs)) (ry : Rd w b (nums .u32 ys)) :
    Calls Tryd.prog 42 #[.slice a n ca, .slice b n cb] w fun e w' =>
      ∃ g, e = .returned (.tuple #[.slice (some ⟨g, 0, none⟩) n n, .int .i64 0]) ∧ Rd w' (some ⟨g, 0, none⟩) (nums .u32 (List.zipWith add32 xs ys)) ∧ Old w w' := by
  have HH := hide <| both_add n xs ys a b ca cb w hn hx hy rx ry
  clear hx hy
  go_enter Tryd.func42, Tryd.ntmps42
  go_wp2_with fail
  refine (HH.out).mono ?_
  rintro e w' ⟨g, rfl, rd, old⟩
  go_wp2
  go_ret2
  exact ⟨_, rfl, rd, old⟩

set_option maxHeartbeats 1000000 in
theorem Sub_ok (n : Nat) (xs ys : List Nat) (a b : Option Addr) (ca cb : Nat) (w : World) (hn : n ≤ 35184372088832)
    (hx : xs.length = n) (hy : ys.length = n) (hb : ∀ y ∈ ys, y < 4294967296) (rx : Rd w a (nums .u32 xs)) (ry : Rd w b (nums .u32 ys)) :
    Calls Tryd.prog 43 #[.slice a n ca, .slice b n cb] w fun e w' =>
      ∃ g, e = .returned (.tuple #[.slice (some ⟨g, 0, none⟩) n n, .int .i64 0]) ∧ Rd w' (some ⟨g, 0, none⟩) (nums .u32 (List.zipWith sub32 xs ys)) ∧ Old w w' := by
  have HH := hide <| both_take n xs ys a b ca cb w hn hx hy hb rx ry
  clear hx hy hb
  go_enter Tryd.func43, Tryd.ntmps43
  go_wp2_with fail
  refine (HH.out).mono ?_
  rintro e w' ⟨g, rfl, rd, old⟩
  go_wp2
  go_ret2
  exact ⟨_, rfl, rd, old⟩

set_option maxHeartbeats 1000000 in
theorem Add_no (n m : Nat) (a b : Option Addr) (ca cb : Nat) (w : World) (hnm : n ≠ m) :
    Calls Tryd.prog 42 #[.slice a n ca, .slice b m cb] w fun e w' => e = .returned (.tuple #[.slice none 0 0, .int .i64 1]) ∧ w' = w := by
  go_enter Tryd.func42, Tryd.ntmps42
  go_wp2_with fail
  refine (both_unlike _ n m a b ca cb w hnm).mono ?_
  rintro e w' ⟨rfl, rfl⟩
  go_wp2
  go_ret2
  exact ⟨rfl, rfl⟩
set_option maxHeartbeats 1000000 in
theorem Sub_no (n m : Nat) (a b : Option Addr) (ca cb : Nat) (w : World) (hnm : n ≠ m) :
    Calls Tryd.prog 43 #[.slice a n ca, .slice b m cb] w fun e w' => e = .returned (.tuple #[.slice none 0 0, .int .i64 1]) ∧ w' = w := by
  go_enter Tryd.func43, Tryd.ntmps43
  go_wp2_with fail
  refine (both_unlike _ n m a b ca cb w hnm).mono ?_
  rintro e w' ⟨rfl, rfl⟩
  go_wp2
  go_ret2
  exact ⟨rfl, rfl⟩



theorem all_upto {ps : List (Sl × List Nat)} {k : Nat} {n : Int} (h : ∀ p ∈ ps.take k, (p.1.len : Int) = n) {q : Sl × List Nat} (hq : ps[k]? = some q) (hn : (q.1.len : Int) = n) : ∀ p ∈ ps.take (k + 1), (p.1.len : Int) = n := by
  intro p hp
  rw [List.take_add_one, hq] at hp
  simp at hp
  rcases hp with hp | rfl
  · exact h p (by simpa using hp)
  · exact hn





end Go.Proofs.YtjbpnhibgafdmaaDoor