/-
  What the functions of package ring answer: a contract a function, for vectors of any length; nothing that was there is changed.
-/
import Derived.Test.YtooilnpghcdjiaaProg
import Derived.Test.YtooilnpghcdjiaaMem
import Derived.Test.YtooilnpghcdjiaaVec
namespace Go.Proofs.Ytooilnpghcdjiaa
open Go.RowKit Vec
set_option linter.unusedVariables false

theorem row_step {f : Nat → Nat → Nat} {wr : World} {g k : Nat} {t : TypeId} {xs ys : List Nat} (row : Row wr g t (nums .u32 (vpart f k xs ys))) (h : xs.length = ys.length) {x y : Nat}
    (hx : (vpart f k xs ys)[k]? = some x) (hy : ys[k]? = some y) (z : Int) (hz : z = (f x y : Nat)) : Row (wr.setCell ⟨g, k, none⟩ (.int .u32 z)) g t (nums .u32 (vpart f (k + 1) xs ys)) := by
  have hk : k < xs.length := by have := (List.getElem?_eq_some_iff.1 hy).1; omega
  rw [vpart_get f k xs ys h hk] at hx
  have := row.set k (.int .u32 z)
  rw [hz, nums_set, vpart_step f k xs ys h x y hx hy] at this
  rw [hz]; exact this

set_option maxHeartbeats 1000000 in
theorem vadd_any (g n : Nat) (t : TypeId) (xs ys : List Nat) (a : Option Addr) (c : Nat) (w : World) (hn : n ≤ 70368744177664)
    (hx : xs.length = n) (hy : ys.length = n) (row : Row w g t (nums .u32 xs)) (rd : Rd w a (nums .u32 ys)) (hne : ∀ x, 0 < n → a = some x → x.block ≠ g) :
    Calls Try.prog 14 #[.slice (some ⟨g, 0, none⟩) n n, .slice a n c] w fun e w' =>
      e = .returned (.tuple #[]) ∧ Row w' g t (nums .u32 (List.zipWith add32 xs ys)) ∧ w.grownBy w' (some g) := by
  have hxy : Hid (xs.length = ys.length) := hx.trans hy.symm
  have HX : Hid (xs.length = n) := hx
  have HY : Hid (ys.length = n) := hy
  clear hx hy
  go_enter Try.func14, Try.ntmps14
  go_wp2
  go_loopw [8] (fun i wr => ∃ k : Nat, k ≤ n ∧ i = .int .i64 k ∧ Row wr g t (nums .u32 (vpart add32 k xs ys)) ∧ w.grownBy wr (some g)) (fun i _ => n - (intOf i).toNat)
  case atStart => exact ⟨0, Nat.zero_le _, rfl, by rw [vpart_zero]; exact row, World.grownBy.refl _ _⟩
  case round =>
    obtain ⟨k, hk, rfl, hrow, hgr⟩ := hrel
    by_cases hlt : k < n
    · have hkx : k < xs.length := by have := HX.out; omega
      have hky : k < ys.length := by have := HY.out; omega
      obtain ⟨b, off, y, rfl, Hy, hc⟩ := (rd.grown hgr (by intro x hp; exact hne x (by omega))).num hky
      obtain ⟨x, Hx', hcx⟩ := hrow.num (by rw [vpart_length _ _ _ _ hxy.out]; exact hkx)
      have hfz := hrow.free k
      go_wp2
      go_roundw
      case rel => exact ⟨k + 1, by omega, by go_num, row_step hrow hxy.out Hx'.out Hy.out _ (by unfold add32; omega), grown_trans hgr (grown_set _ _ _ _)⟩
      case measure => simp [intOf]; omega
    · have hkn : k = n := by omega
      go_wp2
      go_end0
      refine ⟨rfl, ?_, hgr⟩
      rw [hkn, vpart_all _ _ _ _ HX.out HY.out] at hrow
      exact hrow

set_option maxHeartbeats 1000000 in
theorem vtake_any (g n : Nat) (t : TypeId) (xs ys : List Nat) (a : Option Addr) (c : Nat) (w : World) (hn : n ≤ 70368744177664)
    (hx : xs.length = n) (hy : ys.length = n) (hb : ∀ y ∈ ys, y < 4294967296) (row : Row w g t (nums .u32 xs)) (rd : Rd w a (nums .u32 ys)) (hne : ∀ x, 0 < n → a = some x → x.block ≠ g) :
    Calls Try.prog 15 #[.slice (some ⟨g, 0, none⟩) n n, .slice a n c] w fun e w' =>
      e = .returned (.tuple #[]) ∧ Row w' g t (nums .u32 (List.zipWith sub32 xs ys)) ∧ w.grownBy w' (some g) := by
  have hxy : Hid (xs.length = ys.length) := hx.trans hy.symm
  have HX : Hid (xs.length = n) := hx
  have HY : Hid (ys.length = n) := hy
  have HB : Hid (∀ y ∈ ys, y < 4294967296) := hb
  clear hx hy hb
  go_enter Try.func15, Try.ntmps15
  go_wp2
  go_loopw [8] (fun i wr => ∃ k : Nat, k ≤ n ∧ i = .int .i64 k ∧ Row wr g t (nums .u32 (vpart sub32 k xs ys)) ∧ w.grownBy wr (some g)) (fun i _ => n - (intOf i).toNat)
  case atStart => exact ⟨0, Nat.zero_le _, rfl, by rw [vpart_zero]; exact row, World.grownBy.refl _ _⟩
  case round =>
    obtain ⟨k, hk, rfl, hrow, hgr⟩ := hrel
    by_cases hlt : k < n
    · have hkx : k < xs.length := by have := HX.out; omega
      have hky : k < ys.length := by have := HY.out; omega
      obtain ⟨b, off, y, rfl, Hy, hc⟩ := (rd.grown hgr (by intro x hp; exact hne x (by omega))).num hky
      obtain ⟨x, Hx', hcx⟩ := hrow.num (by rw [vpart_length _ _ _ _ hxy.out]; exact hkx)
      have hfz := hrow.free k
      go_wp2
      go_roundw
      case rel => exact ⟨k + 1, by omega, by go_num, row_step hrow hxy.out Hx'.out Hy.out _ (by have := HB.out y (List.mem_of_getElem? Hy.out); unfold sub32; omega), grown_trans hgr (grown_set _ _ _ _)⟩
      case measure => simp [intOf]; omega
    · have hkn : k = n := by omega
      go_wp2
      go_end0
      refine ⟨rfl, ?_, hgr⟩
      rw [hkn, vpart_all _ _ _ _ HX.out HY.out] at hrow
      exact hrow

theorem Try.infoU32 : (Try.prog.info? 28).map (fun i => (i.zero, i.size, i.bytes)) = some (some (.int .u32 0), 1, 4) := by kernel_rfl

theorem make_vec (n : Nat) (hn : n ≤ 70368744177664) : ∀ w : World, (Instr.makeSlice 38 (.int .i64 (n : Int)) (.int .i64 (n : Int))).run Try.prog w = .ok (.slice (some ⟨w.heap.size, 0, none⟩) n n) (w.alloc (.cells (nums .u32 (List.replicate n 0)).toArray 28)) :=
  make_nums Try.underlying38 Try.infoU32 n (by omega) (by omega)

theorem Try.sizeU32 : (Try.prog.info? 28).map (·.size) = some 1 := by kernel_rfl

set_option maxHeartbeats 1000000 in
theorem both_add (n : Nat) (xs ys : List Nat) (a b : Option Addr) (ca cb : Nat) (w : World) (hn : n ≤ 35184372088832)
    (hx : xs.length = n) (hy : ys.length = n) (rx : Rd w a (nums .u32 xs)) (ry : Rd w b (nums .u32 ys)) :
    Calls Try.prog 13 #[.func (.func 14) #[] #[], .slice a n ca, .slice b n cb] w fun e w' =>
      ∃ g, e = .returned (.tuple #[.slice (some ⟨g, 0, none⟩) n n, .int .i64 0]) ∧ Rd w' (some ⟨g, 0, none⟩) (nums .u32 (List.zipWith add32 xs ys)) ∧ Old w w' := by
  have hm := make_vec n (by omega) w
  have hc := fun ty => copy_nums (P := Try.prog) (dT := 38) (sT := 22) (ty := ty) Try.underlying38 Try.sizeU32 (k := .u32) n xs hx a ca (nums .u32 (List.replicate n 0)) (by simp [nums]) w rx
  have HX : Hid (xs.length = n) := hx
  have HY : Hid (ys.length = n) := hy
  clear hx hy
  go_enter Try.func13, Try.ntmps13
  go_wp2_with fail
  refine (vadd_any w.heap.size n 28 xs ys b cb _ (by omega) HX.out HY.out (Row.new w _ _) (ry.mono (Old.of_alloc _ _)) ?_).mono ?_
  · intro x hp hx
    have := ry.lt hx (by rw [nums_length, HY.out]; exact hp)
    omega
  rintro e w' ⟨rfl, row, gr⟩
  go_wp2
  go_ret2
  exact ⟨_, rfl, row.rd, (Old.of_alloc _ _).grown gr (Nat.le_refl _)⟩

set_option maxHeartbeats 1000000 in
theorem both_take (n : Nat) (xs ys : List Nat) (a b : Option Addr) (ca cb : Nat) (w : World) (hn : n ≤ 35184372088832)
    (hx : xs.length = n) (hy : ys.length = n) (hb : ∀ y ∈ ys, y < 4294967296) (rx : Rd w a (nums .u32 xs)) (ry : Rd w b (nums .u32 ys)) :
    Calls Try.prog 13 #[.func (.func 15) #[] #[], .slice a n ca, .slice b n cb] w fun e w' =>
      ∃ g, e = .returned (.tuple #[.slice (some ⟨g, 0, none⟩) n n, .int .i64 0]) ∧ Rd w' (some ⟨g, 0, none⟩) (nums .u32 (List.zipWith sub32 xs ys)) ∧ Old w w' := by
  have hm := make_vec n (by omega) w
  have hc := fun ty => copy_nums (P := Try.prog) (dT := 38) (sT := 22) (ty := ty) Try.underlying38 Try.sizeU32 (k := .u32) n xs hx a ca (nums .u32 (List.replicate n 0)) (by simp [nums]) w rx
  have HX : Hid (xs.length = n) := hx
  have HY : Hid (ys.length = n) := hy
  have HB : Hid (∀ y ∈ ys, y < 4294967296) := hb
  clear hx hy hb
  go_enter Try.func13, Try.ntmps13
  go_wp2_with fail
  refine (vtake_any w.heap.size n 28 xs ys b cb _ (by omega) HX.out HY.out HB.out (Row.new w _ _) (ry.mono (Old.of_alloc _ _)) ?_).mono ?_
  · intro x hp hx
    have := ry.lt hx (by rw [nums_length, HY.out]; exact hp)
    omega
  rintro e w' ⟨rfl, row, gr⟩
  go_wp2
  go_ret2
  exact ⟨_, rfl, row.rd, (Old.of_alloc _ _).grown gr (Nat.le_refl _)⟩


set_option maxHeartbeats 1000000 in
theorem both_unlike (f : Nat) (n m : Nat) (a b : Option Addr) (ca cb : Nat) (w : World) (hnm : n ≠ m) :
    Calls Try.prog 13 #[.func (.func f) #[] #[], .slice a n ca, .slice b m cb] w fun e w' =>
      e = .returned (.tuple #[.slice none 0 0, .int .i64 1]) ∧ w' = w := by
  have hd : ((n : Int) == (m : Int)) = false := by rw [beq_eq_false_iff_ne]; omega
  have hd2 : ((n : Int) != (m : Int)) = true := by rw [bne_iff_ne]; omega
  go_enter Try.func13, Try.ntmps13
  go_wp2
  go_ret2
  exact ⟨rfl, rfl⟩

set_option maxHeartbeats 1000000 in
theorem Add_ok (n : Nat) (xs ys : List Nat) (a b : Option Addr) (ca cb : Nat) (w : World) (hn : n ≤ 35184372088832)
    (hx : xs.length = n) (hy : ys.length = n) (rx : Rd w a (nums .u32 xs)) (ry : Rd w b (nums .u32 ys)) :
    Calls Try.prog 7 #[.slice a n ca, .slice b n cb] w fun e w' =>
      ∃ g, e = .returned (.tuple #[.slice (some ⟨g, 0, none⟩) n n, .int .i64 0]) ∧ Rd w' (some ⟨g, 0, none⟩) (nums .u32 (List.zipWith add32 xs ys)) ∧ Old w w' := by
  have HH := hide <| both_add n xs ys a b ca cb w hn hx hy rx ry
  clear hx hy
  go_enter Try.func7, Try.ntmps7
  go_wp2_with fail
  refine (HH.out).mono ?_
  rintro e w' ⟨g, rfl, rd, old⟩
  go_wp2
  go_ret2
  exact ⟨_, rfl, rd, old⟩

set_option maxHeartbeats 1000000 in
theorem Sub_ok (n : Nat) (xs ys : List Nat) (a b : Option Addr) (ca cb : Nat) (w : World) (hn : n ≤ 35184372088832)
    (hx : xs.length = n) (hy : ys.length = n) (hb : ∀ y ∈ ys, y < 4294967296) (rx : Rd w a (nums .u32 xs)) (ry : Rd w b (nums .u32 ys)) :
    Calls Try.prog 8 #[.slice a n ca, .slice b n cb] w fun e w' =>
      ∃ g, e = .returned (.tuple #[.slice (some ⟨g, 0, none⟩) n n, .int .i64 0]) ∧ Rd w' (some ⟨g, 0, none⟩) (nums .u32 (List.zipWith sub32 xs ys)) ∧ Old w w' := by
  have HH := hide <| both_take n xs ys a b ca cb w hn hx hy hb rx ry
  clear hx hy hb
  go_enter Try.func8, Try.ntmps8
  go_wp2_with fail
  refine (HH.out).mono ?_
  rintro e w' ⟨g, rfl, rd, old⟩
  go_wp2
  go_ret2
  exact ⟨_, rfl, rd, old⟩

set_option maxHeartbeats 1000000 in
theorem Add_no (n m : Nat) (a b : Option Addr) (ca cb : Nat) (w : World) (hnm : n ≠ m) :
    Calls Try.prog 7 #[.slice a n ca, .slice b m cb] w fun e w' => e = .returned (.tuple #[.slice none 0 0, .int .i64 1]) ∧ w' = w := by
  go_enter Try.func7, Try.ntmps7
  go_wp2_with fail
  refine (both_unlike _ n m a b ca cb w hnm).mono ?_
  rintro e w' ⟨rfl, rfl⟩
  go_wp2
  go_ret2
  exact ⟨rfl, rfl⟩
set_option maxHeartbeats 1000000 in
theorem Sub_no (n m : Nat) (a b : Option Addr) (ca cb : Nat) (w : World) (hnm : n ≠ m) :
    Calls Try.prog 8 #[.slice a n ca, .slice b m cb] w fun e w' => e = .returned (.tuple #[.slice none 0 0, .int .i64 1]) ∧ w' = w := by
  go_enter Try.func8, Try.ntmps8
  go_wp2_with fail
  refine (both_unlike _ n m a b ca cb w hnm).mono ?_
  rintro e w' ⟨rfl, rfl⟩
  go_wp2
  go_ret2
  exact ⟨rfl, rfl⟩

set_option maxHeartbeats 1000000 in
theorem Neg_any (n : Nat) (xs : List Nat) (a : Option Addr) (ca : Nat) (w : World) (hn : n ≤ 35184372088832)
    (hx : xs.length = n) (hb : ∀ x ∈ xs, x < 4294967296) (rx : Rd w a (nums .u32 xs)) :
    Calls Try.prog 11 #[.slice a n ca] w fun e w' =>
      ∃ g, e = .returned (.slice (some ⟨g, 0, none⟩) n n) ∧ Rd w' (some ⟨g, 0, none⟩) (nums .u32 (List.zipWith sub32 (List.replicate n 0) xs)) ∧ Old w w' := by
  have hm := make_vec n (by omega) w
  have HX : Hid (xs.length = n) := hx
  have HB : Hid (∀ x ∈ xs, x < 4294967296) := hb
  clear hx hb
  go_enter Try.func11, Try.ntmps11
  go_wp2_with fail
  refine (vtake_any w.heap.size n 28 (List.replicate n 0) xs a ca _ (by omega) (by simp) HX.out HB.out (Row.new w _ _) (rx.mono (Old.of_alloc _ _)) ?_).mono ?_
  · intro x hp hx
    have := rx.lt hx (by rw [nums_length, HX.out]; exact hp)
    omega
  rintro e w' ⟨rfl, row, gr⟩
  go_wp2
  go_ret
  exact ⟨_, rfl, row.rd, (Old.of_alloc _ _).grown gr (Nat.le_refl _)⟩

theorem all_upto {ps : List (Sl × List Nat)} {k : Nat} {n : Int} (h : ∀ p ∈ ps.take k, (p.1.len : Int) = n) {q : Sl × List Nat} (hq : ps[k]? = some q) (hn : (q.1.len : Int) = n) : ∀ p ∈ ps.take (k + 1), (p.1.len : Int) = n := by
  intro p hp
  rw [List.take_add_one, hq] at hp
  simp at hp
  rcases hp with hp | rfl
  · exact h p (by simpa using hp)
  · exact hn

set_option maxHeartbeats 1000000 in
theorem allHave_any (n : Int) (ps : List (Sl × List Nat)) (m : Nat) (al : Option Addr) (cl : Nat) (w : World) (hm : ps.length = m) (hm' : m ≤ 70368744177664) (rd : Rds .u32 w al ps) :
    Calls Try.prog 16 #[.int .i64 n, .slice al m cl] w fun e w' => e = .returned (.bool (decide (∀ p ∈ ps, (p.1.len : Int) = n))) ∧ w' = w := by
  have HM : Hid (ps.length = m) := hm
  clear hm
  go_enter Try.func16, Try.ntmps16
  go_wp2
  go_loop [9] (fun i => ∃ k : Nat, k ≤ m ∧ i = .int .i64 k ∧ Hid (∀ p ∈ ps.take k, (p.1.len : Int) = n)) (fun i => m - (intOf i).toNat)
  case atStart => exact ⟨0, Nat.zero_le _, rfl, by show ∀ p ∈ ps.take 0, _; simp⟩
  case round =>
    obtain ⟨k, hk, rfl, H⟩ := hrel
    by_cases hlt : k < m
    · obtain ⟨b, off, a, len, cap, xs, rfl, Hp, hc, Hl, rx⟩ := rd.at (i := k) (by have := HM.out; omega)
      by_cases hln : (len : Int) = n
      · have HN : Hid ((len : Int) = n) := hln
        have hd : ((len : Int) == n) = true := by rw [beq_iff_eq]; exact hln
        have hd2 : ((len : Int) != n) = false := by simp [hln]
        clear hln
        go_wp2
        go_round
        case rel => exact ⟨k + 1, by omega, by go_num, all_upto H.out Hp.out HN.out⟩
        case measure => simp [intOf]; omega
      · have hd : ((len : Int) == n) = false := by rw [beq_eq_false_iff_ne]; exact hln
        have hd2 : ((len : Int) != n) = true := by rw [bne_iff_ne]; exact hln
        have hmem := List.mem_of_getElem? Hp.out
        have hres : Hid (decide (∀ p ∈ ps, (p.1.len : Int) = n) = false) := by
          show decide _ = false
          rw [decide_eq_false_iff_not]
          intro h; exact hln (h _ hmem)
        clear hmem
        go_wp2
        go_ret
        rw [hres.out]
        exact ⟨rfl, rfl⟩
    · have hkn : k = m := by omega
      have hres : Hid (decide (∀ p ∈ ps, (p.1.len : Int) = n) = true) := by
        show decide _ = true
        rw [decide_eq_true_iff]
        have := H.out
        rwa [List.take_of_length_le (by have := HM.out; omega)] at this
      go_wp2
      go_ret
      rw [hres.out]
      exact ⟨rfl, rfl⟩

theorem sumv_step (n k : Nat) (ps : List (Sl × List Nat)) {q : Sl × List Nat} (hq : ps[k]? = some q) :
    List.zipWith add32 (sumv n ((ps.take k).map (·.2))) q.2 = sumv n ((ps.take (k + 1)).map (·.2)) := by
  rw [List.take_add_one, hq]
  simp [sumv]
set_option maxHeartbeats 1000000 in
theorem Sum_no (n : Int) (ps : List (Sl × List Nat)) (m : Nat) (al : Option Addr) (cl : Nat) (w : World) (hm : ps.length = m) (hm' : m ≤ 70368744177664) (rd : Rds .u32 w al ps)
    (h : n < 0 ∨ 2147483647 < n ∨ ¬ ∀ p ∈ ps, (p.1.len : Int) = n) :
    Calls Try.prog 10 #[.int .i64 n, .slice al m cl] w fun e w' => e = .returned (.tuple #[.slice none 0 0, .int .i64 1]) ∧ w' = w := by
  have HA := hide <| allHave_any n ps m al cl w hm hm' rd
  clear hm rd
  by_cases h1 : n < 0
  · clear h
    go_enter Try.func10, Try.ntmps10
    go_wp2
    go_ret2
    exact ⟨rfl, rfl⟩
  by_cases h2 : 2147483647 < n
  · clear h
    have h1' : 0 ≤ n := by omega
    go_enter Try.func10, Try.ntmps10
    go_wp2
    go_ret2
    exact ⟨rfl, rfl⟩
  have hr : Hid (decide (∀ p ∈ ps, (p.1.len : Int) = n) = false) := by
    show decide _ = false
    rw [decide_eq_false_iff_not]
    rcases h with h | h | h
    · omega
    · omega
    · exact h
  clear h
  have h1' : 0 ≤ n := by omega
  have h2' : n ≤ 2147483647 := by omega
  clear h1 h2
  have HA2 := HA.out
  rw [hr.out] at HA2
  have HA3 := hide HA2
  clear HA2 HA
  go_enter Try.func10, Try.ntmps10
  go_wp2_with fail
  refine (HA3.out).mono ?_
  rintro e w' ⟨rfl, rfl⟩
  go_wp2
  go_ret2
  exact ⟨rfl, rfl⟩

set_option maxHeartbeats 1000000 in
theorem Sum_ok (n : Nat) (ps : List (Sl × List Nat)) (m : Nat) (al : Option Addr) (cl : Nat) (w : World) (hm : ps.length = m) (hm' : m ≤ 70368744177664) (rd : Rds .u32 w al ps)
    (hn : n ≤ 2147483647) (h : ∀ p ∈ ps, p.1.len = n) :
    Calls Try.prog 10 #[.int .i64 n, .slice al m cl] w fun e w' =>
      ∃ g, e = .returned (.tuple #[.slice (some ⟨g, 0, none⟩) n n, .int .i64 0]) ∧ Rd w' (some ⟨g, 0, none⟩) (nums .u32 (sumv n (ps.map (·.2)))) ∧ Old w w' := by
  have HA := hide <| allHave_any n ps m al cl w hm hm' rd
  have hr : Hid (decide (∀ p ∈ ps, (p.1.len : Int) = (n : Int)) = true) := by
    show decide _ = true
    rw [decide_eq_true_iff]
    intro p hp; rw [h p hp]
  have HM : Hid (ps.length = m) := hm
  have H : Hid (∀ p ∈ ps, p.1.len = n) := h
  clear hm h
  have HA2 := HA.out
  rw [hr.out] at HA2
  have HA3 := hide HA2
  clear HA2 HA
  have hmk := make_vec n (by omega) w
  go_enter Try.func10, Try.ntmps10
  go_wp2_with fail
  refine (HA3.out).mono ?_
  rintro e w' ⟨rfl, rfl⟩
  go_wp2_with fail
  go_loopw [25] (fun i wr => ∃ k : Nat, k ≤ m ∧ i = .int .i64 k ∧ Row wr w'.heap.size 28 (nums .u32 (sumv n ((ps.take k).map (·.2)))) ∧ w'.grownBy wr (some w'.heap.size)) (fun i _ => m - (intOf i).toNat)
  case atStart => exact ⟨0, Nat.zero_le _, rfl, Row.new _ _ _, grown_old (Old.of_alloc _ _) _⟩
  case round =>
    obtain ⟨k, hk, rfl, hrow, hgr⟩ := hrel
    have hol : Old w' wr := (Old.refl w').grown hgr (Nat.le_refl _)
    by_cases hlt : k < m
    · obtain ⟨b, off, a, len, cap, xs, rfl, Hp, hc, Hl, rx⟩ := (rd.mono hol).at (i := k) (by have := HM.out; omega)
      obtain rfl : len = n := H.out _ (List.mem_of_getElem? Hp.out)
      have hlen : (sumv len ((ps.take k).map (·.2))).length = len := sumv_length len _ (by
        intro ys hys
        obtain ⟨p, hp, rfl⟩ := List.mem_map.1 hys
        have hp' := List.mem_of_mem_take hp
        rw [(rd.2 p hp').1, H.out p hp'])
      have HL := hide hlen
      clear hlen
      have hne : ∀ x, 0 < len → a = some x → x.block ≠ w'.heap.size := by
        intro x hp hx
        have := (rd.2 _ (List.mem_of_getElem? Hp.out)).2.lt hx (by rw [nums_length, Hl.out]; exact hp)
        omega
      have HN := hide hne
      clear hne
      go_wp2_with fail
      refine (vadd_any w'.heap.size len 28 _ xs a cap _ (by omega) HL.out Hl.out hrow rx HN.out).mono ?_
      rintro e w2 ⟨rfl, row2, gr2⟩
      go_wp2
      go_roundw
      case rel => exact ⟨k + 1, by omega, by go_num, by rw [← sumv_step len k ps Hp.out]; exact row2, grown_trans hgr gr2⟩
      case measure => simp [intOf]; omega
    · have hkm : k = m := by omega
      go_wp2
      go_ret2
      refine ⟨_, rfl, ?_, hol⟩
      rw [List.take_of_length_le (by have := HM.out; omega)] at hrow
      exact hrow.rd
end Go.Proofs.Ytooilnpghcdjiaa
