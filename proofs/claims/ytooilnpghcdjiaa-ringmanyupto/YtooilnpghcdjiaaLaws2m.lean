/-
  The walk of RingMany: it returns true at any number and vectors of at most 2^20 values in all.
-/
import Derived.Test.YtooilnpghcdjiaaLaws2
namespace Go.Proofs.Ytooilnpghcdjiaa
open Go.RowKit Vec
set_option linter.unusedVariables false

/-- What RingMany's own look at the lengths comes to. -/
def wantE (n : Int) (qs : List (Sl × List Nat)) : Int := if n < 0 ∨ ¬ ∀ p ∈ qs, (p.1.len : Int) = n then 1 else 0
theorem wantE_nil (n : Int) : wantE n [] = if n < 0 then 1 else 0 := by simp [wantE]
theorem wantE_same {n : Int} {ps : List (Sl × List Nat)} {k : Nat} {q : Sl × List Nat} (hq : ps[k]? = some q) (hn : (q.1.len : Int) = n) : wantE n (ps.take (k + 1)) = wantE n (ps.take k) := by
  unfold wantE
  rw [List.take_add_one, hq]
  simp only [Option.toList_some, List.mem_append, List.mem_singleton, or_imp, forall_and, forall_eq, hn, and_true]
theorem wantE_other {n : Int} {ps : List (Sl × List Nat)} {k : Nat} {q : Sl × List Nat} (hq : ps[k]? = some q) (hn : ¬ (q.1.len : Int) = n) : wantE n (ps.take (k + 1)) = 1 := by
  unfold wantE
  rw [List.take_add_one, hq, if_pos]
  right
  intro h
  exact hn (h q (by simp))

theorem col_step {ps : List (Sl × List Nat)} {k i : Nat} {s : Sl} {xs : List Nat} {x : Nat} (hq : ps[k]? = some (s, xs)) (hx : xs[i]? = some x) :
    col ((ps.take (k + 1)).map (·.2)) i = col ((ps.take k).map (·.2)) i + x := by
  rw [List.take_add_one, hq]
  simp only [Option.toList_some, List.map_append, List.map_cons, List.map_nil, col_snoc]
  simp [List.getD, hx]
theorem col_bound {ps : List (Sl × List Nat)} {k i : Nat} (h : ∀ p ∈ ps, ∀ x ∈ p.2, x < 4294967296) (hk : k ≤ 1048576) : col ((ps.take k).map (·.2)) i ≤ 4503599626321920 := by
  have h1 := col_le ((ps.take k).map (·.2)) i (by
    intro xs hxs
    obtain ⟨p, hp, rfl⟩ := List.mem_map.1 hxs
    exact h p (List.mem_of_mem_take hp))
  have h2 : ((ps.take k).map (·.2)).length ≤ 1048576 := by simp; omega
  have : ((ps.take k).map (·.2)).length * 4294967295 ≤ 1048576 * 4294967295 := Nat.mul_le_mul_right _ h2
  omega

set_option maxHeartbeats 4000000 in
theorem walk_RingMany (v0 v1 : Value) (w : World) (h0 : IsInt .i64 v0) (h1 : IsRows .u32 4294967296 1048576 w v1) :
    Calls Try.prog 4 #[v0, v1] w fun e w' => e = .returned (.bool true) ∧ Old w w' := by
  obtain ⟨n, rfl, wn⟩ := h0
  obtain ⟨al, m, cl, ps, rfl, hpl, rd, hps, hm, _⟩ := h1
  have bn := bounds_i64 wn
  clear wn
  have HPL := hide hpl
  have HPS := hide hps
  clear hpl hps
  by_cases hg : m = 0 ∧ 1048576 < n
  · obtain ⟨rfl, hg⟩ := hg
    go_enter Try.func4, Try.ntmps4
    go_wp2_with fail
    refine (awake2 _).mono ?_
    rintro e w4 ⟨rfl, o4⟩
    go_wp2
    go_ret
    exact ⟨rfl, o4⟩
  have hgd : ((m : Int) == 0) = true ∧ n ≤ 1048576 ∨ ((m : Int) == 0) = false := by
    by_cases h0 : m = 0
    · left; exact ⟨by rw [beq_iff_eq]; omega, by omega⟩
    · right; rw [beq_eq_false_iff_ne]; omega
  clear hg
  by_cases hok : 0 ≤ n ∧ ∀ p ∈ ps, (p.1.len : Int) = n
  · obtain ⟨hn0, hall⟩ := hok
    obtain ⟨n, rfl⟩ := Int.eq_ofNat_of_zero_le hn0
    have hlen : ∀ p ∈ ps, p.1.len = n := fun p hp => by have := hall p hp; omega
    have hnb : n ≤ 1048576 := by
      rcases hgd with ⟨_, h⟩ | h
      · omega
      · rw [beq_eq_false_iff_ne] at h
        have hp : 0 < ps.length := by have := HPL.out; omega
        have h1 := (HPS.out ps[0] (List.getElem_mem hp)).2
        have h2 := hlen ps[0] (List.getElem_mem hp)
        omega
    have HW : Hid (∀ k, wantE n (ps.take k) = 0) := by
      intro k
      unfold wantE
      rw [if_neg]
      rintro (h | h)
      · omega
      · exact h fun p hp => hall p (List.mem_of_mem_take hp)
    have HL := hide hlen
    clear hall hlen hn0 bn
    have HSL := hide (sumv_length n (ps.map (·.2)) (by
      intro xs hxs
      obtain ⟨p, hp, rfl⟩ := List.mem_map.1 hxs
      rw [(rd.2 p hp).1, HL.out p hp]))
    rcases hgd with ⟨hm0, hgn⟩ | hm0
    all_goals
      go_enter Try.func4, Try.ntmps4
      go_wp2_with fail
      refine (Sum_ok n ps m al cl _ HPL.out (by omega) rd (by omega) HL.out).mono ?_
      rintro e w1 ⟨g1, rfl, r1, o1⟩
      have O1 := hide o1
      replace rd := rd.mono o1
      clear o1
      go_wp2_with fail
      go_loop [7, 8] (fun v i => ∃ k : Nat, k ≤ m ∧ v = .int .i64 0 ∧ i = .int .i64 k) (fun _ i => m - (intOf i).toNat)
      case atStart => exact ⟨0, Nat.zero_le _, rfl, rfl⟩
      case round =>
        obtain ⟨k, hk, rfl, rfl⟩ := hrel
        by_cases hlt : k < m
        · obtain ⟨b, off, a, len, cap, xs, rfl, Hp, hc, Hl, rx⟩ := rd.at (i := k) (by have := HPL.out; omega)
          obtain rfl : len = n := HL.out _ (List.mem_of_getElem? Hp.out)
          go_wp2
          go_round
          case rel => exact ⟨k + 1, by omega, by first | rfl | trivial, by go_num⟩
          case measure => simp [intOf]; omega
        · go_wp2_with fail
          go_loop [9] (fun i => ∃ k : Nat, k ≤ n ∧ i = .int .i64 k) (fun i => n - (intOf i).toNat)
          case atStart => exact ⟨0, Nat.zero_le _, rfl⟩
          case round =>
            obtain ⟨i, hi, rfl⟩ := hrel
            by_cases hin : i < n
            · obtain ⟨b2, o2, z, e2, Hz, hcz⟩ := r1.num (i := i) (by have := HSL.out; omega)
              obtain ⟨rfl, rfl⟩ : g1 = b2 ∧ 0 = o2 := by simpa using e2
              clear e2
              rw [Nat.zero_add] at hcz
              have hz := sumv_get n i hin (ps.map (·.2)) (by
                intro xs hxs
                obtain ⟨p, hp, rfl⟩ := List.mem_map.1 hxs
                rw [(rd.2 p hp).1, HL.out p hp])
              have HZ := hide (show z = col (ps.map (·.2)) i % 4294967296 by
                have := Hz.out.symm.trans hz
                simpa using this)
              clear hz
              have hzb : z < 4294967296 := by rw [HZ.out]; exact Nat.mod_lt _ (by omega)
              go_wp2_with fail
              go_loop [10, 11] (fun s j => ∃ (j' c : Nat), j' ≤ m ∧ j = .int .i64 j' ∧ s = .int .u64 c ∧ c ≤ 4503599626321920 ∧ Hid (c = col ((ps.take j').map (·.2)) i)) (fun _ j => m - (intOf j).toNat)
              case atStart => exact ⟨0, 0, Nat.zero_le _, rfl, rfl, Nat.zero_le _, by show 0 = col (List.map _ (ps.take 0)) i; simp [col]⟩
              case round =>
                obtain ⟨j, c, hj, rfl, rfl, hcb, HC⟩ := hrel
                by_cases hjm : j < m
                · obtain ⟨b3, off3, a3, len3, cap3, xs3, rfl, Hp3, hc3, Hl3, rx3⟩ := rd.at (i := j) (by have := HPL.out; omega)
                  obtain rfl : len3 = n := HL.out _ (List.mem_of_getElem? Hp3.out)
                  obtain ⟨b4, off4, x4, rfl, Hx4, hc4⟩ := rx3.num (i := i) (by have := Hl3.out; omega)
                  have hx4 := (HPS.out _ (List.mem_of_getElem? Hp3.out)).1 x4 (List.mem_of_getElem? Hx4.out)
                  have hj0 : (0 : Int) ≤ (j : Int) := by omega
                  have hi0 : (0 : Int) ≤ (i : Int) := by omega
                  have hji : (j : Int) < (m : Int) := by omega
                  have hii : (i : Int) < (len3 : Int) := by omega
                  have HS := hide (show c + x4 = col ((ps.take (j + 1)).map (·.2)) i by rw [col_step Hp3.out Hx4.out, ← HC.out])
                  have HB := hide (show c + x4 ≤ 4503599626321920 by
                    rw [HS.out]
                    exact col_bound (fun p hp => (HPS.out p hp).1) (by omega))
                  go_wp2
                  go_round
                  case rel => exact ⟨j + 1, c + x4, by omega, by go_num, by go_num, HB.out, HS.out⟩
                  case measure => simp [intOf]; omega
                · have HE := hide (show (z : Int) = (c : Int) % 4294967296 by
                    have h1 := HC.out
                    rw [List.take_of_length_le (by have := HPL.out; omega)] at h1
                    have h2 := HZ.out
                    rw [← h1] at h2
                    omega)
                  have t1 : ((z : Int) != (c : Int) % 4294967296) = false := by rw [HE.out]; simp
                  go_wp2
                  go_round
                  case rel => exact ⟨i + 1, by omega, by go_num⟩
                  case measure => simp [intOf]; omega
            · go_wp2_with fail
              refine (awake2 _).mono ?_
              rintro e w4 ⟨rfl, o4⟩
              go_wp2
              go_ret
              exact ⟨rfl, O1.out.trans o4⟩
  · have hbad := hide (show n < 0 ∨ 2147483647 < n ∨ ¬ ∀ p ∈ ps, (p.1.len : Int) = n by
      by_cases h : n < 0
      · exact .inl h
      · right; right
        intro h'
        exact hok ⟨by omega, h'⟩)
    have HW := hide (show wantE n (ps.take m) = 1 by
      rw [List.take_of_length_le (by have := HPL.out; omega)]
      unfold wantE
      rw [if_pos]
      by_cases h : n < 0
      · exact .inl h
      · right
        intro h'
        exact hok ⟨by omega, h'⟩)
    clear hok
    have hst : (n < 0 ∨ 0 ≤ n) := by omega
    rcases hgd with ⟨hm0, hgn⟩ | hm0
    all_goals rcases hst with hs | hs
    all_goals
      go_enter Try.func4, Try.ntmps4
      go_wp2_with fail
      refine (Sum_no n ps m al cl _ HPL.out (by omega) rd hbad.out).mono ?_
      rintro e w1 ⟨rfl, rfl⟩
      go_wp2_with fail
      go_loop [7, 8] (fun v i => ∃ k : Nat, k ≤ m ∧ v = .int .i64 (wantE n (ps.take k)) ∧ i = .int .i64 k) (fun _ i => m - (intOf i).toNat)
      case atStart => exact ⟨0, Nat.zero_le _, by rw [List.take_zero, wantE_nil]; first | rw [if_pos hs] | rw [if_neg (by omega)], rfl⟩
      case round =>
        obtain ⟨k, hk, rfl, rfl⟩ := hrel
        by_cases hlt : k < m
        · obtain ⟨b, off, a, len, cap, xs, rfl, Hp, hc, Hl, rx⟩ := rd.at (i := k) (by have := HPL.out; omega)
          by_cases hln : (len : Int) = n
          · have HN := hide hln
            have hd : ((len : Int) == n) = true := by rw [beq_iff_eq]; exact hln
            have hd2 : ((len : Int) != n) = false := by simp [hln]
            clear hln
            go_wp2
            go_round
            case rel => exact ⟨k + 1, by omega, by rw [wantE_same Hp.out HN.out], by go_num⟩
            case measure => simp [intOf]; omega
          · have HN := hide hln
            have hd : ((len : Int) == n) = false := by rw [beq_eq_false_iff_ne]; exact hln
            have hd2 : ((len : Int) != n) = true := by rw [bne_iff_ne]; exact hln
            clear hln
            go_wp2
            go_round
            case rel => exact ⟨k + 1, by omega, by rw [wantE_other Hp.out HN.out], by go_num⟩
            case measure => simp [intOf]; omega
        · obtain rfl : k = m := by omega
          rw [HW.out]
          go_wp2_with fail
          refine (awake2 _).mono ?_
          rintro e w4 ⟨rfl, o4⟩
          go_wp2
          go_ret
          exact ⟨rfl, o4⟩
end Go.Proofs.Ytooilnpghcdjiaa
