/-
  The landed bell: Set, Next, Strike, New; so it is what a bell owes.
-/
import Derived.Test.YtnmigdcedcmbkaaBellV
namespace Go.Proofs.Ytnmigdcedcmbkaa
open Go.RowKit Bl Hp Pn
set_option linter.unusedVariables false
section
variable {N : Nat} {B : Nat → Prop} {bb : Nat} {l : List Mk} {w : World}
/-- A moment is made, and comes in. -/
theorem in_any (S : St19 N B bb l w) (m : Mk) (hn : hasL l m.1 = false) (hw : B64 m.1) (hl : l.length ≤ 1000) :
    Calls Try.prog 14 #[.pointer (some ⟨bb, 0, none⟩), .pointer (some ⟨w.heap.size, 0, none⟩)] (w.alloc (.cells #[.int .i64 m.1, .int .i64 m.2, .int .i64 0] 53)) fun e w' => e = .returned (.tuple #[]) ∧ St19 N B bb (l ++ [m]) w' ∧ Fr N B w w' := by
  have O := Old.of_alloc w (.cells #[.int .i64 m.1, .int .i64 m.2, .int .i64 0] 53)
  have r : Mom (w.alloc (.cells #[.int .i64 m.1, .int .i64 m.2, .int .i64 0] 53)) w.heap.size m := ⟨0, Row.new w _ _⟩
  have hg : B w.heap.size ∨ N ≤ w.heap.size := .inr S.new
  have f0 : Fr N B w _ := Fr.of_old O S.new
  rcases S.lies with ⟨rfl, rb⟩ | ⟨gm, hm, xs, ms, F, P⟩
  · refine (in19_new (rb.mono O) S.its (Nat.le_trans S.new O.size) w.heap.size m hw r hg).mono ?_
    rintro e w' ⟨he, gm, hm, ys, ms, F, hp, fr⟩
    exact ⟨he, ⟨Nat.le_trans (Nat.le_trans S.new O.size) fr.size, S.its, .inr ⟨gm, hm, ys, ms, F, by simpa using hp.map Prod.snd⟩⟩, f0.trans fr⟩
  · have F2 := F.move (N' := N) (B' := B) (fun _ _ h => h) (Nat.le_trans S.new O.size) (fun q hq _ => O.block q hq)
    have hlen : xs.length = l.length := by rw [← P.length_eq]; simp
    have hnone : lookP ms m.1 = none := by
      have := hasL_perm F.link P m.1
      rw [hn] at this
      cases h : lookP ms m.1 with
      | none => rfl
      | some g => rw [h] at this; cases this
    refine (in19 F2 w.heap.size m hnone hw (by omega) r hg fun y hy e => ?_).mono ?_
    · obtain ⟨k, hk, rfl⟩ := List.mem_iff_getElem.1 hy
      have := (F.hp.each k _ (List.getElem?_eq_getElem hk)).lt
      omega
    · rintro e w' ⟨he, hm', ys, ms', F3, hp, fr⟩
      refine ⟨he, ⟨Nat.le_trans (Nat.le_trans S.new O.size) fr.size, S.its, .inr ⟨gm, hm', ys, ms', F3, ?_⟩⟩, f0.trans fr⟩
      have := hp.map Prod.snd
      rw [List.map_append] at this
      exact this.trans (P.append_right [m])

set_option maxHeartbeats 2000000 in
theorem set19 (S : St19 N B bb l w) (h1 : One1 l) (hl : l.length ≤ 1000) (who t : Int) (hw : B64 who) (ht : B64 t) :
    Calls Try.prog 9 #[.pointer (some ⟨bb, 0, none⟩), .int .i64 who, .int .i64 t] w fun e w' => e = .returned (.int .i64 (setE t : Nat)) ∧ St19 N B bb (if setE t = 0 then setL l who t else l) w' ∧ Fr N B w w' := by
  by_cases h0 : t < 0
  · have e : setE t = 1 := by unfold setE; rw [if_neg (by omega)]
    rw [e]
    have d1 : decide (t < 0) = true := decide_eq_true h0
    have E : Hid (St19 N B bb (if 1 = 0 then setL l who t else l) w) := S
    clear e h0 S
    go_enter Try.func9, Try.ntmps9
    go_wp2_with fail
    go_ret
    exact ⟨rfl, E.out, Fr.refl N B w⟩
  · have d1 : decide (t < 0) = false := decide_eq_false h0
    by_cases h2 : 1099511627776 < t
    · have e : setE t = 1 := by unfold setE; rw [if_neg (by omega)]
      rw [e]
      have d2 : decide (1099511627776 < t) = true := decide_eq_true h2
      have E : Hid (St19 N B bb (if 1 = 0 then setL l who t else l) w) := S
      clear e h0 h2 S
      go_enter Try.func9, Try.ntmps9
      go_wp2_with fail
      go_ret
      exact ⟨rfl, E.out, Fr.refl N B w⟩
    · have e : setE t = 0 := by unfold setE; rw [if_pos (by omega)]
      rw [e, if_pos rfl]
      have d2 : decide (1099511627776 < t) = false := decide_eq_false h2
      have C := hide (stop19 S h1 who hw)
      have D := hide (fun (w' : World) (s : St19 N B bb (stopL l who) w') => in_any s (who, t) (hasL_stop l who) hw (Nat.le_trans (stopL_length l who) hl))
      have P := hide (set_perm h1 who t)
      clear e h0 h2 S h1 hl hw ht
      go_enter Try.func9, Try.ntmps9
      go_wp2_with fail
      refine C.out.mono ?_
      rintro e w1 ⟨rfl, s1, f1⟩
      have D1 := hide (D.out w1 s1)
      have F1 := hide f1
      clear C D s1 f1
      go_wp2_with fail
      refine D1.out.mono ?_
      rintro e w2 ⟨rfl, s2, f2⟩
      have E : Hid (St19 N B bb (setL l who t) w2 ∧ Fr N B w w2) := ⟨⟨s2.new, s2.its, by
        rcases s2.lies with ⟨e0, _⟩ | ⟨gm, hm, xs, ms, F, hp⟩
        · simp at e0
        · exact .inr ⟨gm, hm, xs, ms, F, hp.trans P.out⟩⟩, F1.out.trans f2⟩
      clear D1 F1 P s2 f2
      go_wp2
      go_ret
      exact ⟨rfl, E.out⟩

set_option maxHeartbeats 2000000 in
theorem next19_none (S : St19 N B bb [] w) :
    Calls Try.prog 13 #[.pointer (some ⟨bb, 0, none⟩)] w fun e w' => e = .returned (.tuple #[.int .i64 0, .bool false]) ∧ w' = w := by
  obtain ⟨a, cap, c1⟩ : ∃ a cap, w.cell? ⟨bb, 0, none⟩ = some (.slice a 0 cap) := by
    rcases S.lies with ⟨_, rb⟩ | ⟨gm, hm, xs, ms, F, P⟩
    · exact ⟨none, 0, rb.cell (i := 0) rfl⟩
    · obtain ⟨a, cap, h⟩ := F.hp.at
      rw [show xs.length = 0 by have := P.length_eq; simpa using this] at h
      exact ⟨a, cap, h⟩
  clear S
  go_enter Try.func13, Try.ntmps13
  go_wp2_with fail
  go_ret2
  exact ⟨rfl, rfl⟩
/-- There is one: all is there. -/
theorem St19.some (S : St19 N B bb l w) {m : Mk} (h : bestL l = some m) : ∃ gm hm xs ms n, Full N B bb gm hm xs ms w ∧ (xs.map Prod.snd).Perm l ∧ xs.length = n + 1 ∧ (xs.getD 0 default).2 = m := by
  rcases S.lies with ⟨rfl, rb⟩ | ⟨gm, hm, xs, ms, F, P⟩
  · cases h
  · have hx : 0 < xs.length := by
      cases xs with
      | nil =>
        have := P.length_eq
        have : l = [] := List.eq_nil_of_length_eq_zero (by simpa using this.symm)
        subst this
        cases h
      | cons x r => simp
    have := best_first P F.heap hx
    rw [h] at this
    cases this
    exact ⟨gm, hm, xs, ms, xs.length - 1, F, P, by omega, rfl⟩

set_option maxHeartbeats 2000000 in
theorem next19_some (S : St19 N B bb l w) (m : Mk) (h : bestL l = some m) :
    Calls Try.prog 13 #[.pointer (some ⟨bb, 0, none⟩)] w fun e w' => e = .returned (.tuple #[.int .i64 m.2, .bool true]) ∧ w' = w := by
  obtain ⟨gm, hm, xs, ms, n, F, P, hn, e⟩ := S.some h
  obtain ⟨a, cap, c1⟩ := F.hp.at
  obtain ⟨g, rfl, c2, -, r⟩ := F.hp.ptr c1 (i := 0) (by omega)
  have c3 := r.cell (i := 1) rfl
  rw [e] at c3
  rw [hn] at c1
  have t0 : (n : Int) + 1 ≠ 0 := by omega
  have t1 : ((n : Int) + 1 == 0) = false := by rw [beq_eq_false_iff_ne]; exact t0
  have t2 : (0 : Int) < (n : Int) + 1 := by omega
  clear S F P hn e r h t0
  generalize (xs.getD 0 default).1 = gx at *
  go_enter Try.func13, Try.ntmps13
  go_wp2_with fail
  go_ret2
  exact ⟨rfl, rfl⟩

set_option maxHeartbeats 2000000 in
theorem strike19_none (S : St19 N B bb l w) (now : Int) (h : dueL l now = none) :
    Calls Try.prog 12 #[.pointer (some ⟨bb, 0, none⟩), .int .i64 now] w fun e w' => e = .returned (.tuple #[.int .i64 0, .bool false]) ∧ w' = w := by
  unfold dueL at h
  split at h
  · rename_i e
    have : l = [] := bestL_none e
    subst this
    have C := hide (next19_none S)
    clear S e h
    go_enter Try.func12, Try.ntmps12
    go_wp2_with fail
    refine C.out.mono ?_
    rintro e w1 ⟨rfl, rfl⟩
    clear C
    go_wp2
    go_ret2
    exact ⟨rfl, rfl⟩
  · rename_i m e
    split at h
    · cases h
    · rename_i hm
      have C := hide (next19_some S m e)
      have d1 : decide (now < m.2) = true := decide_eq_true (by omega)
      clear S e h hm
      generalize m.2 = t at *
      go_enter Try.func12, Try.ntmps12
      go_wp2_with fail
      refine C.out.mono ?_
      rintro e w1 ⟨rfl, rfl⟩
      clear C
      go_wp2
      go_ret2
      exact ⟨rfl, rfl⟩

set_option maxHeartbeats 2000000 in
theorem strike19_some (S : St19 N B bb l w) (h1 : One1 l) (now : Int) (m : Mk) (h : dueL l now = some m) :
    Calls Try.prog 12 #[.pointer (some ⟨bb, 0, none⟩), .int .i64 now] w fun e w' => e = .returned (.tuple #[.int .i64 m.1, .bool true]) ∧ St19 N B bb (stopL l m.1) w' ∧ Fr N B w w' := by
  have hd : bestL l = some m ∧ m.2 ≤ now := by
    unfold dueL at h
    split at h
    · cases h
    · rename_i m' e
      split at h
      · rename_i hm
        cases h
        exact ⟨e, hm⟩
      · cases h
  have C := hide (next19_some S m hd.1)
  have d1 : decide (now < m.2) = false := decide_eq_false (by omega)
  obtain ⟨gm, hm, xs, ms, n, F, P, hn, e⟩ := S.some hd.1
  have D := out19 F hn (Nat.zero_le n)
  have K := hide (fun (zs : List El) (k : (zs ++ [xs.getD 0 default]).Perm xs) => stop_perm P k h1)
  have SN := hide (fun (w' : World) (f : Fr N B w w') => Nat.le_trans S.new f.size)
  have SI := hide S.its
  revert D K
  generalize xs.getD 0 default = x at e
  obtain ⟨gx, mx⟩ := x
  dsimp only at e ⊢
  subst e
  intro D K
  have D := hide D
  clear S F P hn h hd
  generalize hwho : mx.1 = who at *
  generalize hat : mx.2 = t at *
  go_enter Try.func12, Try.ntmps12
  go_wp2_with fail
  refine C.out.mono ?_
  rintro e w1 ⟨rfl, rfl⟩
  clear C
  go_wp2_with fail
  refine D.out.mono ?_
  rintro e w2 ⟨rfl, hm', zs, ms', F', k, ⟨p, r⟩, fr⟩
  have c1 := r.cell (i := 0) rfl
  have E : Hid (St19 N B bb (stopL l who) w2 ∧ Fr N B w1 w2) := ⟨⟨SN.out w2 fr, SI.out, .inr ⟨gm, hm', zs, ms', F', K.out zs k⟩⟩, fr⟩
  rw [hwho] at c1
  clear D K SN SI F' k fr r
  go_wp2
  go_ret2
  exact ⟨rfl, E.out⟩
end
end Go.Proofs.Ytnmigdcedcmbkaa
