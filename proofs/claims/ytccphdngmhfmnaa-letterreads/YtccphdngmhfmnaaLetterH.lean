/-
  Package letter: what an Eye's calls do; Look.
-/
import Derived.Test.YtccphdngmhfmnaaLetterG
namespace Go.Proofs.Ytccphdngmhfmnaa
open Go.RowKit Cn
set_option linter.unusedVariables false

/-- What an Eye has left. -/
structure EyeB (w : World) (b : Nat) (a : Option Addr) (k : Nat) (r l : List Nat) (er : Int) : Prop where
  row : Row w b 71 [.slice a r.length k, .int .i64 er]
  room : r.length ≤ k
  rd : Rd w a (nums .u8 r)
  ne : ∀ x, 0 < r.length → a = some x → x.block ≠ b
  len : r.length ≤ 65536
  each : ∀ x ∈ r, x < 256
  ok : er = 0 → r = l
  no : er ≠ 0 → r = []
  lit : ∀ x, a = some x → ∃ b0 off, x = ⟨b0, off, none⟩
def EyeD (v : Value) (l : List Nat) (er : Int) (w : World) (O : Nat → Prop) : Prop :=
  ∃ (b : Nat) (a : Option Addr) (k : Nat) (r : List Nat), v = .pointer (some ⟨b, 0, none⟩) ∧ (∀ i, O i ↔ i = b ∨ ∃ x, 0 < r.length ∧ a = some x ∧ x.block = i) ∧ EyeB w b a k r l er
theorem EyeD.isIn {v : Value} {l : List Nat} {er : Int} {w : World} {O : Nat → Prop} (h : EyeD v l er w O) : ∀ i, O i → i < w.heap.size := by
  obtain ⟨b, a, k, r, rfl, hO, P⟩ := h
  intro i hi
  rcases (hO i).1 hi with rfl | ⟨x, hp, ha, rfl⟩
  · exact P.row.lt
  · exact P.rd.lt ha (by rw [nums_length]; exact hp)
theorem Rd.same {w w' : World} {a : Option Addr} {vs : List Value} (h : Rd w a vs) (hs : ∀ x, 0 < vs.length → a = some x → w'.heap[x.block]? = w.heap[x.block]?) : Rd w' a vs := by
  intro i v hv
  obtain ⟨b, off, rfl, hc⟩ := h i v hv
  refine ⟨b, off, rfl, ?_⟩
  rw [← hc]
  exact World.cell?_of_block (a := ⟨b, off + i, none⟩) (hs ⟨b, off, none⟩ (by have := (List.getElem?_eq_some_iff.1 hv).1; omega) rfl)
theorem EyeD.stay {v : Value} {l : List Nat} {er : Int} {w w' : World} {O : Nat → Prop} (h : EyeD v l er w O) (hs : ∀ i, O i → w'.heap[i]? = w.heap[i]?) (hz : w.heap.size ≤ w'.heap.size) : EyeD v l er w' O := by
  obtain ⟨b, a, k, r, rfl, hO, P⟩ := h
  exact ⟨b, a, k, r, rfl, hO, (hs b ((hO b).2 (.inl rfl))).trans P.row, P.room, P.rd.same (fun x hp ha => hs _ ((hO _).2 (.inr ⟨x, by rwa [nums_length] at hp, ha, rfl⟩))), P.ne, P.len, P.each, P.ok, P.no, P.lit⟩

set_option maxHeartbeats 1000000 in
theorem refuseE_any (b : Nat) (fv : Value) (er er' : Int) (w : World) (R : Row w b 71 [fv, .int .i64 er]) :
    Calls Try.prog 38 #[.pointer (some ⟨b, 0, none⟩), .int .i64 er'] w fun e w' => e = .returned (.tuple #[]) ∧ w.grownBy w' (some b) ∧ Row w' b 71 [.slice none 0 0, .int .i64 er'] := by
  have f0 := R.free 0
  have f1 := R.free 1
  have c0 := R.cell (i := 0) rfl
  have c1 := R.cell (i := 1) rfl
  have R2 : Hid (Row ((w.setCell ⟨b, 0, none⟩ (.slice none 0 0)).setCell ⟨b, 1, none⟩ (.int .i64 er')) b 71 [.slice none 0 0, .int .i64 er']) := (R.set 0 (.slice none 0 0)).set 1 (.int .i64 er')
  have G := hide (grown_trans (grown_set w b 0 (.slice none 0 0)) (grown_set (w.setCell ⟨b, 0, none⟩ (.slice none 0 0)) b 1 (.int .i64 er')))
  have f1' : (w.setCell ⟨b, 0, none⟩ (.slice none 0 0)).frozen? ⟨b, 1, none⟩ = false := (R.set 0 (.slice none 0 0)).free 1
  clear R
  go_enter Try.func38, Try.ntmps38
  go_wp2
  simp [bodyPost, results, Try.results38, go_sem]
  exact ⟨G.out, R2.out⟩
theorem EyeD.gone {b : Nat} {a : Option Addr} {k : Nat} {r l l' : List Nat} {er er' : Int} {w w' : World} {O : Nat → Prop} (P : EyeB w b a k r l er) (hO : ∀ i, O i ↔ i = b ∨ ∃ x, 0 < r.length ∧ a = some x ∧ x.block = i)
    (g : w.grownBy w' (some b)) (R : Row w' b 71 [.slice none 0 0, .int .i64 er']) (he : er' ≠ 0) : Turns O w w' (EyeD (.pointer (some ⟨b, 0, none⟩)) l' er') :=
  ⟨fun i => i = b, Kept.of_grown g ((hO b).2 (.inl rfl)), fun i hi => .inl ((hO i).2 (.inl hi)), b, none, 0, [], rfl, fun i => by simp, R, Nat.le_refl _, Rd.nil _, by simp, by simp, by simp, fun h => absurd h he, fun _ => rfl, by simp⟩

theorem rd_take {w : World} {a : Option Addr} {xs : List Nat} (h : Rd w a (nums .u8 xs)) (k : Nat) : Rd w a (nums .u8 (xs.take k)) := by
  intro i v hv
  rw [show nums .u8 (xs.take k) = (nums .u8 xs).take k by simp [nums, List.map_take], List.getElem?_take] at hv
  split at hv
  · exact h i v hv
  · cases hv
theorem rd_drop {w : World} {b off : Nat} {xs : List Nat} (h : Rd w (some ⟨b, off, none⟩) (nums .u8 xs)) (k : Nat) : Rd w (some ⟨b, off + k, none⟩) (nums .u8 (xs.drop k)) := by
  intro i v hv
  rw [show nums .u8 (xs.drop k) = (nums .u8 xs).drop k by simp [nums, List.map_drop], List.getElem?_drop] at hv
  obtain ⟨b2, o2, e, hcell⟩ := h (k + i) v hv
  obtain ⟨rfl, rfl⟩ : b = b2 ∧ off = o2 := by simpa using e
  exact ⟨b, off + k, rfl, by rw [Nat.add_assoc]; exact hcell⟩

/-- What take hands back. -/
def TakeR (O : Nat → Prop) (v : Value) (l : List Nat) (er : Int) (n : Nat) (w : World) (e : Ending) (w' : World) : Prop :=
  ∃ a k, e = .returned (.slice a (tkS l er n).length k) ∧ Rd w' a (nums .u8 (tkS l er n)) ∧ (∀ x ∈ tkS l er n, x < 256) ∧ Turns O w w' (EyeD v (tkL l er n) (tkE l er n))
theorem EyeD.same {v : Value} {l : List Nat} {er : Int} {w : World} {O : Nat → Prop} (h : EyeD v l er w O) : Turns O w w (EyeD v l er) := ⟨O, Kept.refl _ _, fun i hi => .inl hi, h⟩

set_option maxHeartbeats 4000000 in
theorem take_any (v : Value) (l : List Nat) (er : Int) (n : Nat) (hn : n ≤ 4294967295) (O : Nat → Prop) (w : World) (h : EyeD v l er w O) :
    Calls Try.prog 37 #[v, .int .i64 (n : Int)] w fun e w' => TakeR O v l er n w e w' := by
  have HT := hide h.same
  obtain ⟨b, a, k, r, rfl, hO, P⟩ := h
  have HO := hide hO
  have HP := hide P
  have c0 := P.row.cell (i := 0) rfl
  have c1 := P.row.cell (i := 1) rfl
  have f0 := P.row.free 0
  clear hO P
  by_cases he : er = 0
  · subst he
    obtain rfl := HP.out.ok rfl
    have t0 : ((0 : Int) != 0) = false := rfl
    by_cases hl : r.length < n
    · have E : tkS r 0 n = [] ∧ tkL r 0 n = [] ∧ tkE r 0 n = 3 := by unfold tkS tkL tkE; simp [hl]
      unfold TakeR
      rw [E.1, E.2.1, E.2.2]
      have t1 : decide ((r.length : Int) < (n : Int)) = true := decide_eq_true (by omega)
      have t1' : decide ((n : Int) > (r.length : Int)) = true := t1
      have t2 : decide (r.length < n) = true := decide_eq_true hl
      have C1 := hide (refuseE_any b _ 0 3 w HP.out.row)
      clear E HT hl
      go_enter Try.func37, Try.ntmps37
      go_wp2_with fail
      refine C1.out.mono ?_
      rintro e w1 ⟨rfl, g1, R1⟩
      have T := EyeD.gone (l' := []) HP.out HO.out g1 R1 (show (3 : Int) ≠ 0 by omega)
      clear C1 g1 R1
      go_wp2
      go_ret
      exact ⟨none, 0, rfl, Rd.nil _, by simp, T⟩
    · have E : tkS r 0 n = r.take n ∧ tkL r 0 n = r.drop n ∧ tkE r 0 n = 0 := by unfold tkS tkL tkE; simp [hl]
      unfold TakeR
      rw [E.1, E.2.1, E.2.2]
      have t1 : decide ((r.length : Int) < (n : Int)) = false := decide_eq_false (by omega)
      have t1' : decide ((n : Int) > (r.length : Int)) = false := t1
      have t2 : decide (r.length < n) = false := decide_eq_false hl
      have hk := HP.out.room
      have q0 : (0 : Int) ≤ n := by omega
      have q1 : (n : Int) ≤ k := by omega
      have q2 : (n : Int) ≤ r.length := by omega
      have lt : (r.take n).length = n := by rw [List.length_take]; omega
      have ld : (r.drop n).length = r.length - n := by rw [List.length_drop]
      have HLT := hide lt
      have HLD := hide ld
      rw [lt]
      clear E HT lt ld
      -- what is behind the two cuts
      have fin : ∀ (a' : Option Addr), (0 < r.length - n → ∃ b0 off, a = some ⟨b0, off, none⟩ ∧ a' = some ⟨b0, off + n, none⟩) → (∀ x, a' = some x → ∃ b0 off, x = ⟨b0, off, none⟩) → Hid (Turns O w (w.setCell ⟨b, 0, none⟩ (.slice a' (r.length - n) (k - n))) (EyeD (.pointer (some ⟨b, 0, none⟩)) (r.drop n) 0)) ∧ Hid (Rd (w.setCell ⟨b, 0, none⟩ (.slice a' (r.length - n) (k - n))) a (nums .u8 (r.take n))) := by
        intro a' ha' hl'
        have g := grown_set w b 0 (.slice a' (r.length - n) (k - n))
        have R2 : Row (w.setCell ⟨b, 0, none⟩ (.slice a' (r.length - n) (k - n))) b 71 [.slice a' (r.drop n).length (k - n), .int .i64 0] := by rw [HLD.out]; exact HP.out.row.set 0 _
        have RA : Rd (w.setCell ⟨b, 0, none⟩ (.slice a' (r.length - n) (k - n))) a (nums .u8 r) := HP.out.rd.same fun x hp hx => g.block _ (HP.out.rd.lt hx hp) (fun e => HP.out.ne x (by rwa [nums_length] at hp) hx (by cases e; rfl))
        have bk : ∀ x', 0 < (r.drop n).length → a' = some x' → ∃ x, 0 < r.length ∧ a = some x ∧ x.block = x'.block := by
          intro x' hp hx'
          rw [HLD.out] at hp
          obtain ⟨b0, off, e1, e2⟩ := ha' hp
          rw [e2] at hx'
          cases hx'
          exact ⟨_, by omega, e1, rfl⟩
        refine ⟨⟨fun i => i = b ∨ ∃ x, 0 < (r.drop n).length ∧ a' = some x ∧ x.block = i, Kept.of_grown g ((HO.out b).2 (.inl rfl)), fun i hi => ?_, b, a', k - n, r.drop n, rfl, fun i => Iff.rfl, R2, by rw [HLD.out]; omega, ?_, fun x hp hx => ?_, by rw [HLD.out]; have := HP.out.len; omega, fun x hx => HP.out.each x (List.mem_of_mem_drop hx), fun _ => rfl, fun h => absurd rfl h, hl'⟩, rd_take RA n⟩
        · rcases hi with h | ⟨x, hp, hx, e⟩
          · exact .inl ((HO.out i).2 (.inl h))
          · obtain ⟨x0, h1, h2, h3⟩ := bk x hp hx
            exact .inl ((HO.out i).2 (.inr ⟨x0, h1, h2, h3.trans e⟩))
        · by_cases hp : 0 < r.length - n
          · skip
            obtain ⟨b1, off1, e1, rfl⟩ := ha' hp
            rw [e1] at RA
            exact rd_drop RA n
          · rw [List.drop_eq_nil_of_le (by omega)]
            exact Rd.nil _
        · obtain ⟨x0, h1, h2, h3⟩ := bk x hp hx
          rw [← h3]
          exact HP.out.ne x0 h1 h2
      have lx := HP.out.each
      have HX : Hid (∀ x ∈ r.take n, x < 256) := fun x hx => lx x (List.mem_of_mem_take hx)
      clear lx
      cases a with
      | none =>
        have hr : r.length = 0 := by
          rcases Nat.eq_zero_or_pos r.length with h | h
          · exact h
          · obtain ⟨_, _, _, e, _⟩ := HP.out.rd.num (i := 0) h
            cases e
        obtain ⟨F1, F2⟩ := fin none (fun h => by omega) (by simp)
        rw [show r.length - n = 0 by omega] at F1 F2
        clear fin HP
        go_enter Try.func37, Try.ntmps37
        go_wp2
        go_ret
        exact ⟨_, _, rfl, F2.out, HX.out, F1.out⟩
      | some x =>
        obtain ⟨b0, off, rfl⟩ := HP.out.lit x rfl
        by_cases hkn : k = n
        · obtain ⟨F1, F2⟩ := fin (some ⟨b0, off, none⟩) (fun h => by omega) (fun x hx => by cases hx; exact ⟨_, _, rfl⟩)
          clear fin HP
          subst hkn
          rw [Nat.sub_self, show r.length - k = 0 by omega] at F1 F2
          go_enter Try.func37, Try.ntmps37
          go_wp2
          go_ret
          exact ⟨_, _, rfl, F2.out, HX.out, F1.out⟩
        · obtain ⟨F1, F2⟩ := fin (some ⟨b0, off + n, none⟩) (fun h => ⟨b0, off, rfl, rfl⟩) (fun x hx => by cases hx; exact ⟨_, _, rfl⟩)
          clear fin HP
          have q4 : 1 ≤ k - n := by omega
          have q5 : n < k := by omega
          go_enter Try.func37, Try.ntmps37
          go_wp2
          go_ret
          exact ⟨_, _, rfl, F2.out, HX.out, F1.out⟩
  · have E : tkS l er n = [] ∧ tkL l er n = l ∧ tkE l er n = er := by unfold tkS tkL tkE; simp [he]
    unfold TakeR
    rw [E.1, E.2.1, E.2.2]
    have t1 : (er != 0) = true := by simpa using he
    clear E HP HO he
    go_enter Try.func37, Try.ntmps37
    go_wp2
    go_ret
    exact ⟨none, 0, rfl, Rd.nil _, by simp, HT.out⟩

theorem EyeD.mono {v : Value} {l : List Nat} {er : Int} {w w' : World} {O : Nat → Prop} (h : EyeD v l er w O) (o : Old w w') : EyeD v l er w' O := h.stay (fun i hi => o.block i (h.isIn i hi)) o.size

set_option maxHeartbeats 1000000 in
theorem eSmall_any (v : Value) (l : List Nat) (er : Int) (O : Nat → Prop) (w : World) (h : EyeD v l er w O) :
    Calls Try.prog 21 #[v] w fun e w' => e = .returned (.int .i64 ((nmN l er 4 : Nat) : Int)) ∧ Turns O w w' (EyeD v (tkL l er 4) (tkE l er 4)) := by
  have C1 := hide (take_any v l er 4 (by omega) O w h)
  have C1' : Hid (Calls Try.prog 37 #[v, .int .i64 4] w fun e w' => TakeR O v l er 4 w e w') := C1
  have HL := hide (tkS_len l er 4)
  unfold nmN
  clear C1 h
  go_enter Try.func21, Try.ntmps21
  go_wp2_with fail
  refine C1'.out.mono ?_
  rintro e w1 ⟨a, k, rfl, rd, hx, T⟩
  have TT := hide T
  have C2 := hide (number_any a (tkS l er 4).length k (tkS l er 4) hx rfl (by have := HL.out; omega) w1 rd)
  have nl : numL (tkS l er 4) < 4294967296 := by
    have h1 := numL_lt hx
    have h2 : (256 : Nat) ^ (tkS l er 4).length ≤ 256 ^ 4 := Nat.pow_le_pow_right (by omega) HL.out
    exact Nat.lt_of_lt_of_le h1 (Nat.le_trans h2 (by decide))
  have e0 : IntKind.i64.wrap ((numL (tkS l er 4) : Nat) : Int) = ((numL (tkS l er 4) : Nat) : Int) := by rw [IntKind.wrap_i64]; omega
  have e1 : wrap64 ((numL (tkS l er 4) : Nat) : Int) = ((numL (tkS l er 4) : Nat) : Int) := by unfold wrap64; omega
  clear T rd hx C1' HL nl
  generalize hz : numL (tkS l er 4) = z at *
  have HZ := hide hz
  clear hz
  go_wp2_with fail
  refine C2.out.mono ?_
  rintro e w2 ⟨rfl, rfl⟩
  go_wp2
  go_ret
  exact ⟨by rw [HZ.out]; rfl, TT.out⟩

set_option maxHeartbeats 1000000 in
theorem eGreat_any (v : Value) (l : List Nat) (er : Int) (O : Nat → Prop) (w : World) (h : EyeD v l er w O) :
    Calls Try.prog 22 #[v] w fun e w' => e = .returned (.int .u64 ((nmN l er 8 : Nat) : Int)) ∧ Turns O w w' (EyeD v (tkL l er 8) (tkE l er 8)) := by
  have C1 := hide (take_any v l er 8 (by omega) O w h)
  have C1' : Hid (Calls Try.prog 37 #[v, .int .i64 8] w fun e w' => TakeR O v l er 8 w e w') := C1
  have HL := hide (tkS_len l er 8)
  unfold nmN
  clear C1 h
  go_enter Try.func22, Try.ntmps22
  go_wp2_with fail
  refine C1'.out.mono ?_
  rintro e w1 ⟨a, k, rfl, rd, hx, T⟩
  have TT := hide T
  have C2 := hide (number_any a (tkS l er 8).length k (tkS l er 8) hx rfl (by have := HL.out; omega) w1 rd)
  clear T rd hx C1' HL
  generalize hz : numL (tkS l er 8) = z at *
  have HZ := hide hz
  clear hz
  go_wp2_with fail
  refine C2.out.mono ?_
  rintro e w2 ⟨rfl, rfl⟩
  go_wp2
  go_ret
  exact ⟨by rw [HZ.out]; rfl, TT.out⟩

theorem nmN_below {l : List Nat} (er : Int) {n : Nat} (h : ∀ x ∈ tkS l er n, x < 256) : nmN l er n < 256 ^ n :=
  Nat.lt_of_lt_of_le (numL_lt h) (Nat.pow_le_pow_right (by omega) (tkS_len l er n))
theorem EyeD.each {v : Value} {l : List Nat} {er : Int} {w : World} {O : Nat → Prop} (h : EyeD v l er w O) (n : Nat) : ∀ x ∈ tkS l er n, x < 256 := by
  obtain ⟨b, a, k, r, rfl, hO, P⟩ := h
  by_cases he : er = 0
  · have := P.ok he
    subst this
    exact tkS_lt P.each er n
  · unfold tkS; rw [if_pos he]; simp

set_option maxHeartbeats 1000000 in
theorem eBytes_any (v : Value) (l : List Nat) (er : Int) (O : Nat → Prop) (w : World) (h : EyeD v l er w O) :
    Calls Try.prog 24 #[v] w fun e w' => ∃ a cap, e = .returned (.slice a (tkS (tkL l er 4) (tkE l er 4) (nmN l er 4)).length cap) ∧ Rd w' a (nums .u8 (tkS (tkL l er 4) (tkE l er 4) (nmN l er 4))) ∧ Turns O w w' (EyeD v (tkL (tkL l er 4) (tkE l er 4) (nmN l er 4)) (tkE (tkL l er 4) (tkE l er 4) (nmN l er 4))) := by
  have C1 := hide (eSmall_any v l er O w h)
  have nl : nmN l er 4 < 256 ^ 4 := nmN_below er (h.each 4)
  have nl2 : nmN l er 4 ≤ 4294967295 := by omega
  generalize nmN l er 4 = n at *
  generalize tkL l er 4 = l2 at *
  generalize tkE l er 4 = er2 at *
  have HN := hide nl2
  clear h nl nl2
  go_enter Try.func24, Try.ntmps24
  go_wp2_with fail
  refine C1.out.mono ?_
  rintro e w1 ⟨rfl, T⟩
  obtain ⟨O1, k1, h1, q1⟩ := T
  have C2 := hide (take_any v l2 er2 n HN.out O1 w1 q1)
  have K1 := hide k1
  have H1 := hide h1
  clear C1 k1 h1 q1
  go_wp2_with fail
  refine C2.out.mono ?_
  rintro e w2 ⟨a, k, rfl, rd, hx, T2⟩
  have RD := hide rd
  have T3 := hide T2
  clear rd hx T2 C2
  go_wp2
  go_ret
  refine ⟨a, k, rfl, RD.out, ?_⟩
  obtain ⟨O2, k2, h2, q2⟩ := T3.out
  refine ⟨O2, ⟨k2.os.trans K1.out.os, k2.tape.trans K1.out.tape, k2.output.trans K1.out.output, Nat.le_trans K1.out.size k2.size, fun i hi hn => ?_⟩, fun i hi => ?_, q2⟩
  · exact (k2.block i (Nat.lt_of_lt_of_le hi K1.out.size) (fun ho => by
      rcases H1.out i ho with h | h
      · exact hn h
      · omega)).trans (K1.out.block i hi hn)
  · rcases h2 i hi with h | h
    · exact H1.out i h
    · exact .inr (Nat.le_trans K1.out.size h)

set_option maxHeartbeats 1000000 in
theorem eEnd_any (v : Value) (l : List Nat) (er : Int) (O : Nat → Prop) (w : World) (h : EyeD v l er w O) :
    Calls Try.prog 25 #[v] w fun e w' => e = .returned (.int .i64 (endE l er)) ∧ Turns O w w' (EyeD v l (endE l er)) := by
  have HT := hide h.same
  obtain ⟨b, a, k, r, rfl, hO, P⟩ := h
  have HO := hide hO
  have HP := hide P
  have c0 := P.row.cell (i := 0) rfl
  have c1 := P.row.cell (i := 1) rfl
  have C1 := hide (refuseE_any b _ er 2 w P.row)
  by_cases hr : 0 < r.length
  · have he : er = 0 := by
      by_cases he : er = 0
      · exact he
      · rw [P.no he] at hr; exact absurd hr (by simp)
    subst he
    obtain rfl := P.ok rfl
    have E : endE r 0 = 2 := by unfold endE; rw [if_neg (by omega), if_neg (by omega)]
    rw [E]
    have t1 : decide ((0 : Int) < (r.length : Int)) = true := decide_eq_true (by omega)
    have t1' : decide ((r.length : Int) > 0) = true := t1
    have t2 : decide (0 < r.length) = true := decide_eq_true hr
    clear E HT P hO hr
    go_enter Try.func25, Try.ntmps25
    go_wp2_with fail
    refine C1.out.mono ?_
    rintro e w1 ⟨rfl, g1, R1⟩
    have T := hide (EyeD.gone (l' := r) HP.out HO.out g1 R1 (show (2 : Int) ≠ 0 by omega))
    have c3 := R1.cell (i := 1) rfl
    clear C1 g1 R1 c0 c1
    go_wp2
    go_ret
    exact ⟨rfl, T.out⟩
  · have E : endE l er = er := by
      unfold endE
      by_cases he : er = 0
      · subst he
        rw [if_neg (by omega), ← P.ok rfl, if_pos (by omega)]
      · rw [if_pos he]
    rw [E]
    have hr0 : r.length = 0 := by omega
    have t1 : decide ((0 : Int) < (r.length : Int)) = false := decide_eq_false (by omega)
    have t1' : decide ((r.length : Int) > 0) = false := t1
    have t2 : decide (0 < r.length) = false := decide_eq_false hr
    clear E P hO hr hr0 C1 HP HO
    go_enter Try.func25, Try.ntmps25
    go_wp2
    go_ret
    exact ⟨rfl, HT.out⟩
end Go.Proofs.Ytccphdngmhfmnaa
