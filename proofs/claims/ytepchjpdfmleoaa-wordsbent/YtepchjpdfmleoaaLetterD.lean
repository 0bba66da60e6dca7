/-
  Package letter: a Paper, and what its calls do to it.
-/
import Derived.Test.YtepchjpdfmleoaaMgLetA
import Derived.Test.YtepchjpdfmleoaaOwnB
namespace Go.Proofs.Ytepchjpdfmleoaa
open Go.RowKit Cn
set_option linter.unusedVariables false

/-- What is written of st lies as s, with what was wrong. -/
def PSt (st : Option (List Nat)) (s : List Nat) (er : Int) : Prop := (er = 0 ∧ st = some s) ∨ (er = 4 ∧ st = none ∧ s = []) ∨ (er = 6 ∧ s = [] ∧ ∃ l, st = some l ∧ 65536 < l.length)
/-- A Paper in its box, its fields in a slice of its own. -/
structure PapB (w : World) (b : Nat) (fv : Value) (s : List Nat) (er : Int) (st : Option (List Nat)) : Prop where
  row : Row w b 92 [fv, .int .i64 er]
  own : OwnsB w 0 fv s
  ne : fv.ownBlock ≠ some b
  len : s.length ≤ 65536
  each : ∀ x ∈ s, x < 256
  is : PSt st s er
def PapD (v : Value) (st : Option (List Nat)) (m : Nat) (w : World) (O : Nat → Prop) : Prop :=
  ∃ (b : Nat) (fv : Value) (s : List Nat) (er : Int), v = .pointer (some ⟨b, 0, none⟩) ∧ (∀ i, O i ↔ i = b ∨ fv.ownBlock = some i) ∧ PapB w b fv s er st
theorem PapD.isIn {v : Value} {st : Option (List Nat)} {m : Nat} {w : World} {O : Nat → Prop} (h : PapD v st m w O) : ∀ i, O i → i < w.heap.size := by
  obtain ⟨b, fv, s, er, rfl, hO, P⟩ := h
  intro i hi
  rcases (hO i).1 hi with rfl | h
  · exact P.row.lt
  · exact (P.own.lt h).2
theorem PapD.stay {v : Value} {st : Option (List Nat)} {m : Nat} {w w' : World} {O : Nat → Prop} (h : PapD v st m w O) (hs : ∀ i, O i → w'.heap[i]? = w.heap[i]?) (hz : w.heap.size ≤ w'.heap.size) : PapD v st m w' O := by
  obtain ⟨b, fv, s, er, rfl, hO, P⟩ := h
  exact ⟨b, fv, s, er, rfl, hO, (hs b ((hO b).2 (.inl rfl))).trans P.row, P.own.stay fun i hi => hs i ((hO i).2 (.inr hi)), P.ne, P.len, P.each, P.is⟩

set_option maxHeartbeats 1000000 in
/-- All fields let go. -/
theorem refuseP_any (b : Nat) (fv : Value) (er er' : Int) (w : World) (R : Row w b 92 [fv, .int .i64 er]) :
    Calls Try.prog 86 #[.pointer (some ⟨b, 0, none⟩), .int .i64 er'] w fun e w' => e = .returned (.pointer (some ⟨b, 0, none⟩)) ∧ w.grownBy w' (some b) ∧ Row w' b 92 [.slice none 0 0, .int .i64 er'] := by
  have f0 := R.free 0
  have f1 := R.free 1
  have c0 := R.cell (i := 0) rfl
  have c1 := R.cell (i := 1) rfl
  have R2 : Hid (Row ((w.setCell ⟨b, 0, none⟩ (.slice none 0 0)).setCell ⟨b, 1, none⟩ (.int .i64 er')) b 92 [.slice none 0 0, .int .i64 er']) := (R.set 0 (.slice none 0 0)).set 1 (.int .i64 er')
  have G := hide (grown_trans (grown_set w b 0 (.slice none 0 0)) (grown_set (w.setCell ⟨b, 0, none⟩ (.slice none 0 0)) b 1 (.int .i64 er')))
  have f1' : (w.setCell ⟨b, 0, none⟩ (.slice none 0 0)).frozen? ⟨b, 1, none⟩ = false := (R.set 0 (.slice none 0 0)).free 1
  clear R
  go_enter Try.func86, Try.ntmps86
  go_wp2
  go_ret
  exact ⟨rfl, G.out, R2.out⟩

/-- Some bytes more. -/
def addP (st : Option (List Nat)) (xs : List Nat) : Option (List Nat) := st.map (· ++ xs)
theorem Kept.refl (O : Nat → Prop) (w : World) : Kept O w w := ⟨rfl, rfl, rfl, Nat.le_refl _, fun _ _ _ => rfl⟩
theorem Kept.of_grown {O : Nat → Prop} {w w' : World} {b : Nat} (g : w.grownBy w' (some b)) (h : O b) : Kept O w w' :=
  ⟨g.os, g.tape, g.output, g.size, fun k hk hn => g.block k hk (fun e => hn (by cases e; exact h))⟩
theorem Kept.trans {O : Nat → Prop} {a b c : World} (h : Kept O a b) (k : Kept O b c) : Kept O a c :=
  ⟨k.os.trans h.os, k.tape.trans h.tape, k.output.trans h.output, Nat.le_trans h.size k.size, fun i hi hn => (k.block i (Nat.lt_of_lt_of_le hi h.size) hn).trans (h.block i hi hn)⟩

/-- Behind an error. -/
theorem PapD.gone {b : Nat} {fv : Value} {s : List Nat} {er er' : Int} {st st' : Option (List Nat)} {m : Nat} {w w' : World} {O : Nat → Prop} (P : PapB w b fv s er st) (hO : ∀ i, O i ↔ i = b ∨ fv.ownBlock = some i)
    (g : w.grownBy w' (some b)) (R : Row w' b 92 [.slice none 0 0, .int .i64 er']) (is : PSt st' [] er') : Turns O w w' (PapD (.pointer (some ⟨b, 0, none⟩)) st' m) :=
  ⟨fun i => i = b, Kept.of_grown g ((hO b).2 (.inl rfl)), fun i hi => .inl ((hO i).2 (.inl hi)), b, _, [], er', rfl, fun i => by simp [Value.ownBlock], R, OwnsB.none _ _, by simp [Value.ownBlock], by simp, by simp, is⟩

set_option maxHeartbeats 4000000 in
theorem add_any (v : Value) (st : Option (List Nat)) (m m' : Nat) (O : Nat → Prop) (a : Option Addr) (n cap : Nat) (xs : List Nat) (w : World) (h : PapD v st m w O) (Y : By14 w a n cap xs) (hn : n ≤ 100000) (ha : ∀ x, 0 < xs.length → a = some x → ¬ O x.block) :
    Calls Try.prog 87 #[v, .slice a n cap] w fun e w' => e = .returned v ∧ Turns O w w' (PapD v (addP st xs) m') := by
  obtain ⟨b, fv, s, er, rfl, hO, P⟩ := h
  have HO := hide hO
  have HP := hide P
  have c0 := P.row.cell (i := 0) rfl
  have c1 := P.row.cell (i := 1) rfl
  have f0 := P.row.free 0
  have HL := hide Y.len
  have HX := hide Y.each
  have RX := hide Y.rd
  have is := P.is
  clear hO Y
  by_cases he : er = 0
  · subst he
    obtain rfl : st = some s := by
      rcases is with ⟨_, h⟩ | ⟨h, _⟩ | ⟨h, _⟩
      · exact h
      · cases h
      · cases h
    have t0 : ((0 : Int) != 0) = false := by simp
    obtain ⟨a2, cap2, rfl, _, _⟩ := P.own.rd
    have sl := P.len
    have iw : wrap64 ((s.length : Int) + (n : Int)) = ((s.length + n : Nat) : Int) := by unfold wrap64; omega
    by_cases hl : 65536 < s.length + n
    · have t1 : decide ((65536 : Int) < ((s.length + n : Nat) : Int)) = true := decide_eq_true (by omega)
      have t1' : decide ((((s.length + n : Nat) : Int)) > 65536) = true := t1
      have t2 : decide (65536 < s.length + n) = true := decide_eq_true hl
      have t3 : decide ((65536 : Int) < (s.length : Int) + (n : Int)) = true := decide_eq_true (by omega)
      have PE : Hid (PSt (addP (some s) xs) [] 6) := .inr (.inr ⟨rfl, rfl, s ++ xs, rfl, by rw [List.length_append, HL.out]; exact hl⟩)
      have C1 := hide (refuseP_any b (.slice a2 s.length cap2) 0 6 w P.row)
      clear is P HX RX ha
      go_enter Try.func87, Try.ntmps87
      go_wp2_with fail
      refine C1.out.mono ?_
      rintro e w1 ⟨rfl, g1, R1⟩
      have T := PapD.gone (m := m') HP.out HO.out g1 R1 PE.out
      clear C1 g1 R1
      go_wp2
      go_ret
      exact ⟨rfl, T⟩
    · have t1 : decide ((65536 : Int) < ((s.length + n : Nat) : Int)) = false := decide_eq_false (by omega)
      have t1' : decide ((((s.length + n : Nat) : Int)) > 65536) = false := t1
      have t2 : decide (65536 < s.length + n) = false := decide_eq_false hl
      have t3 : decide ((65536 : Int) < (s.length : Int) + (n : Int)) = false := decide_eq_false (by omega)
      clear is P
      go_enter Try.func87, Try.ntmps87
      go_wp2_with (refine wp_appendB rfl _ _ rfl 0 (.slice a2 s.length cap2) s rfl HP.out.own a n cap xs rfl HL.out RX.out (by omega) (Nat.zero_le _) ?_; rintro v' w' ow gr ob
                   obtain ⟨a3, cap3, e3, _, _⟩ := ow.rd
                   rw [List.length_append] at e3
                   subst e3
                   have R' : Row w' b 92 [.slice a2 s.length cap2, .int .i64 0] := (gr.block b HP.out.row.lt HP.out.ne.symm).trans HP.out.row
                   have fr := R'.free 0
                   have cr := R'.cell (i := 0) rfl
                   have OW := hide ow
                   have GR := hide gr
                   have OB := hide ob
                   have RR := hide R'
                   clear ow gr ob R')
      go_wp2
      go_ret
      generalize Value.slice a3 (s.length + xs.length) cap3 = v' at *
      have bl := HP.out.row.lt
      have hv' : v'.ownBlock ≠ some b := by
        rcases OB.out with h | h
        · rw [h]; exact HP.out.ne
        · rw [h]; intro e; cases e; omega
      have g2 := grown_set w' b 0 v'
      have R3 : Row (w'.setCell ⟨b, 0, none⟩ v') b 92 [v', .int .i64 0] := RR.out.set 0 v'
      have O3 : OwnsB (w'.setCell ⟨b, 0, none⟩ v') 0 v' (s ++ xs) := OW.out.grown g2 (.inr hv')
      refine ⟨rfl, fun i => i = b ∨ v'.ownBlock = some i, ⟨g2.os.trans GR.out.os, g2.tape.trans GR.out.tape, g2.output.trans GR.out.output, Nat.le_trans GR.out.size g2.size, fun k hk hn => ?_⟩, fun i hi => ?_, b, v', s ++ xs, 0, rfl, fun i => Iff.rfl, R3, O3, hv', by rw [List.length_append, HL.out]; omega, ?_, .inl ⟨rfl, rfl⟩⟩
      · have h1 : k ≠ b := fun e => hn ((HO.out k).2 (.inl e))
        have h2 : some k ≠ (Value.slice a2 s.length cap2).ownBlock := fun e => hn ((HO.out k).2 (.inr e.symm))
        exact (g2.block k (Nat.lt_of_lt_of_le hk GR.out.size) (by simpa using h1)).trans (GR.out.block k hk h2)
      · rcases hi with rfl | h
        · exact .inl ((HO.out i).2 (.inl rfl))
        · rcases OB.out with h' | h'
          · exact .inl ((HO.out i).2 (.inr (h'.symm.trans h)))
          · rw [h'] at h; cases h; exact .inr (Nat.le_refl _)
      · intro x hx
        rcases List.mem_append.1 hx with h | h
        · exact HP.out.each x h
        · exact HX.out x h
  · have t0 : (er != 0) = true := by simpa using he
    have PE : PSt (addP st xs) s er := by
      rcases is with ⟨h, _⟩ | ⟨h, h1, h2⟩ | ⟨h, h1, l, h2, h3⟩
      · exact absurd h he
      · exact .inr (.inl ⟨h, by rw [h1]; rfl, h2⟩)
      · exact .inr (.inr ⟨h, h1, l ++ xs, by rw [h2]; rfl, by rw [List.length_append]; omega⟩)
    have T : Hid (Turns O w w (PapD (.pointer (some ⟨b, 0, none⟩)) (addP st xs) m')) := ⟨O, Kept.refl _ _, fun i hi => .inl hi, b, fv, s, er, rfl, HO.out, P.row, P.own, P.ne, P.len, P.each, PE⟩
    clear is P PE HX RX HP ha
    go_enter Try.func87, Try.ntmps87
    go_wp2
    go_ret
    exact ⟨rfl, T.out⟩
end Go.Proofs.Ytepchjpdfmleoaa
