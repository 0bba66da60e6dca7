/-
  MgWa: 5 parts, one behind the other; what each proves, and under which conditions, its own heading says.
-/
import Derived.Test.YtepchjpdfmleoaaWordM
import Derived.Test.YtepchjpdfmleoaaOwnZ

/-
  The document's own Good (offertoryref14): what it answers.
-/
namespace Go.Proofs.Ytepchjpdfmleoaa
open Go.RowKit Cn Pn Wn
set_option linter.unusedVariables false

theorem rowN {w : World} {g : Nat} (t : TypeId) (vs : List Value) (h : g = w.heap.size) : Row (w.alloc (.cells vs.toArray t)) g t vs := by subst h; exact Row.new _ _ _

/-- The word in its box, and three lists of the call's own. -/
structure Gd (w : World) (cs : List Value) (v4 v5 v6 : Value) (xs ys zs : List Int) (wr : World) : Prop where
  box : Row wr w.heap.size 29 cs
  o4 : OwnsZ wr (w.heap.size + 1) v4 xs
  o5 : OwnsZ wr (w.heap.size + 1) v5 ys
  o6 : OwnsZ wr (w.heap.size + 1) v6 zs
  n45 : v4.ownBlock ≠ v5.ownBlock
  n46 : v4.ownBlock ≠ v6.ownBlock
  n56 : v5.ownBlock ≠ v6.ownBlock
  old : Old w wr
theorem Old.grownZ {a b c : World} {r : Option Nat} (h : Old a b) (hg : b.grownBy c r) (hb : ∀ g, r = some g → a.heap.size ≤ g) : Old a c := Below.grown h hg h.size hb
theorem Row.grownZ {w w' : World} {g : Nat} {t : TypeId} {vs : List Value} {r : Option Nat} (R : Row w g t vs) (hg : w.grownBy w' r) (hne : ∀ k, r = some k → g ≠ k) : Row w' g t vs :=
  (hg.block g R.lt (fun e => hne g e.symm rfl)).trans R
section
variable {w : World} {cs : List Value} {v4 v5 v6 v' : Value} {xs ys zs us : List Int} {wr w' : World}
theorem Gd.mono (h : Gd w cs v4 v5 v6 xs ys zs wr) (o : Old wr w') : Gd w cs v4 v5 v6 xs ys zs w' := ⟨h.box.mono o, h.o4.mono o, h.o5.mono o, h.o6.mono o, h.n45, h.n46, h.n56, h.old.trans o⟩
theorem own_apart {base : Nat} {v u v' : Value} {l : List Int} (hu : OwnsZ wr base u l) (hne : v.ownBlock ≠ u.ownBlock) (alt : v'.ownBlock = v.ownBlock ∨ v'.ownBlock = some wr.heap.size) : v'.ownBlock ≠ u.ownBlock := by
  rcases alt with h | h
  · rw [h]; exact hne
  · rw [h]
    intro e
    have := (hu.lt e.symm).2
    omega
theorem Gd.app4 (h : Gd w cs v4 v5 v6 xs ys zs wr) (ow : OwnsZ w' (w.heap.size + 1) v' us) (gr : wr.grownBy w' v4.ownBlock) (alt : v'.ownBlock = v4.ownBlock ∨ v'.ownBlock = some wr.heap.size) : Gd w cs v' v5 v6 us ys zs w' :=
  ⟨h.box.grownZ gr (fun k hk => by have := (h.o4.lt hk).1; omega), ow, h.o5.grown gr (.inr (Ne.symm h.n45)), h.o6.grown gr (.inr (Ne.symm h.n46)), own_apart h.o5 h.n45 alt, own_apart h.o6 h.n46 alt, h.n56, h.old.grownZ gr (fun g hg => by have := (h.o4.lt hg).1; omega)⟩
theorem Gd.app5 (h : Gd w cs v4 v5 v6 xs ys zs wr) (ow : OwnsZ w' (w.heap.size + 1) v' us) (gr : wr.grownBy w' v5.ownBlock) (alt : v'.ownBlock = v5.ownBlock ∨ v'.ownBlock = some wr.heap.size) : Gd w cs v4 v' v6 xs us zs w' :=
  ⟨h.box.grownZ gr (fun k hk => by have := (h.o5.lt hk).1; omega), h.o4.grown gr (.inr h.n45), ow, h.o6.grown gr (.inr (Ne.symm h.n56)), Ne.symm (own_apart h.o4 (Ne.symm h.n45) alt), h.n46, own_apart h.o6 h.n56 alt, h.old.grownZ gr (fun g hg => by have := (h.o5.lt hg).1; omega)⟩
theorem Gd.app6 (h : Gd w cs v4 v5 v6 xs ys zs wr) (ow : OwnsZ w' (w.heap.size + 1) v' us) (gr : wr.grownBy w' v6.ownBlock) (alt : v'.ownBlock = v6.ownBlock ∨ v'.ownBlock = some wr.heap.size) : Gd w cs v4 v5 v' xs ys us w' :=
  ⟨h.box.grownZ gr (fun k hk => by have := (h.o6.lt hk).1; omega), h.o4.grown gr (.inr h.n46), h.o5.grown gr (.inr h.n56), ow, h.n45, Ne.symm (own_apart h.o4 (Ne.symm h.n46) alt), Ne.symm (own_apart h.o5 (Ne.symm h.n56) alt), h.old.grownZ gr (fun g hg => by have := (h.o6.lt hg).1; omega)⟩
end
theorem Gd.start (w : World) (cs : List Value) : Gd w cs (.slice (some ⟨w.heap.size + 1, 0, none⟩) 0 0) (.slice (some ⟨w.heap.size + 1 + 1, 0, none⟩) 0 0) (.slice (some ⟨w.heap.size + 1 + 1 + 1, 0, none⟩) 0 0) [] [] [] ((((w.alloc (.cells cs.toArray 29)).alloc (.cells #[] 3)).alloc (.cells #[] 3)).alloc (.cells #[] 3)) := by
  have e4 := OwnsZ.empty (w.alloc (.cells cs.toArray 29)) (w.heap.size + 1) (by rw [World.size_alloc]; exact Nat.le_refl _)
  have e5 := OwnsZ.empty ((w.alloc (.cells cs.toArray 29)).alloc (.cells #[] 3)) (w.heap.size + 1) (by simp only [World.size_alloc]; omega)
  have e6 := OwnsZ.empty (((w.alloc (.cells cs.toArray 29)).alloc (.cells #[] 3)).alloc (.cells #[] 3)) (w.heap.size + 1) (by simp only [World.size_alloc]; omega)
  simp only [World.size_alloc] at e4 e5 e6
  exact ⟨(((Row.new w 29 cs).mono (Old.of_alloc _ _)).mono (Old.of_alloc _ _)).mono (Old.of_alloc _ _), (e4.mono (Old.of_alloc _ _)).mono (Old.of_alloc _ _), e5.mono (Old.of_alloc _ _), e6, by simp [Value.ownBlock], by simp [Value.ownBlock], by simp [Value.ownBlock], (((Old.of_alloc _ _).alloc _).alloc _).alloc _⟩
end Go.Proofs.Ytepchjpdfmleoaa

/-
  Package words: whose numbers; do they rise.
-/
namespace Go.Proofs.Ytepchjpdfmleoaa
open Go.RowKit Cn Pn Wn
set_option linter.unusedVariables false

theorem isDonor_any (n : Int) (w : World) : Calls Try.prog 43 #[.int .i64 n] w fun e w' => e = .returned (.bool (whoB n)) ∧ w' = w := by
  by_cases h1 : 1 ≤ n
  · have t1 : decide (1 ≤ n) = true := by simpa using h1
    have E : Hid (whoB n = decide (n ≤ 64)) := by show _ = _; unfold whoB; rw [t1, Bool.true_and]
    clear h1
    go_enter Try.func43, Try.ntmps43
    go_wp2
    go_ret
    exact ⟨by rw [E.out]; rfl, rfl⟩
  · have t1 : decide (1 ≤ n) = false := by simpa using h1
    have E : Hid (whoB n = false) := by show _ = _; unfold whoB; rw [t1, Bool.false_and]
    clear h1
    go_enter Try.func43, Try.ntmps43
    go_wp2
    go_ret
    exact ⟨by rw [E.out]; rfl, rfl⟩

/-- The donor ahead of place i. -/
def lastI (l : List Int) (i : Nat) : Int := if i = 0 then 0 else l.getD (i - 1) 0
theorem lastI_next (l : List Int) (i : Nat) : lastI l (i + 1) = l.getD i 0 := by simp [lastI]
theorem donTo_step {l : List Int} {i : Nat} (h : donTo l i = true) : donTo l (i + 1) = (whoB (l.getD i 0) && !decide (l.getD i 0 ≤ lastI l i)) := by
  rw [donTo_next, h, Bool.true_and]
  by_cases hw : whoB (l.getD i 0) = true
  · rw [hw, Bool.true_and, Bool.true_and]
    have h1 : 1 ≤ l.getD i 0 := by
      unfold whoB at hw
      simp only [Bool.and_eq_true, decide_eq_true_eq] at hw
      exact hw.1
    unfold lastI
    by_cases h0 : i = 0
    · rw [if_pos h0, decide_eq_true h0, Bool.true_or, show decide (l.getD i 0 ≤ 0) = false from decide_eq_false (by omega)]; rfl
    · rw [if_neg h0, decide_eq_false h0, Bool.false_or]
      by_cases hl : l.getD (i - 1) 0 < l.getD i 0
      · rw [decide_eq_true hl, decide_eq_false (by omega)]; rfl
      · rw [decide_eq_false hl, decide_eq_true (by omega)]; rfl
  · rw [show whoB (l.getD i 0) = false by simpa using hw]; rfl

/-- Structs of three cells, one behind the other. -/
def Tri (w : World) (a : Option Addr) {α : Type} (c : Nat → α → Value × Value × Value) (l : List α) : Prop :=
  ∀ (i : Nat) (x : α), l[i]? = some x → ∃ b off, a = some ⟨b, off, none⟩ ∧ w.cell? ⟨b, off + i * 3, none⟩ = some (c i x).1 ∧ w.cell? ⟨b, off + i * 3 + 1, none⟩ = some (c i x).2.1 ∧ w.cell? ⟨b, off + i * 3 + 2, none⟩ = some (c i x).2.2
theorem Tri.mono {w w' : World} {a : Option Addr} {α : Type} {c : Nat → α → Value × Value × Value} {l : List α} (h : Tri w a c l) (o : Old w w') : Tri w' a c l := fun i x hx => by
  obtain ⟨b, off, e, h1, h2, h3⟩ := h i x hx
  exact ⟨b, off, e, o.cell h1, o.cell h2, o.cell h3⟩
def cardV (_ : Nat) (x : Card) : Value × Value × Value := (.int .i64 x.who, .int .u64 (x.lock : Nat), .int .u64 (x.key : Nat))
def parcelV (pa : Nat → Option Addr) (pc : Nat → Nat) (i : Nat) (x : Parcel) : Value × Value × Value := (.int .i64 x.frm, .int .i64 x.to, .slice (pa i) x.data.length (pc i))
def openingV (oa : Nat → Option Addr) (oc : Nat → Nat) (i : Nat) (x : Opening) : Value × Value × Value := (.int .i64 x.who, .bool x.own, .slice (oa i) x.vals.length (oc i))
theorem WordIn.cardT {w : World} {c : Wd} {m : WM} (h : WordIn w c m) : Tri w m.a1 cardV c.cards := h.cards
theorem WordIn.parcelT {w : World} {c : Wd} {m : WM} (h : WordIn w c m) : Tri w m.a2 (parcelV m.pa m.pc) c.parcels := fun i x hx => (h.parcels i x hx).1
theorem WordIn.openingT {w : World} {c : Wd} {m : WM} (h : WordIn w c m) : Tri w m.a5 (openingV m.oa m.oc) c.openings := fun i x hx => (h.openings i x hx).1

theorem itself_any (n : Int) (w : World) : Calls Try.prog 50 #[.int .i64 n] w fun e w' => e = .returned (.int .i64 n) ∧ Old w w' := by
  go_enter Try.func50, Try.ntmps50
  go_wp2
  go_ret
  exact ⟨rfl, Old.refl _⟩

theorem cardWho_any (x y z : Value) (w : World) : Calls Try.prog 45 #[.agg #[x, y, z]] w fun e w' => e = .returned x ∧ Old w w' := by
  have O0 := hide (Old.of_alloc w (.cells #[x, y, z] 48))
  go_enter Try.func45, Try.ntmps45
  go_wp2
  go_ret
  exact ⟨rfl, O0.out⟩

set_option maxRecDepth 100000 in
set_option maxHeartbeats 2000000 in
theorem rising_cardWho (a : Option Addr) (cap : Nat) (l : List Card) (hn : l.length ≤ 9223372036854775807) (w : World) (H : Tri w a cardV l) :
    Calls Try.prog 44 #[.slice a l.length cap, .func (.func 45) #[] #[]] w fun e w' => e = .returned (.bool (donB (l.map (·.who)))) ∧ Old w w' := by
  have HN := hide hn
  have HH := hide H
  have HM : Hid ((l.map (·.who)).length = l.length ∧ ∀ (i : Nat) (x : Card), l[i]? = some x → (l.map (·.who)).getD i 0 = x.who) := ⟨by simp, fun i x hx => by simp [List.getD, hx]⟩
  clear hn H
  generalize l.map (·.who) = M at *
  go_enter Try.func44, Try.ntmps44
  go_wp2_with fail
  go_loopw [5, 11] (fun vl vi wr => ∃ i : Nat, i ≤ l.length ∧ vl = .int .i64 (lastI M i) ∧ vi = .int .i64 (i : Int) ∧ Hid (donTo M i = true) ∧ Hid (Old w wr)) (fun _ vi _ => l.length - (intOf vi).toNat)
  case atStart => exact ⟨0, Nat.zero_le _, rfl, rfl, rfl, Old.refl _⟩
  case round =>
    obtain ⟨i, hi, rfl, rfl, HT, O⟩ := hrel
    by_cases hlt : i < l.length
    · have t1 : decide ((i : Int) < (l.length : Int)) = true := by simp; omega
      have t1' : decide (i < l.length) = true := by simpa using hlt
      have q0 : (0 : Int) ≤ i := by omega
      have q1 : (i : Int) < l.length := by omega
      have iw : wrap64 ((i : Int) + 1) = ((i + 1 : Nat) : Int) := by have := HN.out; unfold wrap64; omega
      obtain ⟨b, off, rfl, cx, cy, cz⟩ := (HH.out.mono O.out) i l[i] (List.getElem?_eq_getElem hlt)
      simp only [cardV] at cx cy cz
      have ST := hide (donTo_step HT.out)
      have NX := hide (lastI_next M i)
      have BAD : Hid (donTo M (i + 1) = false → donB M = false) := fun h => donTo_bad h M.length (by rw [HM.out.1]; omega)
      rw [HM.out.2 i l[i] (List.getElem?_eq_getElem hlt)] at ST NX
      obtain ⟨x, hx⟩ : ∃ x, x = l[i] := ⟨_, rfl⟩
      rw [← hx] at cx cy cz ST NX
      have e10 := (rowN (w := wr) (g := wr.heap.size) 48 [.int .i64 x.who, .int .u64 (x.lock : Nat), .int .u64 (x.key : Nat)] rfl)
      have c0 := e10.cell (i := 0) rfl
      have c1 := e10.cell (i := 1) rfl
      have c2 := e10.cell (i := 2) rfl
      have C := hide (fun wr : World => cardWho_any (.int .i64 x.who) (.int .u64 (x.lock : Nat)) (.int .u64 (x.key : Nat)) wr)
      have OA := hide (Old.of_alloc wr (.cells #[.int .i64 x.who, .int .u64 (x.lock : Nat), .int .u64 (x.key : Nat)] 48))
      clear e10
      generalize lastI M i = y at *
      have CD := isDonor_any
      clear hx
      by_cases hw : whoB x.who = true
      · rw [hw, Bool.true_and] at ST
        by_cases hxy : x.who ≤ y
        · have t3 : decide (x.who ≤ y) = true := decide_eq_true hxy
          have E : Hid (donB M = false) := BAD.out (by rw [ST.out, t3]; rfl)
          clear ST BAD hxy
          go_wp2_with fail
          refine (C.out _).mono ?_
          rintro e w3 ⟨rfl, o3⟩
          have O3 := hide (OA.out.trans o3)
          clear o3 C
          go_wp2_with fail
          refine (CD _ _).mono ?_
          rintro e w4 ⟨rfl, rfl⟩
          rw [hw]
          go_wp2
          go_ret
          exact ⟨by rw [E.out]; rfl, O.out.trans O3.out⟩
        · have t3 : decide (x.who ≤ y) = false := decide_eq_false hxy
          have E : Hid (donTo M (i + 1) = true) := by rw [Hid, ST.out, t3]; rfl
          clear ST BAD hxy
          go_wp2_with fail
          refine (C.out _).mono ?_
          rintro e w3 ⟨rfl, o3⟩
          have O3 := hide (OA.out.trans o3)
          clear o3 C
          go_wp2_with fail
          refine (CD _ _).mono ?_
          rintro e w4 ⟨rfl, rfl⟩
          rw [hw]
          go_wp2_with fail
          try rw [iw]
          exact ⟨⟨i + 1, by omega, by rw [NX.out], by simp, E, O.out.trans O3.out⟩, by simp [intOf]; omega⟩
      · have hw' : whoB x.who = false := by simpa using hw
        have E : Hid (donB M = false) := BAD.out (by rw [ST.out, hw']; rfl)
        clear ST BAD hw
        go_wp2_with fail
        refine (C.out _).mono ?_
        rintro e w3 ⟨rfl, o3⟩
        have O3 := hide (OA.out.trans o3)
        clear o3 C
        go_wp2_with fail
        refine (CD _ _).mono ?_
        rintro e w4 ⟨rfl, rfl⟩
        rw [hw']
        go_wp2
        go_ret
        exact ⟨by rw [E.out]; rfl, O.out.trans O3.out⟩
    · obtain rfl : i = l.length := by omega
      have t1 : decide ((l.length : Int) < (l.length : Int)) = false := by simp
      have t1' : decide (l.length < l.length) = false := by simp
      have E : Hid (donB M = true) := by show _ = _; unfold donB; rw [HM.out.1]; exact HT.out
      go_wp2
      go_ret
      exact ⟨by rw [E.out]; rfl, O.out⟩

theorem openingWho_any (x y z : Value) (w : World) : Calls Try.prog 52 #[.agg #[x, y, z]] w fun e w' => e = .returned x ∧ Old w w' := by
  have O0 := hide (Old.of_alloc w (.cells #[x, y, z] 53))
  go_enter Try.func52, Try.ntmps52
  go_wp2
  go_ret
  exact ⟨rfl, O0.out⟩

set_option maxRecDepth 100000 in
set_option maxHeartbeats 2000000 in
theorem rising_openingWho (a : Option Addr) (cap : Nat) (l : List Opening) (oa : Nat → Option Addr) (oc : Nat → Nat) (hn : l.length ≤ 9223372036854775807) (w : World) (H : Tri w a (openingV oa oc) l) :
    Calls Try.prog 51 #[.slice a l.length cap, .func (.func 52) #[] #[]] w fun e w' => e = .returned (.bool (donB (l.map (·.who)))) ∧ Old w w' := by
  have HN := hide hn
  have HH := hide H
  have HM : Hid ((l.map (·.who)).length = l.length ∧ ∀ (i : Nat) (x : Opening), l[i]? = some x → (l.map (·.who)).getD i 0 = x.who) := ⟨by simp, fun i x hx => by simp [List.getD, hx]⟩
  clear hn H
  generalize l.map (·.who) = M at *
  go_enter Try.func51, Try.ntmps51
  go_wp2_with fail
  go_loopw [5, 11] (fun vl vi wr => ∃ i : Nat, i ≤ l.length ∧ vl = .int .i64 (lastI M i) ∧ vi = .int .i64 (i : Int) ∧ Hid (donTo M i = true) ∧ Hid (Old w wr)) (fun _ vi _ => l.length - (intOf vi).toNat)
  case atStart => exact ⟨0, Nat.zero_le _, rfl, rfl, rfl, Old.refl _⟩
  case round =>
    obtain ⟨i, hi, rfl, rfl, HT, O⟩ := hrel
    by_cases hlt : i < l.length
    · have t1 : decide ((i : Int) < (l.length : Int)) = true := by simp; omega
      have t1' : decide (i < l.length) = true := by simpa using hlt
      have q0 : (0 : Int) ≤ i := by omega
      have q1 : (i : Int) < l.length := by omega
      have iw : wrap64 ((i : Int) + 1) = ((i + 1 : Nat) : Int) := by have := HN.out; unfold wrap64; omega
      obtain ⟨b, off, rfl, cx, cy, cz⟩ := (HH.out.mono O.out) i l[i] (List.getElem?_eq_getElem hlt)
      simp only [openingV] at cx cy cz
      have ST := hide (donTo_step HT.out)
      have NX := hide (lastI_next M i)
      have BAD : Hid (donTo M (i + 1) = false → donB M = false) := fun h => donTo_bad h M.length (by rw [HM.out.1]; omega)
      rw [HM.out.2 i l[i] (List.getElem?_eq_getElem hlt)] at ST NX
      obtain ⟨x, hx⟩ : ∃ x, x = l[i] := ⟨_, rfl⟩
      rw [← hx] at cx cy cz ST NX
      have e10 := (rowN (w := wr) (g := wr.heap.size) 53 [.int .i64 x.who, .bool x.own, .slice (oa i) x.vals.length (oc i)] rfl)
      have c0 := e10.cell (i := 0) rfl
      have c1 := e10.cell (i := 1) rfl
      have c2 := e10.cell (i := 2) rfl
      have C := hide (fun wr : World => openingWho_any (.int .i64 x.who) (.bool x.own) (.slice (oa i) x.vals.length (oc i)) wr)
      have OA := hide (Old.of_alloc wr (.cells #[.int .i64 x.who, .bool x.own, .slice (oa i) x.vals.length (oc i)] 53))
      clear e10
      generalize lastI M i = y at *
      have CD := isDonor_any
      clear hx
      by_cases hw : whoB x.who = true
      · rw [hw, Bool.true_and] at ST
        by_cases hxy : x.who ≤ y
        · have t3 : decide (x.who ≤ y) = true := decide_eq_true hxy
          have E : Hid (donB M = false) := BAD.out (by rw [ST.out, t3]; rfl)
          clear ST BAD hxy
          go_wp2_with fail
          refine (C.out _).mono ?_
          rintro e w3 ⟨rfl, o3⟩
          have O3 := hide (OA.out.trans o3)
          clear o3 C
          go_wp2_with fail
          refine (CD _ _).mono ?_
          rintro e w4 ⟨rfl, rfl⟩
          rw [hw]
          go_wp2
          go_ret
          exact ⟨by rw [E.out]; rfl, O.out.trans O3.out⟩
        · have t3 : decide (x.who ≤ y) = false := decide_eq_false hxy
          have E : Hid (donTo M (i + 1) = true) := by rw [Hid, ST.out, t3]; rfl
          clear ST BAD hxy
          go_wp2_with fail
          refine (C.out _).mono ?_
          rintro e w3 ⟨rfl, o3⟩
          have O3 := hide (OA.out.trans o3)
          clear o3 C
          go_wp2_with fail
          refine (CD _ _).mono ?_
          rintro e w4 ⟨rfl, rfl⟩
          rw [hw]
          go_wp2_with fail
          try rw [iw]
          exact ⟨⟨i + 1, by omega, by rw [NX.out], by simp, E, O.out.trans O3.out⟩, by simp [intOf]; omega⟩
      · have hw' : whoB x.who = false := by simpa using hw
        have E : Hid (donB M = false) := BAD.out (by rw [ST.out, hw']; rfl)
        clear ST BAD hw
        go_wp2_with fail
        refine (C.out _).mono ?_
        rintro e w3 ⟨rfl, o3⟩
        have O3 := hide (OA.out.trans o3)
        clear o3 C
        go_wp2_with fail
        refine (CD _ _).mono ?_
        rintro e w4 ⟨rfl, rfl⟩
        rw [hw']
        go_wp2
        go_ret
        exact ⟨by rw [E.out]; rfl, O.out.trans O3.out⟩
    · obtain rfl : i = l.length := by omega
      have t1 : decide ((l.length : Int) < (l.length : Int)) = false := by simp
      have t1' : decide (l.length < l.length) = false := by simp
      have E : Hid (donB M = true) := by show _ = _; unfold donB; rw [HM.out.1]; exact HT.out
      go_wp2
      go_ret
      exact ⟨by rw [E.out]; rfl, O.out⟩

theorem parcelTo_any (x y z : Value) (w : World) : Calls Try.prog 47 #[.agg #[x, y, z]] w fun e w' => e = .returned y ∧ Old w w' := by
  have O0 := hide (Old.of_alloc w (.cells #[x, y, z] 50))
  go_enter Try.func47, Try.ntmps47
  go_wp2
  go_ret
  exact ⟨rfl, O0.out⟩

set_option maxRecDepth 100000 in
set_option maxHeartbeats 2000000 in
theorem rising_parcelTo (a : Option Addr) (cap : Nat) (l : List Parcel) (pa : Nat → Option Addr) (pc : Nat → Nat) (hn : l.length ≤ 9223372036854775807) (w : World) (H : Tri w a (parcelV pa pc) l) :
    Calls Try.prog 82 #[.slice a l.length cap, .func (.func 47) #[] #[]] w fun e w' => e = .returned (.bool (donB (l.map (·.to)))) ∧ Old w w' := by
  have HN := hide hn
  have HH := hide H
  have HM : Hid ((l.map (·.to)).length = l.length ∧ ∀ (i : Nat) (x : Parcel), l[i]? = some x → (l.map (·.to)).getD i 0 = x.to) := ⟨by simp, fun i x hx => by simp [List.getD, hx]⟩
  clear hn H
  generalize l.map (·.to) = M at *
  go_enter Try.func82, Try.ntmps82
  go_wp2_with fail
  go_loopw [5, 11] (fun vl vi wr => ∃ i : Nat, i ≤ l.length ∧ vl = .int .i64 (lastI M i) ∧ vi = .int .i64 (i : Int) ∧ Hid (donTo M i = true) ∧ Hid (Old w wr)) (fun _ vi _ => l.length - (intOf vi).toNat)
  case atStart => exact ⟨0, Nat.zero_le _, rfl, rfl, rfl, Old.refl _⟩
  case round =>
    obtain ⟨i, hi, rfl, rfl, HT, O⟩ := hrel
    by_cases hlt : i < l.length
    · have t1 : decide ((i : Int) < (l.length : Int)) = true := by simp; omega
      have t1' : decide (i < l.length) = true := by simpa using hlt
      have q0 : (0 : Int) ≤ i := by omega
      have q1 : (i : Int) < l.length := by omega
      have iw : wrap64 ((i : Int) + 1) = ((i + 1 : Nat) : Int) := by have := HN.out; unfold wrap64; omega
      obtain ⟨b, off, rfl, cx, cy, cz⟩ := (HH.out.mono O.out) i l[i] (List.getElem?_eq_getElem hlt)
      simp only [parcelV] at cx cy cz
      have ST := hide (donTo_step HT.out)
      have NX := hide (lastI_next M i)
      have BAD : Hid (donTo M (i + 1) = false → donB M = false) := fun h => donTo_bad h M.length (by rw [HM.out.1]; omega)
      rw [HM.out.2 i l[i] (List.getElem?_eq_getElem hlt)] at ST NX
      obtain ⟨x, hx⟩ : ∃ x, x = l[i] := ⟨_, rfl⟩
      rw [← hx] at cx cy cz ST NX
      have e10 := (rowN (w := wr) (g := wr.heap.size) 50 [.int .i64 x.frm, .int .i64 x.to, .slice (pa i) x.data.length (pc i)] rfl)
      have c0 := e10.cell (i := 0) rfl
      have c1 := e10.cell (i := 1) rfl
      have c2 := e10.cell (i := 2) rfl
      have C := hide (fun wr : World => parcelTo_any (.int .i64 x.frm) (.int .i64 x.to) (.slice (pa i) x.data.length (pc i)) wr)
      have OA := hide (Old.of_alloc wr (.cells #[.int .i64 x.frm, .int .i64 x.to, .slice (pa i) x.data.length (pc i)] 50))
      clear e10
      generalize lastI M i = y at *
      have CD := isDonor_any
      clear hx
      by_cases hw : whoB x.to = true
      · rw [hw, Bool.true_and] at ST
        by_cases hxy : x.to ≤ y
        · have t3 : decide (x.to ≤ y) = true := decide_eq_true hxy
          have E : Hid (donB M = false) := BAD.out (by rw [ST.out, t3]; rfl)
          clear ST BAD hxy
          go_wp2_with fail
          refine (C.out _).mono ?_
          rintro e w3 ⟨rfl, o3⟩
          have O3 := hide (OA.out.trans o3)
          clear o3 C
          go_wp2_with fail
          refine (CD _ _).mono ?_
          rintro e w4 ⟨rfl, rfl⟩
          rw [hw]
          go_wp2
          go_ret
          exact ⟨by rw [E.out]; rfl, O.out.trans O3.out⟩
        · have t3 : decide (x.to ≤ y) = false := decide_eq_false hxy
          have E : Hid (donTo M (i + 1) = true) := by rw [Hid, ST.out, t3]; rfl
          clear ST BAD hxy
          go_wp2_with fail
          refine (C.out _).mono ?_
          rintro e w3 ⟨rfl, o3⟩
          have O3 := hide (OA.out.trans o3)
          clear o3 C
          go_wp2_with fail
          refine (CD _ _).mono ?_
          rintro e w4 ⟨rfl, rfl⟩
          rw [hw]
          go_wp2_with fail
          try rw [iw]
          exact ⟨⟨i + 1, by omega, by rw [NX.out], by simp, E, O.out.trans O3.out⟩, by simp [intOf]; omega⟩
      · have hw' : whoB x.to = false := by simpa using hw
        have E : Hid (donB M = false) := BAD.out (by rw [ST.out, hw']; rfl)
        clear ST BAD hw
        go_wp2_with fail
        refine (C.out _).mono ?_
        rintro e w3 ⟨rfl, o3⟩
        have O3 := hide (OA.out.trans o3)
        clear o3 C
        go_wp2_with fail
        refine (CD _ _).mono ?_
        rintro e w4 ⟨rfl, rfl⟩
        rw [hw']
        go_wp2
        go_ret
        exact ⟨by rw [E.out]; rfl, O.out.trans O3.out⟩
    · obtain rfl : i = l.length := by omega
      have t1 : decide ((l.length : Int) < (l.length : Int)) = false := by simp
      have t1' : decide (l.length < l.length) = false := by simp
      have E : Hid (donB M = true) := by show _ = _; unfold donB; rw [HM.out.1]; exact HT.out
      go_wp2
      go_ret
      exact ⟨by rw [E.out]; rfl, O.out⟩

theorem parcelFrom_any (x y z : Value) (w : World) : Calls Try.prog 48 #[.agg #[x, y, z]] w fun e w' => e = .returned x ∧ Old w w' := by
  have O0 := hide (Old.of_alloc w (.cells #[x, y, z] 50))
  go_enter Try.func48, Try.ntmps48
  go_wp2
  go_ret
  exact ⟨rfl, O0.out⟩

set_option maxRecDepth 100000 in
set_option maxHeartbeats 2000000 in
theorem rising_parcelFrom (a : Option Addr) (cap : Nat) (l : List Parcel) (pa : Nat → Option Addr) (pc : Nat → Nat) (hn : l.length ≤ 9223372036854775807) (w : World) (H : Tri w a (parcelV pa pc) l) :
    Calls Try.prog 82 #[.slice a l.length cap, .func (.func 48) #[] #[]] w fun e w' => e = .returned (.bool (donB (l.map (·.frm)))) ∧ Old w w' := by
  have HN := hide hn
  have HH := hide H
  have HM : Hid ((l.map (·.frm)).length = l.length ∧ ∀ (i : Nat) (x : Parcel), l[i]? = some x → (l.map (·.frm)).getD i 0 = x.frm) := ⟨by simp, fun i x hx => by simp [List.getD, hx]⟩
  clear hn H
  generalize l.map (·.frm) = M at *
  go_enter Try.func82, Try.ntmps82
  go_wp2_with fail
  go_loopw [5, 11] (fun vl vi wr => ∃ i : Nat, i ≤ l.length ∧ vl = .int .i64 (lastI M i) ∧ vi = .int .i64 (i : Int) ∧ Hid (donTo M i = true) ∧ Hid (Old w wr)) (fun _ vi _ => l.length - (intOf vi).toNat)
  case atStart => exact ⟨0, Nat.zero_le _, rfl, rfl, rfl, Old.refl _⟩
  case round =>
    obtain ⟨i, hi, rfl, rfl, HT, O⟩ := hrel
    by_cases hlt : i < l.length
    · have t1 : decide ((i : Int) < (l.length : Int)) = true := by simp; omega
      have t1' : decide (i < l.length) = true := by simpa using hlt
      have q0 : (0 : Int) ≤ i := by omega
      have q1 : (i : Int) < l.length := by omega
      have iw : wrap64 ((i : Int) + 1) = ((i + 1 : Nat) : Int) := by have := HN.out; unfold wrap64; omega
      obtain ⟨b, off, rfl, cx, cy, cz⟩ := (HH.out.mono O.out) i l[i] (List.getElem?_eq_getElem hlt)
      simp only [parcelV] at cx cy cz
      have ST := hide (donTo_step HT.out)
      have NX := hide (lastI_next M i)
      have BAD : Hid (donTo M (i + 1) = false → donB M = false) := fun h => donTo_bad h M.length (by rw [HM.out.1]; omega)
      rw [HM.out.2 i l[i] (List.getElem?_eq_getElem hlt)] at ST NX
      obtain ⟨x, hx⟩ : ∃ x, x = l[i] := ⟨_, rfl⟩
      rw [← hx] at cx cy cz ST NX
      have e10 := (rowN (w := wr) (g := wr.heap.size) 50 [.int .i64 x.frm, .int .i64 x.to, .slice (pa i) x.data.length (pc i)] rfl)
      have c0 := e10.cell (i := 0) rfl
      have c1 := e10.cell (i := 1) rfl
      have c2 := e10.cell (i := 2) rfl
      have C := hide (fun wr : World => parcelFrom_any (.int .i64 x.frm) (.int .i64 x.to) (.slice (pa i) x.data.length (pc i)) wr)
      have OA := hide (Old.of_alloc wr (.cells #[.int .i64 x.frm, .int .i64 x.to, .slice (pa i) x.data.length (pc i)] 50))
      clear e10
      generalize lastI M i = y at *
      have CD := isDonor_any
      clear hx
      by_cases hw : whoB x.frm = true
      · rw [hw, Bool.true_and] at ST
        by_cases hxy : x.frm ≤ y
        · have t3 : decide (x.frm ≤ y) = true := decide_eq_true hxy
          have E : Hid (donB M = false) := BAD.out (by rw [ST.out, t3]; rfl)
          clear ST BAD hxy
          go_wp2_with fail
          refine (C.out _).mono ?_
          rintro e w3 ⟨rfl, o3⟩
          have O3 := hide (OA.out.trans o3)
          clear o3 C
          go_wp2_with fail
          refine (CD _ _).mono ?_
          rintro e w4 ⟨rfl, rfl⟩
          rw [hw]
          go_wp2
          go_ret
          exact ⟨by rw [E.out]; rfl, O.out.trans O3.out⟩
        · have t3 : decide (x.frm ≤ y) = false := decide_eq_false hxy
          have E : Hid (donTo M (i + 1) = true) := by rw [Hid, ST.out, t3]; rfl
          clear ST BAD hxy
          go_wp2_with fail
          refine (C.out _).mono ?_
          rintro e w3 ⟨rfl, o3⟩
          have O3 := hide (OA.out.trans o3)
          clear o3 C
          go_wp2_with fail
          refine (CD _ _).mono ?_
          rintro e w4 ⟨rfl, rfl⟩
          rw [hw]
          go_wp2_with fail
          try rw [iw]
          exact ⟨⟨i + 1, by omega, by rw [NX.out], by simp, E, O.out.trans O3.out⟩, by simp [intOf]; omega⟩
      · have hw' : whoB x.frm = false := by simpa using hw
        have E : Hid (donB M = false) := BAD.out (by rw [ST.out, hw']; rfl)
        clear ST BAD hw
        go_wp2_with fail
        refine (C.out _).mono ?_
        rintro e w3 ⟨rfl, o3⟩
        have O3 := hide (OA.out.trans o3)
        clear o3 C
        go_wp2_with fail
        refine (CD _ _).mono ?_
        rintro e w4 ⟨rfl, rfl⟩
        rw [hw']
        go_wp2
        go_ret
        exact ⟨by rw [E.out]; rfl, O.out.trans O3.out⟩
    · obtain rfl : i = l.length := by omega
      have t1 : decide ((l.length : Int) < (l.length : Int)) = false := by simp
      have t1' : decide (l.length < l.length) = false := by simp
      have E : Hid (donB M = true) := by show _ = _; unfold donB; rw [HM.out.1]; exact HT.out
      go_wp2
      go_ret
      exact ⟨by rw [E.out]; rfl, O.out⟩

set_option maxRecDepth 100000 in
set_option maxHeartbeats 2000000 in
theorem rising_itself (a : Option Addr) (cap : Nat) (l : List Int) (hn : l.length ≤ 9223372036854775807) (w : World) (H : Rd w a (ints l)) :
    Calls Try.prog 49 #[.slice a l.length cap, .func (.func 50) #[] #[]] w fun e w' => e = .returned (.bool (donB (l))) ∧ Old w w' := by
  have HN := hide hn
  have HH := hide H
  have HM : Hid ((l).length = l.length ∧ ∀ (i : Nat) (x : Int), l[i]? = some x → (l).getD i 0 = x) := ⟨by simp, fun i x hx => by simp [List.getD, hx]⟩
  clear hn H
  go_enter Try.func49, Try.ntmps49
  go_wp2_with fail
  go_loopw [5, 11] (fun vl vi wr => ∃ i : Nat, i ≤ l.length ∧ vl = .int .i64 (lastI l i) ∧ vi = .int .i64 (i : Int) ∧ Hid (donTo l i = true) ∧ Hid (Old w wr)) (fun _ vi _ => l.length - (intOf vi).toNat)
  case atStart => exact ⟨0, Nat.zero_le _, rfl, rfl, rfl, Old.refl _⟩
  case round =>
    obtain ⟨i, hi, rfl, rfl, HT, O⟩ := hrel
    by_cases hlt : i < l.length
    · have t1 : decide ((i : Int) < (l.length : Int)) = true := by simp; omega
      have t1' : decide (i < l.length) = true := by simpa using hlt
      have q0 : (0 : Int) ≤ i := by omega
      have q1 : (i : Int) < l.length := by omega
      have iw : wrap64 ((i : Int) + 1) = ((i + 1 : Nat) : Int) := by have := HN.out; unfold wrap64; omega
      obtain ⟨b, off, rfl, cx⟩ := rd_int (HH.out.mono O.out) (i := i) hlt
      rw [show l.getD i 0 = l[i] by simp [List.getD, hlt]] at cx
      have ST := hide (donTo_step HT.out)
      have NX := hide (lastI_next l i)
      have BAD : Hid (donTo l (i + 1) = false → donB l = false) := fun h => donTo_bad h l.length (by omega)
      rw [HM.out.2 i l[i] (List.getElem?_eq_getElem hlt)] at ST NX
      obtain ⟨x, hx⟩ : ∃ x, x = l[i] := ⟨_, rfl⟩
      rw [← hx] at cx ST NX
      have C := hide (fun wr : World => itself_any x wr)
      generalize lastI l i = y at *
      have CD := isDonor_any
      clear hx
      by_cases hw : whoB x = true
      · rw [hw, Bool.true_and] at ST
        by_cases hxy : x ≤ y
        · have t3 : decide (x ≤ y) = true := decide_eq_true hxy
          have E : Hid (donB l = false) := BAD.out (by rw [ST.out, t3]; rfl)
          clear ST BAD hxy
          go_wp2_with fail
          refine (C.out _).mono ?_
          rintro e w3 ⟨rfl, o3⟩
          have O3 := hide ((Old.refl wr).trans o3)
          clear o3 C
          go_wp2_with fail
          refine (CD _ _).mono ?_
          rintro e w4 ⟨rfl, rfl⟩
          rw [hw]
          go_wp2
          go_ret
          exact ⟨by rw [E.out]; rfl, O.out.trans O3.out⟩
        · have t3 : decide (x ≤ y) = false := decide_eq_false hxy
          have E : Hid (donTo l (i + 1) = true) := by rw [Hid, ST.out, t3]; rfl
          clear ST BAD hxy
          go_wp2_with fail
          refine (C.out _).mono ?_
          rintro e w3 ⟨rfl, o3⟩
          have O3 := hide ((Old.refl wr).trans o3)
          clear o3 C
          go_wp2_with fail
          refine (CD _ _).mono ?_
          rintro e w4 ⟨rfl, rfl⟩
          rw [hw]
          go_wp2_with fail
          try rw [iw]
          exact ⟨⟨i + 1, by omega, by rw [NX.out], by simp, E, O.out.trans O3.out⟩, by simp [intOf]; omega⟩
      · have hw' : whoB x = false := by simpa using hw
        have E : Hid (donB l = false) := BAD.out (by rw [ST.out, hw']; rfl)
        clear ST BAD hw
        go_wp2_with fail
        refine (C.out _).mono ?_
        rintro e w3 ⟨rfl, o3⟩
        have O3 := hide ((Old.refl wr).trans o3)
        clear o3 C
        go_wp2_with fail
        refine (CD _ _).mono ?_
        rintro e w4 ⟨rfl, rfl⟩
        rw [hw']
        go_wp2
        go_ret
        exact ⟨by rw [E.out]; rfl, O.out.trans O3.out⟩
    · obtain rfl : i = l.length := by omega
      have t1 : decide ((l.length : Int) < (l.length : Int)) = false := by simp
      have t1' : decide (l.length < l.length) = false := by simp
      have E : Hid (donB l = true) := by show _ = _; unfold donB; exact HT.out
      go_wp2
      go_ret
      exact ⟨by rw [E.out]; rfl, O.out⟩

end Go.Proofs.Ytepchjpdfmleoaa

/-
  Package words: things that no good word has; what is the kind's own, and what is not.
-/
namespace Go.Proofs.Ytepchjpdfmleoaa
open Go.RowKit Cn Pn Wn
set_option linter.unusedVariables false

theorem wrongOpening_any (x y : Value) (a : Option Addr) (n cap : Nat) (w : World) :
    Calls Try.prog 54 #[.agg #[x, y, .slice a n cap]] w fun e w' => e = .returned (.bool (!decide (n ≤ 5))) ∧ Old w w' := by
  have O0 := hide (Old.of_alloc w (.cells #[x, y, .slice a n cap] 53))
  have E : Hid ((!decide (n ≤ 5)) = decide (5 < n)) := by
    show _ = _
    by_cases h : n ≤ 5
    · rw [decide_eq_true h, decide_eq_false (by omega)]; rfl
    · rw [decide_eq_false h, decide_eq_true (by omega)]; rfl
  rw [E.out]
  go_enter Try.func54, Try.ntmps54
  by_cases h : 5 < n
  · have t1 : decide ((5 : Int) < (n : Int)) = true := decide_eq_true (by omega)
    have t2 : decide ((n : Int) > 5) = true := t1
    have t3 : decide (5 < n) = true := decide_eq_true h
    have HH := hide h
    clear h
    go_wp2
    go_ret
    exact ⟨by have := HH.out; simp; omega, O0.out⟩
  · have t1 : decide ((5 : Int) < (n : Int)) = false := decide_eq_false (by omega)
    have t2 : decide ((n : Int) > 5) = false := t1
    have t3 : decide (5 < n) = false := decide_eq_false h
    have HH := hide h
    clear h
    go_wp2
    go_ret
    exact ⟨by have := HH.out; simp; omega, O0.out⟩

theorem wrongParcel_any (f t : Int) (a : Option Addr) (n cap : Nat) (w : World) :
    Calls Try.prog 84 #[.agg #[.int .i64 f, .int .i64 t, .slice a n cap]] w fun e w' => e = .returned (.bool (!(whoB f && whoB t && decide (n ≤ 64)))) ∧ Old w w' := by
  have O0 := hide (Old.of_alloc w (.cells #[.int .i64 f, .int .i64 t, .slice a n cap] 50))
  have C1 := hide (fun wr : World => isDonor_any f wr)
  have C2 := hide (fun wr : World => isDonor_any t wr)
  generalize whoB f = bf at *
  generalize whoB t = bt at *
  cases bf
  · go_enter Try.func84, Try.ntmps84
    go_wp2_with fail
    refine (C1.out _).mono ?_
    rintro e w1 ⟨rfl, rfl⟩
    go_wp2
    go_ret
    exact ⟨by simp, O0.out⟩
  · cases bt
    · go_enter Try.func84, Try.ntmps84
      go_wp2_with fail
      refine (C1.out _).mono ?_
      rintro e w1 ⟨rfl, rfl⟩
      go_wp2_with fail
      refine (C2.out _).mono ?_
      rintro e w1 ⟨rfl, rfl⟩
      go_wp2
      go_ret
      exact ⟨by simp, O0.out⟩
    · go_enter Try.func84, Try.ntmps84
      go_wp2_with fail
      refine (C1.out _).mono ?_
      rintro e w1 ⟨rfl, rfl⟩
      go_wp2_with fail
      refine (C2.out _).mono ?_
      rintro e w1 ⟨rfl, rfl⟩
      by_cases h : 64 < n
      · have t1 : decide ((64 : Int) < (n : Int)) = true := decide_eq_true (by omega)
        have t2 : decide ((n : Int) > 64) = true := t1
        have t3 : decide (64 < n) = true := decide_eq_true h
        have t4 : decide (n ≤ 64) = false := decide_eq_false (by omega)
        clear h
        go_wp2
        go_ret
        exact ⟨by simp [t4], O0.out⟩
      · have t1 : decide ((64 : Int) < (n : Int)) = false := decide_eq_false (by omega)
        have t2 : decide ((n : Int) > 64) = false := t1
        have t3 : decide (64 < n) = false := decide_eq_false h
        have t4 : decide (n ≤ 64) = true := decide_eq_true (by omega)
        clear h
        go_wp2
        go_ret
        exact ⟨by simp [t4], O0.out⟩
end Go.Proofs.Ytepchjpdfmleoaa

/-
  Package words: has a list a thing that no good word has?
-/
namespace Go.Proofs.Ytepchjpdfmleoaa
open Go.RowKit Cn Pn Wn
set_option linter.unusedVariables false

theorem all_take {α : Type} {p : α → Bool} {l : List α} {i : Nat} (hi : i < l.length) (h : (l.take i).all p = true) : (l.take (i + 1)).all p = p l[i] := by
  rw [List.take_add_one, List.getElem?_eq_getElem hi, Option.toList_some, List.all_append, h]
  simp
theorem all_bad {α : Type} {p : α → Bool} {l : List α} {i : Nat} (h : (l.take i).all p = false) : l.all p = false := by
  rw [← List.take_append_drop i l, List.all_append, h]
  rfl

set_option maxRecDepth 100000 in
set_option maxHeartbeats 2000000 in
theorem indexOpening (a : Option Addr) (cap : Nat) (l : List Opening) (oa : Nat → Option Addr) (oc : Nat → Nat) (hn : l.length ≤ 9223372036854775807) (w : World) (H : Tri w a (openingV oa oc) l) :
    Calls Try.prog 85 #[.slice a l.length cap, .func (.func 54) #[] #[]] w fun e w' => ∃ z : Int, e = .returned (.int .i64 z) ∧ decide (0 ≤ z) = (!l.all ogB) ∧ Old w w' := by
  have HN := hide hn
  have HH := hide H
  clear hn H
  go_enter Try.func85, Try.ntmps85
  go_wp2_with fail
  go_loopw [8] (fun vi wr => ∃ i : Nat, i ≤ l.length ∧ vi = .int .i64 (i : Int) ∧ Hid ((l.take i).all ogB = true) ∧ Hid (Old w wr)) (fun vi _ => l.length - (intOf vi).toNat)
  case atStart => exact ⟨0, Nat.zero_le _, rfl, by simp [Hid], Old.refl _⟩
  case round =>
    obtain ⟨i, hi, rfl, HT, O⟩ := hrel
    by_cases hlt : i < l.length
    · have t1 : decide ((i : Int) < (l.length : Int)) = true := by simp; omega
      have t1' : decide (i < l.length) = true := by simpa using hlt
      have q0 : (0 : Int) ≤ i := by omega
      have q1 : (i : Int) < l.length := by omega
      have iw : wrap64 ((i : Int) + 1) = ((i + 1 : Nat) : Int) := by have := HN.out; unfold wrap64; omega
      obtain ⟨b, off, rfl, cx, cy, cz⟩ := (HH.out.mono O.out) i l[i] (List.getElem?_eq_getElem hlt)
      simp only [openingV] at cx cy cz
      have AT := hide (all_take hlt HT.out)
      have BAD : Hid ((l.take (i + 1)).all ogB = false → l.all ogB = false) := fun h => all_bad h
      obtain ⟨x, hx⟩ : ∃ x, x = l[i] := ⟨_, rfl⟩
      rw [← hx] at cx cy cz AT
      have C : Hid (Calls Try.prog 54 #[.agg #[.int .i64 x.who, .bool x.own, .slice (oa i) x.vals.length (oc i)]] wr fun e w' => e = .returned (.bool (!ogB x)) ∧ Old wr w') := wrongOpening_any _ _ _ _ _ wr
      clear hx
      generalize ogB x = ok at *
      cases ok
      · have E : Hid (l.all ogB = false) := BAD.out AT.out
        clear AT BAD
        go_wp2_with fail
        refine C.out.mono ?_
        rintro e w3 ⟨rfl, o3⟩
        have O3 := hide (O.out.trans o3)
        clear o3 C O
        go_wp2
        go_ret
        exact ⟨_, rfl, by rw [E.out]; exact decide_eq_true q0, O3.out⟩
      · have E : Hid ((l.take (i + 1)).all ogB = true) := AT.out
        clear AT BAD
        go_wp2_with fail
        refine C.out.mono ?_
        rintro e w3 ⟨rfl, o3⟩
        have O3 := hide (O.out.trans o3)
        clear o3 C O
        go_wp2_with fail
        try rw [iw]
        exact ⟨⟨i + 1, by omega, by simp, E, O3⟩, by simp [intOf]; omega⟩
    · obtain rfl : i = l.length := by omega
      have t1 : decide ((l.length : Int) < (l.length : Int)) = false := by simp
      have t1' : decide (l.length < l.length) = false := by simp
      have E : Hid (l.all ogB = true) := by have := HT.out; rw [List.take_length] at this; exact this
      go_wp2
      go_ret
      exact ⟨_, rfl, by rw [E.out]; rfl, O.out⟩

theorem containsOpening (a : Option Addr) (cap : Nat) (l : List Opening) (oa : Nat → Option Addr) (oc : Nat → Nat) (hn : l.length ≤ 9223372036854775807) (w : World) (H : Tri w a (openingV oa oc) l) :
    Calls Try.prog 53 #[.slice a l.length cap, .func (.func 54) #[] #[]] w fun e w' => e = .returned (.bool (!l.all ogB)) ∧ Old w w' := by
  have C := hide (indexOpening a cap l oa oc hn w H)
  clear hn H
  generalize l.all ogB = bb at *
  go_enter Try.func53, Try.ntmps53
  go_wp2_with fail
  refine C.out.mono ?_
  rintro e w3 ⟨z, rfl, hz, o3⟩
  have O3 := hide o3
  have hz' : decide (z ≥ 0) = (!bb) := hz
  clear o3 C
  cases bb
  all_goals
    go_wp2
    go_ret
    exact ⟨by simp_all, O3.out⟩

set_option maxRecDepth 100000 in
set_option maxHeartbeats 2000000 in
theorem indexParcel (a : Option Addr) (cap : Nat) (l : List Parcel) (oa : Nat → Option Addr) (oc : Nat → Nat) (hn : l.length ≤ 9223372036854775807) (w : World) (H : Tri w a (parcelV oa oc) l) :
    Calls Try.prog 102 #[.slice a l.length cap, .func (.func 84) #[] #[]] w fun e w' => ∃ z : Int, e = .returned (.int .i64 z) ∧ decide (0 ≤ z) = (!l.all pcB) ∧ Old w w' := by
  have HN := hide hn
  have HH := hide H
  clear hn H
  go_enter Try.func102, Try.ntmps102
  go_wp2_with fail
  go_loopw [8] (fun vi wr => ∃ i : Nat, i ≤ l.length ∧ vi = .int .i64 (i : Int) ∧ Hid ((l.take i).all pcB = true) ∧ Hid (Old w wr)) (fun vi _ => l.length - (intOf vi).toNat)
  case atStart => exact ⟨0, Nat.zero_le _, rfl, by simp [Hid], Old.refl _⟩
  case round =>
    obtain ⟨i, hi, rfl, HT, O⟩ := hrel
    by_cases hlt : i < l.length
    · have t1 : decide ((i : Int) < (l.length : Int)) = true := by simp; omega
      have t1' : decide (i < l.length) = true := by simpa using hlt
      have q0 : (0 : Int) ≤ i := by omega
      have q1 : (i : Int) < l.length := by omega
      have iw : wrap64 ((i : Int) + 1) = ((i + 1 : Nat) : Int) := by have := HN.out; unfold wrap64; omega
      obtain ⟨b, off, rfl, cx, cy, cz⟩ := (HH.out.mono O.out) i l[i] (List.getElem?_eq_getElem hlt)
      simp only [parcelV] at cx cy cz
      have AT := hide (all_take hlt HT.out)
      have BAD : Hid ((l.take (i + 1)).all pcB = false → l.all pcB = false) := fun h => all_bad h
      obtain ⟨x, hx⟩ : ∃ x, x = l[i] := ⟨_, rfl⟩
      rw [← hx] at cx cy cz AT
      have C : Hid (Calls Try.prog 84 #[.agg #[.int .i64 x.frm, .int .i64 x.to, .slice (oa i) x.data.length (oc i)]] wr fun e w' => e = .returned (.bool (!pcB x)) ∧ Old wr w') := wrongParcel_any _ _ _ _ _ wr
      clear hx
      generalize pcB x = ok at *
      cases ok
      · have E : Hid (l.all pcB = false) := BAD.out AT.out
        clear AT BAD
        go_wp2_with fail
        refine C.out.mono ?_
        rintro e w3 ⟨rfl, o3⟩
        have O3 := hide (O.out.trans o3)
        clear o3 C O
        go_wp2
        go_ret
        exact ⟨_, rfl, by rw [E.out]; exact decide_eq_true q0, O3.out⟩
      · have E : Hid ((l.take (i + 1)).all pcB = true) := AT.out
        clear AT BAD
        go_wp2_with fail
        refine C.out.mono ?_
        rintro e w3 ⟨rfl, o3⟩
        have O3 := hide (O.out.trans o3)
        clear o3 C O
        go_wp2_with fail
        try rw [iw]
        exact ⟨⟨i + 1, by omega, by simp, E, O3⟩, by simp [intOf]; omega⟩
    · obtain rfl : i = l.length := by omega
      have t1 : decide ((l.length : Int) < (l.length : Int)) = false := by simp
      have t1' : decide (l.length < l.length) = false := by simp
      have E : Hid (l.all pcB = true) := by have := HT.out; rw [List.take_length] at this; exact this
      go_wp2
      go_ret
      exact ⟨_, rfl, by rw [E.out]; rfl, O.out⟩

theorem containsParcel (a : Option Addr) (cap : Nat) (l : List Parcel) (oa : Nat → Option Addr) (oc : Nat → Nat) (hn : l.length ≤ 9223372036854775807) (w : World) (H : Tri w a (parcelV oa oc) l) :
    Calls Try.prog 83 #[.slice a l.length cap, .func (.func 84) #[] #[]] w fun e w' => e = .returned (.bool (!l.all pcB)) ∧ Old w w' := by
  have C := hide (indexParcel a cap l oa oc hn w H)
  clear hn H
  generalize l.all pcB = bb at *
  go_enter Try.func83, Try.ntmps83
  go_wp2_with fail
  refine C.out.mono ?_
  rintro e w3 ⟨z, rfl, hz, o3⟩
  have O3 := hide o3
  have hz' : decide (z ≥ 0) = (!bb) := hz
  clear o3 C
  cases bb
  all_goals
    go_wp2
    go_ret
    exact ⟨by simp_all, O3.out⟩

theorem goodParcels_parcelTo (a : Option Addr) (cap : Nat) (l : List Parcel) (pa : Nat → Option Addr) (pc : Nat → Nat) (hn : l.length ≤ 9223372036854775807) (w : World) (H : Tri w a (parcelV pa pc) l) :
    Calls Try.prog 46 #[.slice a l.length cap, .func (.func 47) #[] #[]] w fun e w' => e = .returned (.bool (donB (l.map (·.to)) && l.all pcB)) ∧ Old w w' := by
  have C1 := hide (rising_parcelTo a cap l pa pc hn w H)
  have C2 := hide (fun (w' : World) (o : Old w w') => containsParcel a cap l pa pc hn w' (H.mono o))
  clear hn H
  generalize donB (l.map (·.to)) = b1 at *
  generalize l.all pcB = b2 at *
  cases b1
  · go_enter Try.func46, Try.ntmps46
    go_wp2_with fail
    refine C1.out.mono ?_
    rintro e w1 ⟨rfl, o1⟩
    have O1 := hide o1
    clear o1
    go_wp2
    go_ret
    exact ⟨rfl, O1.out⟩
  · go_enter Try.func46, Try.ntmps46
    go_wp2_with fail
    refine C1.out.mono ?_
    rintro e w1 ⟨rfl, o1⟩
    have O1 := hide o1
    clear o1
    go_wp2_with fail
    refine (C2.out _ O1.out).mono ?_
    rintro e w2 ⟨rfl, o2⟩
    have O2 := hide (O1.out.trans o2)
    clear o2
    go_wp2
    go_ret
    exact ⟨by simp, O2.out⟩

theorem goodParcels_parcelFrom (a : Option Addr) (cap : Nat) (l : List Parcel) (pa : Nat → Option Addr) (pc : Nat → Nat) (hn : l.length ≤ 9223372036854775807) (w : World) (H : Tri w a (parcelV pa pc) l) :
    Calls Try.prog 46 #[.slice a l.length cap, .func (.func 48) #[] #[]] w fun e w' => e = .returned (.bool (donB (l.map (·.frm)) && l.all pcB)) ∧ Old w w' := by
  have C1 := hide (rising_parcelFrom a cap l pa pc hn w H)
  have C2 := hide (fun (w' : World) (o : Old w w') => containsParcel a cap l pa pc hn w' (H.mono o))
  clear hn H
  generalize donB (l.map (·.frm)) = b1 at *
  generalize l.all pcB = b2 at *
  cases b1
  · go_enter Try.func46, Try.ntmps46
    go_wp2_with fail
    refine C1.out.mono ?_
    rintro e w1 ⟨rfl, o1⟩
    have O1 := hide o1
    clear o1
    go_wp2
    go_ret
    exact ⟨rfl, O1.out⟩
  · go_enter Try.func46, Try.ntmps46
    go_wp2_with fail
    refine C1.out.mono ?_
    rintro e w1 ⟨rfl, o1⟩
    have O1 := hide o1
    clear o1
    go_wp2_with fail
    refine (C2.out _ O1.out).mono ?_
    rintro e w2 ⟨rfl, o2⟩
    have O2 := hide (O1.out.trans o2)
    clear o2
    go_wp2
    go_ret
    exact ⟨by simp, O2.out⟩

end Go.Proofs.Ytepchjpdfmleoaa

/-
  Package words: who may say it; what is the kind's own; what is not.
-/
namespace Go.Proofs.Ytepchjpdfmleoaa
open Go.RowKit Cn Pn Wn
set_option linter.unusedVariables false

namespace Wn
/-- What package words asks of From, and of what is the kind's own. -/
def fromB (c : Wd) : Bool := if wardenB c.kind then decide (c.frm = 0) else whoB c.frm
def ownB (c : Wd) : Bool :=
  if c.kind = 1 then decide (c.cards.length = 1) && decide ((c.cards.map (·.who)).getD 0 0 = c.frm)
  else if c.kind = 2 then donB (c.cards.map (·.who))
  else if c.kind = 3 then donB (c.parcels.map (·.to)) && c.parcels.all pcB
  else if c.kind = 4 then donB (c.parcels.map (·.frm)) && c.parcels.all pcB
  else if c.kind = 5 then decide (c.vector.length ≤ 256)
  else if c.kind = 6 then donB c.who
  else if c.kind = 7 then donB (c.openings.map (·.who)) && c.openings.all ogB
  else if c.kind = 8 then decide (0 < c.why) && decide (c.why ≤ 17)
  else false
/-- All that words of its kind do not have. -/
def otW (c : Wd) : Wd := ⟨0, 0, if c.kind = 8 then 0 else c.why, if c.kind = 1 ∨ c.kind = 2 then [] else c.cards, if c.kind = 3 ∨ c.kind = 4 then [] else c.parcels, if c.kind = 5 then [] else c.vector, if c.kind = 6 then [] else c.who, if c.kind = 7 then [] else c.openings⟩
end Wn
def otM (k : Int) (m : WM) : WM := ⟨if k = 1 ∨ k = 2 then none else m.a1, if k = 1 ∨ k = 2 then 0 else m.c1, if k = 3 ∨ k = 4 then none else m.a2, if k = 3 ∨ k = 4 then 0 else m.c2, if k = 5 then none else m.a3, if k = 5 then 0 else m.c3, if k = 6 then none else m.a4, if k = 6 then 0 else m.c4, if k = 7 then none else m.a5, if k = 7 then 0 else m.c5, m.pa, m.pc, m.oa, m.oc⟩
theorem otIn {w : World} {c : Wd} {m : WM} (h : WordIn w c m) : WordIn w (otW c) (otM c.kind m) := by
  obtain ⟨kd, frm, why, cards, parcels, vector, who, openings⟩ := c
  have nn := h.nums_
  have ll := h.lens
  have cc := h.caps
  simp only at nn ll cc
  refine ⟨?_, ?_, ?_, ?_, ?_, ?_, ?_, ?_, ?_, ?_, ?_, ?_, ?_⟩
  · have z0 : B64 0 := by unfold B64; omega
    refine ⟨z0, z0, ?_⟩
    show B64 (if kd = 8 then 0 else why)
    split
    · exact z0
    · exact nn.2.2
  · simp only [otW]
    refine ⟨?_, ?_, ?_, ?_, ?_⟩ <;> split <;> first | omega | (simp only [List.length_nil]; omega)
  · simp only [otW, otM]
    refine ⟨?_, ?_, ?_, ?_, ?_⟩ <;> split <;> first | omega | (simp only [List.length_nil]; omega)
  · intro i x hx
    simp only [otW, otM] at hx ⊢
    split at hx
    · simp at hx
    · rename_i hk; rw [if_neg hk]; exact h.cards i x hx
  · intro x hx
    simp only [otW] at hx
    split at hx
    · simp at hx
    · exact h.cardB x hx
  · intro i x hx
    simp only [otW, otM] at hx ⊢
    split at hx
    · simp at hx
    · rename_i hk; rw [if_neg hk]; exact h.parcels i x hx
  · intro x hx
    simp only [otW] at hx
    split at hx
    · simp at hx
    · exact h.parcelB x hx
  · simp only [otW, otM]
    split
    · exact Rd.nil _
    · exact h.vector
  · intro x hx
    simp only [otW] at hx
    split at hx
    · simp at hx
    · exact h.vectorB x hx
  · simp only [otW, otM]
    split
    · exact Rd.nil _
    · exact h.who
  · intro x hx
    simp only [otW] at hx
    split at hx
    · simp at hx
    · exact h.whoB x hx
  · intro i x hx
    simp only [otW, otM] at hx ⊢
    split at hx
    · simp at hx
    · rename_i hk; rw [if_neg hk]; exact h.openings i x hx
  · intro x hx
    simp only [otW] at hx
    split at hx
    · simp at hx
    · exact h.openingB x hx

set_option maxRecDepth 100000 in
set_option maxHeartbeats 1000000 in
theorem others_any (c : Wd) (m : WM) (w : World) :
    Calls Try.prog 20 #[.agg (wdc c m).toArray] w fun e w' => e = .returned (.agg (wdc (otW c) (otM c.kind m)).toArray) ∧ Old w w' := by
  obtain ⟨kd, frm, why, cards, parcels, vector, who, openings⟩ := c
  unfold wdc otW otM
  by_cases h : kd = 1 ∨ kd = 2 ∨ kd = 3 ∨ kd = 4 ∨ kd = 5 ∨ kd = 6 ∨ kd = 7 ∨ kd = 8
  · rcases h with rfl | rfl | rfl | rfl | rfl | rfl | rfl | rfl
    all_goals
      simp (decide := true) only [if_true, if_false, List.length_nil]
      go_enter Try.func20, Try.ntmps20
      go_wp2
      simp [bodyPost, results, Try.results20, go_sem]
      exact (Old.of_alloc _ _).alloc _
  · have u1 : (kd == 1) = false := by simp; omega
    have u2 : (kd == 2) = false := by simp; omega
    have u3 : (kd == 3) = false := by simp; omega
    have u4 : (kd == 4) = false := by simp; omega
    have u5 : (kd == 5) = false := by simp; omega
    have u6 : (kd == 6) = false := by simp; omega
    have u7 : (kd == 7) = false := by simp; omega
    have u8 : (kd == 8) = false := by simp; omega
    simp only [if_neg (show ¬ kd = 8 by omega), if_neg (show ¬ (kd = 1 ∨ kd = 2) by omega), if_neg (show ¬ (kd = 3 ∨ kd = 4) by omega), if_neg (show ¬ kd = 5 by omega), if_neg (show ¬ kd = 6 by omega), if_neg (show ¬ kd = 7 by omega)]
    clear h
    go_enter Try.func20, Try.ntmps20
    go_wp2
    simp [bodyPost, results, Try.results20, go_sem]
    exact (Old.of_alloc _ _).alloc _

set_option maxRecDepth 100000 in
set_option maxHeartbeats 1000000 in
theorem goodFrom_any (c : Wd) (m : WM) (w : World) :
    Calls Try.prog 18 #[.agg (wdc c m).toArray] w fun e w' => e = .returned (.bool (fromB c)) ∧ Old w w' := by
  have O0 := hide (Old.of_alloc w (.cells (wdc c m).toArray 29))
  obtain ⟨kd, frm, why, cards, parcels, vector, who, openings⟩ := c
  unfold wdc at *
  have EW : ∀ k : Int, (k = 2 ∨ k = 4 ∨ k = 6) → fromB ⟨k, frm, why, cards, parcels, vector, who, openings⟩ = (frm == 0) := fun k hk => by
    rcases hk with rfl | rfl | rfl <;> (unfold fromB wardenB; simp; exact (Bool.eq_iff_iff.2 (by simp)))
  by_cases hk : kd = 2 ∨ kd = 4 ∨ kd = 6
  · rw [EW kd hk]
    rcases hk with rfl | rfl | rfl
    all_goals
      go_enter Try.func18, Try.ntmps18
      go_wp2
      go_ret
      exact ⟨rfl, O0.out⟩
  · have E : fromB ⟨kd, frm, why, cards, parcels, vector, who, openings⟩ = whoB frm := by
      unfold fromB wardenB
      simp only
      rw [decide_eq_false (by omega), decide_eq_false (by omega), decide_eq_false (by omega)]; rfl
    rw [E]
    have u2 : (kd == 2) = false := by simp; omega
    have u4 : (kd == 4) = false := by simp; omega
    have u6 : (kd == 6) = false := by simp; omega
    have C1 := hide (fun wr : World => isDonor_any frm wr)
    clear hk E EW
    go_enter Try.func18, Try.ntmps18
    go_wp2_with fail
    refine (C1.out _).mono ?_
    rintro e w1 ⟨rfl, rfl⟩
    go_wp2
    go_ret
    exact ⟨rfl, O0.out⟩
set_option maxRecDepth 100000 in
set_option maxHeartbeats 2000000 in
theorem goodOwn_any (c : Wd) (m : WM) (w : World) (F : WordIn w c m) :
    Calls Try.prog 19 #[.agg (wdc c m).toArray] w fun e w' => e = .returned (.bool (ownB c)) ∧ Old w w' := by
  have O0 := hide (Old.of_alloc w (.cells (wdc c m).toArray 29))
  have HF := hide (F.mono O0.out)
  clear F
  obtain ⟨kd, frm, why, cards, parcels, vector, who, openings⟩ := c
  unfold wdc at *
  by_cases h : kd = 1 ∨ kd = 2 ∨ kd = 3 ∨ kd = 4 ∨ kd = 5 ∨ kd = 6 ∨ kd = 7 ∨ kd = 8
  · rcases h with rfl | rfl | rfl | rfl | rfl | rfl | rfl | rfl
    · have E : ownB ⟨1, frm, why, cards, parcels, vector, who, openings⟩ = (decide (cards.length = 1) && decide ((cards.map (·.who)).getD 0 0 = frm)) := rfl
      rw [E]
      clear E
      by_cases hl : cards.length = 1
      · obtain ⟨b, off, e1, cx, _, _⟩ := HF.out.cardT 0 cards[0] (List.getElem?_eq_getElem (by simp only; omega))
        have E2 : (cards.map (·.who)).getD 0 0 = cards[0].who := by simp [List.getD, List.getElem?_eq_getElem (show 0 < cards.length by omega)]
        rw [E2, decide_eq_true hl, Bool.true_and]
        clear E2
        simp only [cardV, Nat.zero_mul, Nat.add_zero] at cx
        generalize cards[0].who = x at *
        have e1' : m.a1 = some ⟨b, off, none⟩ := e1
        rw [hl, e1'] at O0 cx ⊢
        clear HF e1 e1'
        have EX : Hid (decide (x = frm) = (x == frm)) := Bool.eq_iff_iff.2 (by simp)
        rw [EX.out]
        go_enter Try.func19, Try.ntmps19
        go_wp2_with fail
        go_quiet (fail)
        go_wp2
        go_ret
        exact ⟨rfl, O0.out.drewN _⟩
      · rw [decide_eq_false hl, Bool.false_and]
        have t1 : ((cards.length : Int) == 1) = false := by simp; omega
        have t2 : (cards.length == 1) = false := by simpa using hl
        clear hl
        go_enter Try.func19, Try.ntmps19
        go_wp2_with fail
        go_quiet (fail)
        go_wp2
        go_ret
        exact ⟨rfl, O0.out.drewN _⟩
    · rw [show ownB ⟨2, frm, why, cards, parcels, vector, who, openings⟩ = donB (cards.map (·.who)) from rfl]
      have C := hide (rising_cardWho m.a1 m.c1 cards HF.out.lens.1 _ HF.out.cardT)
      go_enter Try.func19, Try.ntmps19
      go_wp2_with fail
      refine C.out.mono ?_
      rintro e w1 ⟨rfl, o1⟩
      have O1 := hide (O0.out.trans o1)
      clear o1
      go_wp2
      go_ret
      exact ⟨rfl, O1.out⟩
    · rw [show ownB ⟨3, frm, why, cards, parcels, vector, who, openings⟩ = (donB (parcels.map (·.to)) && parcels.all pcB) from rfl]
      have C := hide (goodParcels_parcelTo m.a2 m.c2 parcels m.pa m.pc HF.out.lens.2.1 _ HF.out.parcelT)
      generalize (donB (parcels.map (·.to)) && parcels.all pcB) = bb at *
      go_enter Try.func19, Try.ntmps19
      go_wp2_with fail
      refine C.out.mono ?_
      rintro e w1 ⟨rfl, o1⟩
      have O1 := hide (O0.out.trans o1)
      clear o1
      go_wp2
      go_ret
      exact ⟨rfl, O1.out⟩
    · rw [show ownB ⟨4, frm, why, cards, parcels, vector, who, openings⟩ = (donB (parcels.map (·.frm)) && parcels.all pcB) from rfl]
      have C := hide (goodParcels_parcelFrom m.a2 m.c2 parcels m.pa m.pc HF.out.lens.2.1 _ HF.out.parcelT)
      generalize (donB (parcels.map (·.frm)) && parcels.all pcB) = bb at *
      go_enter Try.func19, Try.ntmps19
      go_wp2_with fail
      refine C.out.mono ?_
      rintro e w1 ⟨rfl, o1⟩
      have O1 := hide (O0.out.trans o1)
      clear o1
      go_wp2
      go_ret
      exact ⟨rfl, O1.out⟩
    · rw [show ownB ⟨5, frm, why, cards, parcels, vector, who, openings⟩ = decide (vector.length ≤ 256) from rfl]
      by_cases hl : vector.length ≤ 256
      · have t1 : decide ((vector.length : Int) ≤ 256) = true := decide_eq_true (by omega)
        have t2 : decide (vector.length ≤ 256) = true := decide_eq_true hl
        clear hl
        rw [t2]
        go_enter Try.func19, Try.ntmps19
        go_wp2
        go_ret
        exact ⟨rfl, O0.out⟩
      · have t1 : decide ((vector.length : Int) ≤ 256) = false := decide_eq_false (by omega)
        have t2 : decide (vector.length ≤ 256) = false := decide_eq_false hl
        clear hl
        rw [t2]
        go_enter Try.func19, Try.ntmps19
        go_wp2
        go_ret
        exact ⟨rfl, O0.out⟩
    · rw [show ownB ⟨6, frm, why, cards, parcels, vector, who, openings⟩ = donB who from rfl]
      have C := hide (rising_itself m.a4 m.c4 who HF.out.lens.2.2.2.1 _ HF.out.who)
      go_enter Try.func19, Try.ntmps19
      go_wp2_with fail
      refine C.out.mono ?_
      rintro e w1 ⟨rfl, o1⟩
      have O1 := hide (O0.out.trans o1)
      clear o1
      go_wp2
      go_ret
      exact ⟨rfl, O1.out⟩
    · rw [show ownB ⟨7, frm, why, cards, parcels, vector, who, openings⟩ = (donB (openings.map (·.who)) && openings.all ogB) from rfl]
      have C := hide (rising_openingWho m.a5 m.c5 openings m.oa m.oc HF.out.lens.2.2.2.2 _ HF.out.openingT)
      have C2 := hide (fun (w' : World) o => containsOpening m.a5 m.c5 openings m.oa m.oc HF.out.lens.2.2.2.2 w' (HF.out.openingT.mono o))
      generalize donB (openings.map (·.who)) = b1 at *
      generalize openings.all ogB = b2 at *
      cases b1
      · go_enter Try.func19, Try.ntmps19
        go_wp2_with fail
        refine C.out.mono ?_
        rintro e w1 ⟨rfl, o1⟩
        have O1 := hide (O0.out.trans o1)
        clear o1
        go_wp2
        go_ret
        exact ⟨rfl, O1.out⟩
      · go_enter Try.func19, Try.ntmps19
        go_wp2_with fail
        refine C.out.mono ?_
        rintro e w1 ⟨rfl, o1⟩
        have R1 := (Row.new w 29 [.int .i64 7, .int .i64 frm, .int .i64 why, .slice m.a1 cards.length m.c1, .slice m.a2 parcels.length m.c2, .slice m.a3 vector.length m.c3, .slice m.a4 who.length m.c4, .slice m.a5 openings.length m.c5]).mono o1
        have d7 := R1.cell (i := 7) rfl
        have O1 := hide o1
        clear o1 R1
        go_wp2_with fail
        refine (C2.out _ O1.out).mono ?_
        rintro e w2 ⟨rfl, o2⟩
        have O2 := hide (O0.out.trans (O1.out.trans o2))
        clear o2 O1 d7
        go_wp2
        go_ret
        exact ⟨by simp, O2.out⟩
    · rw [show ownB ⟨8, frm, why, cards, parcels, vector, who, openings⟩ = (decide (0 < why) && decide (why ≤ 17)) from rfl]
      by_cases hl : 0 < why
      · have t1 : decide (0 < why) = true := decide_eq_true hl
        rw [t1, Bool.true_and]
        clear hl
        go_enter Try.func19, Try.ntmps19
        go_wp2
        go_ret
        exact ⟨rfl, O0.out⟩
      · have t1 : decide (0 < why) = false := decide_eq_false hl
        rw [t1, Bool.false_and]
        clear hl
        go_enter Try.func19, Try.ntmps19
        go_wp2
        go_ret
        exact ⟨rfl, O0.out⟩
  · have u1 : (kd == 1) = false := by simp; omega
    have u2 : (kd == 2) = false := by simp; omega
    have u3 : (kd == 3) = false := by simp; omega
    have u4 : (kd == 4) = false := by simp; omega
    have u5 : (kd == 5) = false := by simp; omega
    have u6 : (kd == 6) = false := by simp; omega
    have u7 : (kd == 7) = false := by simp; omega
    have u8 : (kd == 8) = false := by simp; omega
    have E : ownB ⟨kd, frm, why, cards, parcels, vector, who, openings⟩ = false := by
      unfold ownB
      simp only [if_neg (show ¬ kd = 8 by omega), if_neg (show ¬ kd = 1 by omega), if_neg (show ¬ kd = 2 by omega), if_neg (show ¬ kd = 3 by omega), if_neg (show ¬ kd = 4 by omega), if_neg (show ¬ kd = 5 by omega), if_neg (show ¬ kd = 6 by omega), if_neg (show ¬ kd = 7 by omega)]
    rw [E]
    clear h E
    go_enter Try.func19, Try.ntmps19
    go_wp2
    go_ret
    exact ⟨rfl, O0.out⟩
end Go.Proofs.Ytepchjpdfmleoaa
