/-
  container/heap over a list in memory that is told by letters: up, down, Push, Pop, Remove, Fix.
-/
import Derived.Test.YtnmigdcedcmbkaaProg
import Derived.Test.YtnmigdcedcmbkaaHeapN
import Derived.Test.YtnmigdcedcmbkaaHeapX
namespace Go.Proofs.Ytnmigdcedcmbkaa
open Go.RowKit Bl Hp
set_option linter.unusedVariables false

/-- Where in the order what lies at k stands. -/
def kf {E : Type} [Inhabited E] (key : E → Mk) (xs : List E) (k : Nat) : Mk := key (xs.getD k default)
theorem kf_swp {E : Type} [Inhabited E] (key : E → Mk) (xs : List E) {i j : Nat} (hi : i < xs.length) (hj : j < xs.length) (k : Nat) : kf key (swp xs i j) k = if k = j then kf key xs i else if k = i then kf key xs j else kf key xs k := by
  unfold kf
  simp only [List.getD_eq_getElem?_getD]
  rw [swp_get xs hi hj k]
  split
  · rfl
  · split <;> rfl

/-- What the methods of the list at block b owe. -/
structure HpK {E : Type} [Inhabited E] (key : E → Mk) (b : Nat) (St : List E → World → Prop) (R : World → World → Prop) : Prop where
  refl : ∀ w, R w w
  trans : ∀ {a b c}, R a b → R b c → R a c
  drew : ∀ {xs w} n, St xs w → St xs (w.drewN n) ∧ R w (w.drewN n)
  cell : ∀ {xs w}, St xs w → ∃ a cap, w.cell? ⟨b, 0, none⟩ = some (.slice a xs.length cap) ∧ xs.length ≤ 100000
  lenK : ∀ (a : Option Addr) (n cap : Nat) (w : World), Calls Try.prog 36 #[.slice a n cap] w fun e w' => e = .returned (.int .i64 (n : Int)) ∧ w' = w
  lessK : ∀ {xs w} (a : Option Addr) (cap i j : Nat), St xs w → w.cell? ⟨b, 0, none⟩ = some (.slice a xs.length cap) → i < xs.length → j < xs.length → Calls Try.prog 37 #[.slice a xs.length cap, .int .i64 (i : Int), .int .i64 (j : Int)] w fun e w' => e = .returned (.bool (ltM (kf key xs i) (kf key xs j))) ∧ St xs w' ∧ R w w'
  swapK : ∀ {xs w} (a : Option Addr) (cap i j : Nat), St xs w → w.cell? ⟨b, 0, none⟩ = some (.slice a xs.length cap) → i < xs.length → j < xs.length → Calls Try.prog 38 #[.slice a xs.length cap, .int .i64 (i : Int), .int .i64 (j : Int)] w fun e w' => e = .returned (.tuple #[]) ∧ St (swp xs i j) w' ∧ R w w'

theorem m_len : (Try.prog.info? 57).map (fun i => (i.methods.find? (·.name == "Len")).map fun m => (m.path, m.func)) = some (some (#[], some (36, false))) := by kernel_rfl
theorem m_less : (Try.prog.info? 57).map (fun i => (i.methods.find? (·.name == "Less")).map fun m => (m.path, m.func)) = some (some (#[], some (37, false))) := by kernel_rfl
theorem m_swap : (Try.prog.info? 57).map (fun i => (i.methods.find? (·.name == "Swap")).map fun m => (m.path, m.func)) = some (some (#[], some (38, false))) := by kernel_rfl
theorem go_len {b : Nat} {w : World} {a : Option Addr} {n cap : Nat} (hc : w.cell? ⟨b, 0, none⟩ = some (.slice a n cap)) (f : Nat) : (method (f + 1) 57 (.pointer (some ⟨b, 0, none⟩)) "Len").run Try.prog w = .ok (36, .slice a n cap) w :=
  run_method_val m_len Try.underlying57 Try.underlying46 rfl hc
theorem go_less {b : Nat} {w : World} {a : Option Addr} {n cap : Nat} (hc : w.cell? ⟨b, 0, none⟩ = some (.slice a n cap)) (f : Nat) : (method (f + 1) 57 (.pointer (some ⟨b, 0, none⟩)) "Less").run Try.prog w = .ok (37, .slice a n cap) w :=
  run_method_val m_less Try.underlying57 Try.underlying46 rfl hc
theorem go_swap {b : Nat} {w : World} {a : Option Addr} {n cap : Nat} (hc : w.cell? ⟨b, 0, none⟩ = some (.slice a n cap)) (f : Nat) : (method (f + 1) 57 (.pointer (some ⟨b, 0, none⟩)) "Swap").run Try.prog w = .ok (38, .slice a n cap) w :=
  run_method_val m_swap Try.underlying57 Try.underlying46 rfl hc

/-- Behind place n nothing has turned. -/
def Beyond {E : Type} (n : Nat) (xs ys : List E) : Prop := ∀ k, n ≤ k → ys[k]? = xs[k]?
theorem Beyond.swp {E : Type} {n : Nat} {xs ys : List E} (h : Beyond n xs ys) {i j : Nat} (hi : i < n) (hj : j < n) (hn : n ≤ ys.length) : Beyond n xs (swp ys i j) := fun k hk => by
  rw [swp_get ys (by omega) (by omega), if_neg (by omega), if_neg (by omega)]
  exact h k hk
section
variable {E : Type} [Inhabited E] {key : E → Mk} {b : Nat} {St : List E → World → Prop} {R : World → World → Prop}
set_option maxHeartbeats 2000000 in
theorem up_any (K : HpK key b St R) (xs : List E) (m j : Nat) (w : World) (S : St xs w) (hm : m ≤ xs.length) (hj : j < m) (U : UpOk (kf key xs) m j) :
    Calls Try.prog 18 #[.iface 57 (.pointer (some ⟨b, 0, none⟩)), .int .i64 (j : Int)] w fun e w' => e = .returned (.tuple #[]) ∧ ∃ xs', xs'.Perm xs ∧ Beyond m xs xs' ∧ Heap (kf key xs') m ∧ St xs' w' ∧ R w w' := by
  have KK := hide K
  obtain ⟨n, hn⟩ : ∃ n, xs.length = n := ⟨_, rfl⟩
  have HN := hide hn
  have X0 : Hid (xs.Perm xs ∧ UpOk (kf key xs) m j ∧ St xs w ∧ R w w ∧ Beyond m xs xs) := ⟨List.Perm.refl _, U, S, K.refl w, fun _ _ => rfl⟩
  have n100 : n ≤ 100000 := by
    obtain ⟨_, _, _, h⟩ := K.cell S
    omega
  rw [hn] at hm
  clear hn S U K
  go_enter Try.func18, Try.ntmps18
  go_wp2_with fail
  go_loopw [1, 4] (fun vj vi wr => ∃ j : Nat, ∃ ys : List E, j < m ∧ vj = .int .i64 (j : Int) ∧ Hid (ys.Perm xs ∧ UpOk (kf key ys) m j ∧ St ys wr ∧ R w wr ∧ Beyond m xs ys)) (fun vj _ _ => (intOf vj).toNat)
  case atStart => exact ⟨j, xs, hj, rfl, X0⟩
  case round =>
    clear X0 hj
    obtain ⟨j, ys, hj, rfl, X⟩ := hrel
    have ly := X.out.1.length_eq
    rw [HN.out] at ly
    obtain ⟨a, cap, hc, -⟩ := KK.out.cell X.out.2.2.1
    rw [ly] at hc
    by_cases h0 : j = 0
    · subst h0
      have F : Hid (∃ xs' : List E, xs'.Perm xs ∧ Beyond m xs xs' ∧ Heap (kf key xs') m ∧ St xs' wr ∧ R w wr) := ⟨ys, X.out.1, X.out.2.2.2.2, X.out.2.1.done (fun h _ => absurd h (by omega)), X.out.2.2.1, X.out.2.2.2.1⟩
      clear X hc ly
      go_wp2_with fail
      go_end0
      exact ⟨rfl, F.out⟩
    · obtain ⟨p, hp⟩ : ∃ p : Nat, p = (j - 1) / 2 := ⟨_, rfl⟩
      have e1 : ((j : Int) - 1).tdiv 2 = (p : Int) := by
        rw [show (j : Int) - 1 = ((j - 1 : Nat) : Int) by omega, Int.tdiv_eq_ediv_of_nonneg (by omega)]
        omega
      have e6 : ((j : Int) - 1) / 2 = (p : Int) := by omega
      have e2 : ((p : Int) == (j : Int)) = false := by rw [beq_eq_false_iff_ne]; omega
      have e3 : (p == j) = false := by rw [beq_eq_false_iff_ne]; omega
      have e4 : ¬ p = j := by omega
      have e5 : decide (p = j) = false := decide_eq_false e4
      have m1 := go_less hc
      have L := hide (KK.out.lessK a cap j p X.out.2.2.1 (by rw [ly]; exact hc) (by omega) (by omega))
      rw [ly] at L
      have UP : Hid (ltM (kf key ys j) (kf key ys p) = true → UpOk (kf key (swp ys p j)) m p) := fun h => by
        rw [hp] at h ⊢
        exact X.out.2.1.step (by omega) hj h (fun k => kf_swp key ys (by omega) (by omega) k)
      have DN : Hid (ltM (kf key ys j) (kf key ys p) = false → Heap (kf key ys) m) := fun h => by
        rw [hp] at h
        exact X.out.2.1.done fun _ _ => h
      have PM := hide (X.out.1)
      have RW := hide (X.out.2.2.2.1)
      have BY := hide (X.out.2.2.2.2)
      have BY2 := hide (X.out.2.2.2.2.swp (i := p) (j := j) (by omega) hj (by omega))
      have SP := hide ((swp_perm ys (i := p) (j := j) (by omega) (by omega)).trans X.out.1)
      have SW : Hid (∀ w', St ys w' → ∃ (a' : Option Addr) (cap' : Nat), w'.cell? ⟨b, 0, none⟩ = some (.slice a' n cap') ∧ Calls Try.prog 38 #[.slice a' n cap', .int .i64 (p : Int), .int .i64 (j : Int)] w' fun e w'' => e = .returned (.tuple #[]) ∧ St (swp ys p j) w'' ∧ R w' w'') := fun w' s' => by
        obtain ⟨a', cap', hc', -⟩ := KK.out.cell s'
        have := KK.out.swapK a' cap' p j s' hc' (by omega) (by omega)
        rw [ly] at this hc'
        exact ⟨a', cap', hc', this⟩
      have j1 : (1 : Int) ≤ j := by omega
      have pj := hide (show p < j by omega)
      clear X h0 hp ly
      cases hl : ltM (kf key ys j) (kf key ys p) with
      | false =>
        rw [hl] at L
        have H := hide (DN.out hl)
        clear UP DN SW SP hl pj
        go_wp2_with fail
        refine L.out.mono ?_
        rintro e w1 ⟨rfl, s1, r1⟩
        have F : Hid (∃ xs' : List E, xs'.Perm xs ∧ Beyond m xs xs' ∧ Heap (kf key xs') m ∧ St xs' w1 ∧ R w w1) := ⟨ys, PM.out, BY.out, H.out, s1, KK.out.trans RW.out r1⟩
        clear L s1 r1 m1 hc
        go_wp2
        go_end0
        exact ⟨rfl, F.out⟩
      | true =>
        rw [hl] at L
        have H := hide (UP.out hl)
        clear UP DN hl
        go_wp2_with fail
        refine L.out.mono ?_
        rintro e w1 ⟨rfl, s1, r1⟩
        obtain ⟨a', cap', hc', C2⟩ := SW.out w1 s1
        have C2 := hide C2
        have m2 := go_swap hc'
        have R1 := hide (KK.out.trans RW.out r1)
        clear L s1 r1 m1 hc SW
        go_wp2_with fail
        refine C2.out.mono ?_
        rintro e w2 ⟨rfl, s2, r2⟩
        have X2 : Hid ((swp ys p j).Perm xs ∧ UpOk (kf key (swp ys p j)) m p ∧ St (swp ys p j) w2 ∧ R w w2 ∧ Beyond m xs (swp ys p j)) := ⟨SP.out, H.out, s2, KK.out.trans R1.out r2, BY2.out⟩
        clear C2 s2 r2 m2 hc' R1
        go_wp2
        go_roundw
        case rel => exact ⟨p, _, by have := pj.out; omega, rfl, X2⟩
        case measure =>
          have := pj.out
          simp [intOf]
          omega
end
end Go.Proofs.Ytnmigdcedcmbkaa
