/-
  container/heap over HpK: Fix, Push, Pop, Remove.
-/
import Derived.Test.YtnmigdcedcmbkaaHeapH
namespace Go.Proofs.Ytnmigdcedcmbkaa
open Go.RowKit Bl Hp
set_option linter.unusedVariables false

/-- What the list's own Push and Pop owe: 'Ready x v xs w': v is x, not yet in the list; 'val x': x as Pop answers it. -/
structure HpM {E : Type} [Inhabited E] (b : Nat) (St : List E → World → Prop) (R : World → World → Prop) (Ready : E → Value → List E → World → Prop) (val : E → Value) : Prop where
  pushK : ∀ {xs w} (x : E) (v : Value), St xs w → Ready x v xs w → Calls Try.prog 41 #[.pointer (some ⟨b, 0, none⟩), v] w fun e w' => e = .returned (.tuple #[]) ∧ St (xs ++ [x]) w' ∧ R w w'
  popK : ∀ {xs w} (x : E), St (xs ++ [x]) w → Calls Try.prog 40 #[.pointer (some ⟨b, 0, none⟩)] w fun e w' => e = .returned (val x) ∧ St xs w' ∧ R w w'
theorem m_push : (Try.prog.info? 57).map (fun i => (i.methods.find? (·.name == "Push")).map fun m => (m.path, m.func)) = some (some (#[], some (41, true))) := by kernel_rfl
theorem m_pop : (Try.prog.info? 57).map (fun i => (i.methods.find? (·.name == "Pop")).map fun m => (m.path, m.func)) = some (some (#[], some (40, true))) := by kernel_rfl
theorem go_push (v : Value) (w : World) (f : Nat) : (method (f + 1) 57 v "Push").run Try.prog w = .ok (41, v) w := run_method_ptr m_push Try.underlying57
theorem go_pop (v : Value) (w : World) (f : Nat) : (method (f + 1) 57 v "Pop").run Try.prog w = .ok (40, v) w := run_method_ptr m_pop Try.underlying57

section
variable {E : Type} [Inhabited E] {key : E → Mk} {b : Nat} {St : List E → World → Prop} {R : World → World → Prop} {Ready : E → Value → List E → World → Prop} {val : E → Value}



theorem kf_snoc (key : E → Mk) (xs : List E) (x : E) {k : Nat} (hk : k < xs.length) : kf key (xs ++ [x]) k = kf key xs k := by
  unfold kf
  simp only [List.getD_eq_getElem?_getD]
  rw [List.getElem?_append_left hk]
set_option maxHeartbeats 2000000 in
theorem push_any (K : HpK key b St R) (M : HpM b St R Ready val) (xs : List E) (x : E) (v : Value) (w : World) (S : St xs w) (H : Heap (kf key xs) xs.length) (RD : Ready x v xs w) :
    Calls Try.prog 16 #[.iface 57 (.pointer (some ⟨b, 0, none⟩)), v] w fun e w' => e = .returned (.tuple #[]) ∧ ∃ ys, ys.Perm (xs ++ [x]) ∧ Heap (kf key ys) (xs.length + 1) ∧ St ys w' ∧ R w w' := by
  have KK := hide K
  have C := hide (M.pushK x v S RD)
  have m1 := go_push (.pointer (some ⟨b, 0, none⟩)) w
  have U : Hid (UpOk (kf key (xs ++ [x])) (xs.length + 1) xs.length) := by
    refine ⟨fun k h1 h2 h3 => ?_, fun k h1 h2 h3 h4 => by omega⟩
    rw [kf_snoc key xs x (by omega), kf_snoc key xs x (by omega)]
    exact H k h1 (by omega)
  obtain ⟨ys, hy⟩ : ∃ ys, xs ++ [x] = ys := ⟨_, rfl⟩
  have ly : ys.length = xs.length + 1 := by rw [← hy]; simp
  have LN : Hid (∀ w', St ys w' → ∃ (a : Option Addr) (cap : Nat), w'.cell? ⟨b, 0, none⟩ = some (.slice a (xs.length + 1) cap) ∧ xs.length + 1 ≤ 100000 ∧ Calls Try.prog 36 #[.slice a (xs.length + 1) cap] w' fun e w'' => e = .returned (.int .i64 ((xs.length : Int) + 1)) ∧ w'' = w') := fun w' s => by
    obtain ⟨a, cap, hc, h1⟩ := K.cell s
    rw [ly] at hc h1
    exact ⟨a, cap, hc, h1, K.lenK a (xs.length + 1) cap w'⟩
  have UU : Hid (∀ w', St ys w' → Calls Try.prog 18 #[.iface 57 (.pointer (some ⟨b, 0, none⟩)), .int .i64 (xs.length : Int)] w' fun e w'' => e = .returned (.tuple #[]) ∧ ∃ zs, zs.Perm ys ∧ Beyond (xs.length + 1) ys zs ∧ Heap (kf key zs) (xs.length + 1) ∧ St zs w'' ∧ R w' w'') := fun w' s =>
    up_any K ys (xs.length + 1) xs.length w' s (by omega) (by omega) (by rw [← hy]; exact U.out)
  rw [hy] at C ⊢
  clear S H RD K M U hy ly
  generalize xs.length = n at *
  go_enter Try.func16, Try.ntmps16
  go_wp2_with fail
  refine C.out.mono ?_
  rintro e w1 ⟨rfl, s1, r1⟩
  obtain ⟨a, cap, hc, hn, L⟩ := LN.out w1 s1
  have L := hide L
  have m2 := go_len hc
  have S1 := hide s1
  have R1 := hide r1
  clear C m1 s1 r1 LN
  go_wp2_with fail
  refine L.out.mono ?_
  rintro e w2 ⟨rfl, rfl⟩
  have C2 := hide (UU.out w2 S1.out)
  clear L UU m2 hc
  go_wp2_with fail
  refine C2.out.mono ?_
  rintro e w3 ⟨rfl, zs, z1, z2, z3, z4, z5⟩
  have F : Hid (∃ zs : List E, zs.Perm ys ∧ Heap (kf key zs) (n + 1) ∧ St zs w3 ∧ R w w3) := ⟨zs, z1, z3, z4, KK.out.trans R1.out z5⟩
  clear C2 z1 z2 z3 z4 z5 R1 S1
  go_wp2
  go_end0
  exact ⟨rfl, F.out⟩
end
end Go.Proofs.Ytnmigdcedcmbkaa
