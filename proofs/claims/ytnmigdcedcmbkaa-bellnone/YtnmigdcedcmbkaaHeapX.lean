/-
  Which function an interface's method comes to, and at which receiver.
-/
import Derived.Test.YtnmigdcedcmbkaaProg
import Derived.Test.YtnmigdcedcmbkaaMem
namespace Go.Proofs.Ytnmigdcedcmbkaa
open Go.RowKit
set_option linter.unusedVariables false

theorem run_wrap {P : Program} (xs : Array TypeId) (xt : TypeId) (a : Addr) (s1 s2 : ByteArray) (w : World) : (Builtin.ssaWrapNilChk_ xs xt #[.pointer (some a), .string s1, .string s2]).run P w = .ok (.pointer (some a)) w := rfl
theorem run_method_val {P : Program} {fuel : Nat} {t elem : TypeId} {name : String} {f : FuncId} {a : Addr} {v : Value} {w : World}
    (hi : (P.info? t).map (fun i => (i.methods.find? (·.name == name)).map fun m => (m.path, m.func)) = some (some (#[], some (f, false)))) (ht : P.underlying t = some (.pointer elem)) {d : TypeDesc} (hu : P.underlying elem = some d) (hn : (match d with | .struct _ | .array _ _ => true | _ => false) = false) (hc : w.cell? a = some v) :
    (method (fuel + 1) t (.pointer (some a)) name).run P w = .ok (f, v) w := by
  cases h1 : P.info? t with
  | none => simp [h1] at hi
  | some i =>
    simp only [h1, Option.map_some, Option.some.injEq] at hi
    cases h2 : i.methods.find? (·.name == name) with
    | none => simp [h2] at hi
    | some m =>
      simp only [h2, Option.map_some, Option.some.injEq, Prod.mk.injEq] at hi
      obtain ⟨h3, h4⟩ := hi
      have hagg : (isAgg elem).run P w = .ok false w := by
        unfold isAgg
        rw [Sem.run_bind, run_underlying hu w]
        cases d <;> simp_all
      have hw := fun s1 s2 => run_wrap (P := P) #[t] t a s1 s2 w
      unfold method
      simp [typeInfo, h1, h2, h3, h4, follow, receiverAt, run_underlying ht, Place.get, asAddr, strVal, hw, hagg, hc, go_sem]
theorem run_method_ptr {P : Program} {fuel : Nat} {t elem : TypeId} {name : String} {f : FuncId} {v : Value} {w : World}
    (hi : (P.info? t).map (fun i => (i.methods.find? (·.name == name)).map fun m => (m.path, m.func)) = some (some (#[], some (f, true)))) (ht : P.underlying t = some (.pointer elem)) :
    (method (fuel + 1) t v name).run P w = .ok (f, v) w := by
  cases h1 : P.info? t with
  | none => simp [h1] at hi
  | some i =>
    simp only [h1, Option.map_some, Option.some.injEq] at hi
    cases h2 : i.methods.find? (·.name == name) with
    | none => simp [h2] at hi
    | some m =>
      simp only [h2, Option.map_some, Option.some.injEq, Prod.mk.injEq] at hi
      obtain ⟨h3, h4⟩ := hi
      unfold method
      simp [typeInfo, h1, h2, h3, h4, follow, receiverAt, run_underlying ht, Place.get, go_sem]
end Go.Proofs.Ytnmigdcedcmbkaa
