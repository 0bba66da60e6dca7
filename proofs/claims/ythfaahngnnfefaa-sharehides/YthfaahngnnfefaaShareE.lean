/-
  Package share: lowered, Other.
-/
import Derived.Test.YthfaahngnnfefaaShareD
namespace Go.Proofs.Ythfaahngnnfefaa
open Go.RowKit M Pm
set_option linter.unusedVariables false

namespace Ssa
section
variable {P : Program} {o : Oper} {af : Act} {C : Nat → World → Prop} {s s' : Nat}
theorem run_fld {ρ : Operand → Value} {ty : TypeId} {x : Operand} {f : Nat} {u v : Value} (ho : o.op = .fieldAddr ty x f) (hx : ρ x = u) (h : ∀ w, (Instr.fieldAt ty u f).run P w = .ok v w) (w : World) : (execOp ρ o).run P w = .ok (.value v) w := by
  unfold execOp
  simp only [ho, hx, Sem.run_bind, Sem.run_pure, Result.andThen_ok, h]
theorem run_two {ρ : Operand → Value} {ty : TypeId} {x y : Operand} {u1 u2 v : Value} (ho : o.op = .build ty #[(0, x), (1, y)]) (hx : ρ x = u1) (hy : ρ y = u2) (h : ∀ w, (Instr.build ty #[(0, u1), (1, u2)]).run P w = .ok v w) (w : World) : (execOp ρ o).run P w = .ok (.value v) w := by
  unfold execOp
  simp only [ho, List.map_toArray, List.map_cons, List.map_nil, hx, hy, Sem.run_bind, Sem.run_pure, Result.andThen_ok, h]
/-- A point's address in a slice of a block that begins at its first cell. -/
theorem run_addrP {ρ : Operand → Value} (ty e : TypeId) (x y : Operand) (ho : o.op = .indexAddr ty x y) (g k n cap : Nat) (hx : ρ x = .slice (some ⟨g, 0, none⟩) n cap) (hy : ρ y = .int .i64 (k : Int)) (hk : k < n)
    (hu : P.underlying ty = some (.slice e)) (hi : (P.info? e).map (·.size) = some 2) (w : World) : (execOp ρ o).run P w = .ok (.value (.pointer (some ⟨g, k * 2, none⟩))) w := by
  unfold execOp
  cases hq : P.info? e with
  | none => simp [hq] at hi
  | some i =>
    have hsz : i.size = 2 := by simpa [hq] using hi
    have hk0 : (0 : Int) ≤ k := by omega
    have hk1 : (k : Int) < n := by omega
    simp only [ho, hx, hy]
    simp [hu, sizeOf, typeInfo, hq, hsz, hk0, hk1, go_sem]
theorem good_storeP (ty : TypeId) (x y : Operand) (ho : o.op = .store ty x y) (hd : o.dst = none) (g i : Nat) (z : Int) (v : Nat) (hx : af.eval x = .pointer (some ⟨g, i * 2, none⟩)) (hy : af.eval y = .agg #[.int .i64 z, .int .u64 (v : Nat)])
    (hi : (P.info? ty).map (·.size) = some 2) (hc : ∀ w, C s w → w.there g (i * 2) 2) (hs : ∀ w, C s w → C s' (w.setCells g (i * 2) [.int .i64 z, .int .u64 (v : Nat)])) : Good P af C o s s' := by
  intro w hw
  have hr : (execOp af.eval o).run P w = .ok .skip (w.setCells g (i * 2) [.int .i64 z, .int .u64 (v : Nat)]) := by
    unfold execOp
    simp only [ho, hx, hy, Sem.run_bind, Sem.run_pure, Result.andThen_ok, run_storeAt_mid w g (i * 2) ty #[.int .i64 z, .int .u64 (v : Nat)] (hc w hw) hi (all_oneCell_toArray (cs := [.int .i64 z, .int .u64 (v : Nat)]) fun u hu => by
      simp at hu
      rcases hu with rfl | rfl <;> rfl)]
  rw [hr]
  exact ⟨hs w hw, hd⟩
end
end Ssa

/-- A point without the secret, one power lower. -/
def lowP (secret : Nat) (p : Pt) : Pt := (p.1, mulP (subP p.2 secret) (invP p.1.toNat))
def lowL (secret : Nat) (ps : List Pt) : List Pt := ps.map (lowP secret)
theorem lowL_length (secret : Nat) (ps : List Pt) : (lowL secret ps).length = ps.length := by simp [lowL]
theorem lowL_at {secret : Nat} {ps : List Pt} {i : Nat} (h : i < ps.length) : at1 (lowL secret ps) i = at1 ps i ∧ at2 (lowL secret ps) i = mulP (subP (at2 ps i) secret) (invP (at1 ps i).toNat) := by
  have e : (lowL secret ps)[i]? = some ((at1 ps i), mulP (subP (at2 ps i) secret) (invP (at1 ps i).toNat)) := by
    simp [lowL, lowP, at1, at2, h]
  exact at_of e
theorem lowL_sound {secret : Nat} {ps : List Pt} (S : SoundP ps) : SoundP (lowL secret ps) := by
  refine ⟨by rw [lowL_length]; exact S.pos, by rw [lowL_length]; exact S.le, fun i j hi hj hij => ?_, fun i hi => ?_⟩
  · rw [lowL_length] at hi hj
    rw [(lowL_at hi).1, (lowL_at hj).1]
    exact S.apart i j hi hj hij
  · rw [lowL_length] at hi
    rw [(lowL_at hi).1, (lowL_at hi).2]
    have := S.inr i hi
    exact ⟨this.1, this.2.1, mulP_lt _ _⟩
/-- The secret ahead of the polynomial through these: all points are there. -/
theorem lowL_on {secret : Nat} {ps : List Pt} (S : SoundP ps) {s : List Nat} (h : ∀ j, j < ps.length → ev (s.map F) (ptX (lowL secret ps) j) = ptY (lowL secret ps) j) : On (secret :: s) ps := ⟨fun i hi => by
  have e := h i hi
  unfold ptX ptY at e
  rw [(lowL_at hi).1, (lowL_at hi).2, F_mulP, F_subP] at e
  have r := S.inr i hi
  have hx : F (at1 ps i).toNat ≠ 0 := by
    intro h0
    rw [F_lt_zero (by omega)] at h0
    omega
  have hinv := inv_mul hx
  rw [F_invP (by omega)] at e
  apply F_inj (evN_lt _ _) r.2.2
  rw [F_evN]
  simp only [List.map_cons, ev]
  rw [e]
  generalize F (at1 ps i).toNat = x at *
  generalize inv x = y at *
  generalize F (at2 ps i) = v
  generalize F secret = c
  grind⟩
theorem low_put {secret : Nat} {ps : List Pt} {k : Nat} {p : Pt} (h : ps[k]? = some p) : ((lowL secret ps).take k ++ List.replicate (ps.length - k) (0, 0)).set k (lowP secret p) = (lowL secret ps).take (k + 1) ++ List.replicate (ps.length - (k + 1)) (0, 0) := by
  have hk : k < ps.length := (List.getElem?_eq_some_iff.1 h).1
  have hl : ((lowL secret ps).take k).length = k := by rw [List.length_take, lowL_length]; omega
  obtain ⟨r, hr⟩ : ∃ r, ps.length - k = r + 1 := ⟨ps.length - k - 1, by omega⟩
  rw [hr, show ps.length - (k + 1) = r by omega, List.replicate_succ, List.set_append_right _ _ (by rw [hl]; omega), hl, Nat.sub_self, List.take_add_one]
  simp [lowL, h]

end Go.Proofs.Ythfaahngnnfefaa
