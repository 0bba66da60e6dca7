/-
  Laws for single operations of a region told by predicates (module Ssb): moves, whole arrays, bytes as strings, comparisons, calls.
-/
import Derived.Test.YtnmigdcedcmbkaaSsb
import Derived.Test.YtnmigdcedcmbkaaWhole
import Derived.Laws.BytesArg
import Derived.Laws.StructEq
import Derived.Deep.MidRow
namespace Go.Proofs.Ytnmigdcedcmbkaa
open Go Go.RowKit
set_option linter.unusedVariables false
namespace Ssb

/-- A predicate that outlasts whatever changes nothing old. -/
structure SP where
  p : Value → World → Prop
  st : ∀ v w w', p v w → Old w w' → p v w'
def cst (x : Value) : SP := ⟨fun v _ => v = x, fun _ _ _ h _ => h⟩
/-- A slice of the call's own that holds these numbers. -/
def own (k : IntKind) (n : Nat) (xs : List Nat) : SP := ⟨fun v w => ∃ g, v = .slice (some ⟨g, 0, none⟩) n n ∧ Rd w (some ⟨g, 0, none⟩) (nums k xs), fun _ _ _ ⟨g, h1, h2⟩ o => ⟨g, h1, h2.mono o⟩⟩

def okOf (l : List (Nat × SP)) (t : Tmp) (v : Value) (w : World) : Prop := match l.lookup t with | some q => q.p v w | none => True
theorem okOf_mono {l : List (Nat × SP)} {t : Tmp} {v : Value} {w w' : World} (h : okOf l t v w) (o : Old w w') : okOf l t v w' := by
  unfold okOf at *
  split at h
  · exact SP.st _ v w w' h o
  · trivial

section
variable {P : Program} {Q : Exit → Act → World → Prop} {C : World → Prop} {l : List (Nat × SP)} {o : Oper} {d : Tmp}

theorem lookup_mem : ∀ {l : List (Nat × SP)} {t : Nat} {q : SP}, l.lookup t = some q → (t, q) ∈ l
  | [], _, _, h => by simp at h
  | (k, r) :: l, t, q, h => by
    rw [List.lookup_cons] at h
    split at h
    · rename_i e
      have : t = k := by simpa using e
      subst this
      simp at h
      simp [h]
    · exact List.mem_cons_of_mem _ (lookup_mem h)

/-- A region by a list of predicates: of the temporaries that it does not write (ini), and of those that it does (wri). -/
theorem regionL {id : Nat} {ops : List Oper} {a : Act} {w : World} (C : World → Prop) (ini wri : List (Nat × SP)) (told : List (Tmp × Bool)) (hm : P.follows .mixedOrders = true) (hB : Ssa.okG ops.toArray [] [] = true)
    (hin : (ops.all (inB a.tmps.size)) = true) (hgu : guardsB ops.toArray a.tmps.size told = true) (htold : ∀ t b, (t, b) ∈ told → ∀ v w, okOf (ini ++ wri) t v w → v = .bool b)
    (hwr : (wri.all fun p => ops.any fun o => o.dst == some p.1) = true)
    (hC : C (w.drewN 1)) (h0 : ∀ p ∈ ini, p.2.p (a.eval (.tmp p.1)) (w.drewN 1))
    (hgood : AllGood P C Old (okOf (ini ++ wri)) ops) (hQ : ∀ a' w', C w' → a'.defers = a.defers → a'.tmps.size = a.tmps.size → (∀ t, t < a.tmps.size → okOf (ini ++ wri) t (a'.eval (.tmp t)) w') → Q .normal a' w') : (Code.region id ops.toArray true).wp P Q a w := by
  refine region C Old (okOf (ini ++ wri)) told hm hB hin hgu htold (fun _ _ _ _ h o => okOf_mono h o) hC (fun t ht hun => ?_) hgood hQ
  unfold okOf
  split
  · rename_i q hq
    rcases List.mem_append.1 (lookup_mem hq) with h | h
    · exact h0 _ h
    · have := List.all_eq_true.1 hwr _ h
      obtain ⟨o, ho, he⟩ := List.any_eq_true.1 this
      obtain ⟨i, hi, rfl⟩ := List.mem_iff_getElem.1 ho
      exact absurd (by simpa using he) (hun i ops[i] (by simp [hi]))
  · trivial

theorem g_val (hd : o.dst = some d) (h : ∀ (a : Act) (w : World), C w → (∀ t, Operand.tmp t ∈ o.op.operands → okOf l t (a.eval (.tmp t)) w) → ∃ u, (execOp a.eval o).run P w = .ok (.value u) w ∧ okOf l d u w) : Good P C Old (okOf l) o := by
  intro a w hC hop
  obtain ⟨u, h1, h2⟩ := h a w hC hop
  rw [h1]
  refine ⟨hC, Old.refl _, fun d' hd' => ?_⟩
  rw [hd] at hd'
  obtain rfl := Option.some.inj hd'
  exact h2
theorem g_mv {x : Tmp} (ho : o.op = .move (.tmp x)) (hd : o.dst = some d) (h : ∀ v w, okOf l x v w → okOf l d v w) : Good P C Old (okOf l) o :=
  g_val hd fun a w hC hop => ⟨_, Ssa.run_mv ho rfl w, h _ _ (hop x (by rw [ho]; simp [Op.operands]))⟩
theorem g_asg {x : Tmp} (ho : o.op = .assign (.tmp x)) (hd : o.dst = some d) (h : ∀ v w, okOf l x v w → okOf l d v w) : Good P C Old (okOf l) o :=
  g_val hd fun a w hC hop => ⟨_, Ssa.run_asg ho rfl w, h _ _ (hop x (by rw [ho]; simp [Op.operands]))⟩
theorem g_pick {c x : Tmp} {y : Operand} (ho : o.op = .pick (.tmp c) (.tmp x) y) (hd : o.dst = some d) (hc : ∀ v w, okOf l c v w → v = .bool true) (h : ∀ v w, okOf l x v w → okOf l d v w) : Good P C Old (okOf l) o :=
  g_val hd fun a w hC hop => ⟨_, Ssa.run_pick ho (hc _ _ (hop c (by rw [ho]; simp [Op.operands]))) rfl w, h _ _ (hop x (by rw [ho]; simp [Op.operands]))⟩
theorem g_whole {x : Tmp} {ty : TypeId} (ho : o.op = .load ty (.tmp x)) (hd : o.dst = some d) (b : Nat) (cs : List Value) (hx : ∀ v w, okOf l x v w → v = .pointer (some ⟨b, 0, none⟩)) (hr : ∀ w, C w → w.rangeAt b 0 cs) {td : TypeDesc}
    (hu : P.underlying ty = some td) (hrow : td.isRow = true) (hi : (P.info? ty).map (·.size) = some cs.length) (h : ∀ w, okOf l d (.agg cs.toArray) w) : Good P C Old (okOf l) o :=
  g_val hd fun a w hC hop => ⟨_, by
    have hv := hx _ _ (hop x (by rw [ho]; simp [Op.operands]))
    unfold execOp
    simp only [ho, hv, Sem.run_bind, Sem.run_pure, Result.andThen_ok, run_loadAt_mid w b 0 ty cs td (hr w hC) hu hrow hi], h w⟩

/-- Bytes as a string. -/
def bstr (xs : List Nat) : ByteArray := strOfNums (xs.map Int.ofNat)
theorem run_bstr {src dst e : TypeId} (hs : P.underlying src = some (.slice e)) (he : P.underlying e = some (.int .u8)) (hds : P.underlying dst = some .string) {a : Option Addr} {n cap : Nat} {xs : List Nat} {w : World} (hl : xs.length = n) (rd : Rd w a (nums .u8 xs)) :
    (convert src dst (.slice a n cap)).run P w = .ok (.string (bstr xs)) w := by
  by_cases h0 : n = 0
  · subst h0
    obtain rfl : xs = [] := List.eq_nil_of_length_eq_zero hl
    cases a with
    | none => exact run_convert_bytes_nil w src e hs he 0 cap dst hds
    | some ad =>
      rw [run_convert_bytes_string w src dst e _ 0 cap hs he hds]
      have := run_bytesToString (P := P) w ad 0 cap [] (by rfl)
      rw [this]
      rfl
  · obtain ⟨b, off, z, rfl, _, _⟩ := rd.num (i := 0) (by omega)
    refine run_convert_bytes_arg w src e hs he b off n cap (xs.map Int.ofNat) (by simpa using hl) (fun i hi => ?_) dst hds
    obtain ⟨b', off', z', ha, hz, hc⟩ := rd.num (i := i) (by omega)
    obtain ⟨rfl, rfl⟩ : b = b' ∧ off = off' := by simpa using ha
    rw [hc]
    have := hz.out
    simp [this]
theorem g_str {x : Tmp} {src dst e : TypeId} (ho : o.op = .convert src dst (.tmp x)) (hd : o.dst = some d) (hs : P.underlying src = some (.slice e)) (he : P.underlying e = some (.int .u8)) (hds : P.underlying dst = some .string)
    (hx : ∀ v w, C w → okOf l x v w → ∃ a n cap xs, v = .slice a n cap ∧ xs.length = n ∧ Rd w a (nums .u8 xs) ∧ okOf l d (.string (bstr xs)) w) : Good P C Old (okOf l) o :=
  g_val hd fun a w hC hop => by
    obtain ⟨ad, n, cap, xs, h1, h2, h3, h4⟩ := hx _ w hC (hop x (by rw [ho]; simp [Op.operands]))
    refine ⟨_, ?_, h4⟩
    unfold execOp
    simp only [ho, h1, Sem.run_bind, Sem.run_pure, Result.andThen_ok, run_bstr hs he hds h2 h3]
theorem g_eqs {x y : Tmp} {ty u : TypeId} (ho : o.op = .binOp .eql ty (.tmp x) (.tmp y) u) (hd : o.dst = some d) (hu : P.underlying ty = some .string) (s : ByteArray) (hx : ∀ v w, okOf l x v w → v = .string s) (hy : ∀ v w, okOf l y v w → v = .string s)
    (h : ∀ w, okOf l d (.bool true) w) : Good P C Old (okOf l) o :=
  g_val hd fun a w hC hop => ⟨.bool true, by
    have h1 := hx _ _ (hop x (by rw [ho]; simp [Op.operands]))
    have h2 := hy _ _ (hop y (by rw [ho]; simp [Op.operands]))
    unfold execOp
    simp only [ho, h1, h2]
    simp [go_sem, eqGuard], h w⟩
theorem g_eqa {x y : Tmp} {ty u : TypeId} (ho : o.op = .binOp .eql ty (.tmp x) (.tmp y) u) (hd : o.dst = some d) (hg : P.eqGuardType P.depth ty = false) (X : Array Value) (hx : ∀ v w, okOf l x v w → v = .agg X) (hy : ∀ v w, okOf l y v w → v = .agg X)
    (he : ∀ w, (Op.equalIn 10000 ty (.agg X) (.agg X)).run P w = .ok true w) (h : ∀ w, okOf l d (.bool true) w) : Good P C Old (okOf l) o :=
  g_val hd fun a w hC hop => ⟨.bool true, by
    have h1 := hx _ _ (hop x (by rw [ho]; simp [Op.operands]))
    have h2 := hy _ _ (hop y (by rw [ho]; simp [Op.operands]))
    unfold execOp
    simp only [ho, h1, h2, Sem.run_bind, run_eqGuard_agg w .eql ty _ _ X X hg, Result.andThen_ok, run_eql_struct w ty X X, he w, Sem.run_pure], h w⟩
theorem g_call (hd : o.dst = some d) (h : ∀ (a : Act) (w : World), C w → (∀ t, Operand.tmp t ∈ o.op.operands → okOf l t (a.eval (.tmp t)) w) → ∃ f args, (execOp a.eval o).run P w = .ok (.enter f args) w ∧
      Calls P f args w fun e w' => ∃ u, e = .returned u ∧ C w' ∧ Old w w' ∧ okOf l d u w') : Good P C Old (okOf l) o := by
  intro a w hC hop
  obtain ⟨f, args, h1, h2⟩ := h a w hC hop
  rw [h1]
  refine h2.mono ?_
  rintro e w' ⟨u, rfl, h3, h4, h5⟩
  refine ⟨u, rfl, h3, h4, fun d' hd' => ?_⟩
  rw [hd] at hd'
  obtain rfl := Option.some.inj hd'
  exact h5

/-- What lies behind a slice from place k on. -/
theorem rd_drop {w : World} {a : Option Addr} {kd : IntKind} {xs : List Nat} {cap k : Nat} (h : Rd w a (nums kd xs)) (hk : k ≤ xs.length) (hc : xs.length ≤ cap) :
    Rd w (if cap = k then a else a.map (·.add (k * 1))) (nums kd (xs.drop k)) := by
  by_cases h0 : cap = k
  · rw [if_pos h0, List.drop_eq_nil_of_le (by omega)]
    exact Rd.nil _
  · rw [if_neg h0]
    intro i v hv
    unfold nums at hv
    rw [List.map_drop, List.getElem?_drop] at hv
    obtain ⟨b, off, rfl, hcell⟩ := h (k + i) v hv
    refine ⟨b, off + k, ?_, ?_⟩
    · simp [Addr.add_lit]
    · rw [Nat.add_assoc]; exact hcell
/-- A slice that holds these numbers, wherever it lies. -/
def some_ (k : IntKind) (n : Nat) (xs : List Nat) : SP := ⟨fun v w => ∃ a cap, v = .slice a n cap ∧ n ≤ cap ∧ Rd w a (nums k xs), fun _ _ _ ⟨a, cap, h1, h2, h3⟩ o => ⟨a, cap, h1, h2, h3.mono o⟩⟩
theorem g_from {x : Tmp} {ty e : TypeId} {kd : IntKind} {i : Nat} (ho : o.op = .slice ty (.tmp x) (some (.const (.int .i64 (i : Int)))) none none) (hd : o.dst = some d) (hu : P.underlying ty = some (.slice e)) (hi : (P.info? e).map (·.size) = some 1) (n : Nat) (xs : List Nat) (hl : xs.length = n) (hin : i ≤ n)
    (hx : ∀ v w, okOf l x v w → ∃ a cap, v = .slice a n cap ∧ n ≤ cap ∧ Rd w a (nums kd xs)) (h : ∀ v w, (some_ kd (n - i) (xs.drop i)).p v w → okOf l d v w) : Good P C Old (okOf l) o :=
  g_val hd fun b w hC hop => by
    obtain ⟨a, cap, h1, h2, h3⟩ := hx _ w (hop x (by rw [ho]; simp [Op.operands]))
    have he : P.elem ty = e := by simp [Program.elem, hu]
    have hu' : P.underlying ty = some (.slice (P.elem ty)) := by rw [he]; exact hu
    refine ⟨.slice (if cap = i then a else a.map (·.add (i * 1))) (n - i) (cap - i), ?_, h _ _ ⟨_, _, rfl, by omega, rd_drop h3 (by omega) (by omega)⟩⟩
    cases hq : P.info? e with
    | none => simp [hq] at hi
    | some inf =>
      have hsz : inf.size = 1 := by simpa [hq] using hi
      have hcn : b.eval (.const (.int .i64 (i : Int))) = .int .i64 (i : Int) := rfl
      unfold execOp
      simp only [ho, h1, hcn, Option.map_some, Option.map_none, Sem.run_bind, run_sliceAt_slice w ty _ _ _ _ hu']
      rw [run_slice_l w ty a n cap hu' .i64 i (by omega) (by omega), he]
      simp [sizeOf, typeInfo, hq, hsz, sliced, go_sem]
end
/-- The end of a function whose result is a temporary. -/
theorem ends {P : Program} {fn : Func} {R : Ending → World → Prop} {a : Act} {w : World} {t : Tmp} {v : Value} (hr : fn.results = #[.tmp t]) (hv : a.eval (.tmp t) = v) (hd : a.defers = []) (hR : R (.returned v) w) : bodyPost P fn R .ret a w :=
  bodyPost_ret (by rw [results_tmp hr]; exact congrArg (fun v => Result.ok v w) hv) hd hR
end Ssb
end Go.Proofs.Ytnmigdcedcmbkaa
