/-
  MgWb: 5 parts, one behind the other; what each proves, and under which conditions, its own heading says.
-/
import Derived.Test.YtepchjpdfmleoaaMgLetB
import Derived.Test.YtepchjpdfmleoaaReadN
import Derived.Test.YtepchjpdfmleoaaMgWa
import Derived.Test.YtepchjpdfmleoaaMgSs
import Derived.Laws.AppendOwn
import Derived.Laws.AppendOwnNone
import Derived.Maps.AppendAt
import Derived.Test.YtepchjpdfmleoaaWhole

/-
  Package words: a reader (an Eye in a box, and whether there was a strange thing): what it is, what its smallest calls do; lists of the call's own that are appended to.
-/
namespace Go.Proofs.Ytepchjpdfmleoaa
open Go.RowKit Cn Pn Wn Rn
set_option linter.unusedVariables false

/-- A reader's own two blocks. -/
def Sgb (g b : Nat) : Nat → Prop := fun i => i = g ∨ i = b
/-- Its blocks, and all that came behind. -/
def S3 (B g b : Nat) : Nat → Prop := fun i => i = g ∨ i = b ∨ B ≤ i
theorem sgb_s3 {B g b : Nat} : ∀ i, Sgb g b i → S3 B g b i := fun i h => h.elim .inl fun h => .inr (.inl h)
theorem RdS.low {S T : Nat → Prop} {w w' : World} {a : Option Addr} {vs : List Value} (h : RdS S w a vs) (k : Kept T w w') (hT : ∀ i, T i → S i) : RdS S w' a vs := h.kept (k.sub hT)
/-- A reader in box g, its Eye in box b, the bytes in a block below B. -/
structure RdrV (B g b : Nat) (s : Rs) (w : World) : Prop where
  row : Row w g 65 [.pointer (some ⟨b, 0, none⟩), .bool s.st]
  ne : g ≠ b
  gB : g < B
  bB : b < B
  size : B ≤ w.heap.size
  eye : EyeF (fun i => i = g ∨ i = b ∨ B ≤ i) b s.l s.er w
section
variable {B g b : Nat} {s : Rs} {w w' : World}
theorem RdrV.low (h : RdrV B g b s w) (hk : ∀ k, k < B → w'.heap[k]? = w.heap[k]?) (hz : w.heap.size ≤ w'.heap.size) : RdrV B g b s w' := by
  refine ⟨(hk g h.gB).trans h.row, h.ne, h.gB, h.bB, Nat.le_trans h.size hz, ?_⟩
  obtain ⟨a, c, r, P, hS⟩ := h.eye
  refine ⟨a, c, r, ⟨(hk b h.bB).trans P.row, P.room, P.rd.same (fun x hp hx => hk _ ?_), P.ne, P.len, P.each, P.ok, P.no, P.lit⟩, hS⟩
  rw [nums_length] at hp
  apply Nat.lt_of_not_le
  intro hge
  exact hS x hp hx (.inr (.inr hge))
theorem RdrV.mono (h : RdrV B g b s w) (o : Old w w') : RdrV B g b s w' := h.low (fun k hk => o.block k (Nat.lt_of_lt_of_le hk h.size)) o.size
theorem RdrV.step (h : RdrV B g b s w) {l : List Nat} {er : Int} (k : Kept (fun i => i = b) w w') (e : EyeF (fun i => i = g ∨ i = b ∨ B ≤ i) b l er w') : RdrV B g b ⟨l, er, s.st⟩ w' :=
  ⟨k.row h.row h.ne, h.ne, h.gB, h.bB, Nat.le_trans h.size k.size, e⟩
theorem RdrV.by_ (h : RdrV B g b s w) (n : Nat) : ∀ x ∈ tkS s.l s.er n, x < 256 := h.eye.each n
theorem kept_b (k : Kept (fun i => i = b) w w') : Kept (Sgb g b) w w' := k.sub fun i hi => .inr hi
theorem RdrV.small (h : RdrV B g b s w) : Calls Try.prog 69 #[.pointer (some ⟨b, 0, none⟩)] w fun e w' => e = .returned (.int .i64 (((rSm s).1 : Nat) : Int)) ∧ Kept (Sgb g b) w w' ∧ RdrV B g b (rSm s).2 w' :=
  (eSmallF _ b (.inr (.inl rfl)) s.l s.er w h.eye).mono fun _ _ ⟨e, k, q⟩ => ⟨e, kept_b k, h.step k q⟩
theorem RdrV.great (h : RdrV B g b s w) : Calls Try.prog 98 #[.pointer (some ⟨b, 0, none⟩)] w fun e w' => e = .returned (.int .u64 (((rGr s).1 : Nat) : Int)) ∧ Kept (Sgb g b) w w' ∧ RdrV B g b (rGr s).2 w' :=
  (eGreatF _ b (.inr (.inl rfl)) s.l s.er w h.eye).mono fun _ _ ⟨e, k, q⟩ => ⟨e, kept_b k, h.step k q⟩
theorem RdrV.bytes (h : RdrV B g b s w) : Calls Try.prog 99 #[.pointer (some ⟨b, 0, none⟩)] w fun e w' => ∃ a k, e = .returned (.slice a (rBy s).1.length k) ∧ RdS (S3 B g b) w' a (nums .u8 (rBy s).1) ∧ (∀ x ∈ (rBy s).1, x < 256) ∧ Kept (Sgb g b) w w' ∧ RdrV B g b (rBy s).2 w' :=
  (eBytesF _ b (.inr (.inl rfl)) s.l s.er w h.eye).mono fun _ _ ⟨a, k, e, r, hx, kk, q⟩ => ⟨a, k, e, r, hx, kept_b kk, h.step kk q⟩
theorem RdrV.ptr (h : RdrV B g b s w) : w.cell? ⟨g, 0, none⟩ = some (.pointer (some ⟨b, 0, none⟩)) := h.row.cell (i := 0) rfl
theorem RdrV.strange (h : RdrV B g b s w) : RdrV B g b ⟨s.l, s.er, true⟩ (w.setCell ⟨g, 1, none⟩ (.bool true)) ∧ Kept (Sgb g b) w (w.setCell ⟨g, 1, none⟩ (.bool true)) := by
  have gr := grown_set w g 1 (.bool true)
  have k : Kept (fun i => i = g) w (w.setCell ⟨g, 1, none⟩ (.bool true)) := Kept.of_grown gr rfl
  exact ⟨⟨h.row.set 1 (.bool true), h.ne, h.gB, h.bB, Nat.le_trans h.size gr.size, h.eye.keep k (fun e => h.ne e.symm) (fun i hi => .inl hi)⟩, k.sub fun i hi => .inl hi⟩
end
theorem rSm_lt {B g b : Nat} {s : Rs} {w : World} (h : RdrV B g b s w) : (rSm s).1 < 4294967296 := nmN_below s.er (h.by_ 4)
theorem rGr_lt {B g b : Nat} {s : Rs} {w : World} (h : RdrV B g b s w) : (rGr s).1 < 18446744073709551616 := nmN_below s.er (h.by_ 8)

theorem reader_number {B g b : Nat} {s : Rs} {w : World} (h : RdrV B g b s w) :
    Calls Try.prog 75 #[.pointer (some ⟨g, 0, none⟩)] w fun e w' => e = .returned (.int .u32 (((rSm s).1 : Nat) : Int)) ∧ Kept (Sgb g b) w w' ∧ RdrV B g b (rSm s).2 w' := by
  have c0 := h.ptr
  have C := hide h.small
  have lt := rSm_lt h
  generalize rSm s = z at *
  obtain ⟨n, s2⟩ := z
  simp only at *
  have iw : IntKind.u32.wrap (n : Int) = (n : Int) := by rw [IntKind.wrap_u32]; omega
  clear h
  go_enter Try.func75, Try.ntmps75
  go_wp2_with fail
  refine C.out.mono ?_
  rintro e w1 ⟨rfl, k1, r1⟩
  have K1 := hide k1
  have R1 := hide r1
  clear C c0 k1 r1
  go_wp2
  go_ret
  exact ⟨rfl, K1.out, R1.out⟩

theorem reader_mark {B g b : Nat} {s : Rs} {w : World} (h : RdrV B g b s w) :
    Calls Try.prog 100 #[.pointer (some ⟨g, 0, none⟩)] w fun e w' => e = .returned (.bool (rMk s).1) ∧ Kept (Sgb g b) w w' ∧ RdrV B g b (rMk s).2 w' := by
  have c0 := h.ptr
  have C := hide h.small
  unfold rMk
  generalize rSm s = z at *
  obtain ⟨n, s2⟩ := z
  simp only at *
  by_cases hn : 1 < n
  · have t1 : decide ((1 : Int) < (n : Int)) = true := decide_eq_true (by omega)
    have t1' : decide ((n : Int) > 1) = true := t1
    have t1'' : decide (1 < n) = true := decide_eq_true hn
    have t2 : ((n : Int) == 1) = false := by simp; omega
    have t2' : (n == 1) = false := by simp; omega
    have E : Hid (decide (n = 1) = false) := decide_eq_false (by omega)
    have T : Hid (decide (1 < n) = true) := t1''
    clear h
    go_enter Try.func100, Try.ntmps100
    go_wp2_with fail
    refine C.out.mono ?_
    rintro e w1 ⟨rfl, k1, r1⟩
    have f1 := r1.row.free 1
    have cs := r1.row.cell (i := 1) rfl
    have R1 := hide r1.strange.1
    have K1 := hide (k1.then r1.strange.2)
    clear C c0 k1 r1 hn
    go_wp2
    go_ret
    refine ⟨by rw [E.out]; rfl, K1.out, ?_⟩
    have := R1.out
    rw [show (s2.st || decide (1 < n)) = true by rw [T.out, Bool.or_true]]
    exact this
  · have t1 : decide ((1 : Int) < (n : Int)) = false := decide_eq_false (by omega)
    have t1' : decide ((n : Int) > 1) = false := t1
    have t1'' : decide (1 < n) = false := decide_eq_false hn
    have E : Hid (decide (n = 1) = (n == 1)) := Bool.eq_iff_iff.2 (by simp)
    have T : Hid (decide (1 < n) = false) := t1''
    clear h
    go_enter Try.func100, Try.ntmps100
    go_wp2_with fail
    refine C.out.mono ?_
    rintro e w1 ⟨rfl, k1, r1⟩
    have R1 := hide r1
    have K1 := hide k1
    clear C c0 k1 r1 hn
    go_wp2
    go_ret
    refine ⟨by rw [E.out]; exact congrArg (fun z => Ending.returned (.bool z)) (Bool.eq_iff_iff.2 (by simp; omega)), K1.out, ?_⟩
    have := R1.out
    rw [show (s2.st || decide (1 < n)) = s2.st by rw [T.out, Bool.or_false]]
    exact this

section
variable {w w' : World} {base : Nat} {e : TypeId} {size : Nat} {v : Value} {n : Nat} {xs : List Value}
theorem own_kept {S : Nat → Prop} (h : w.ownsRow base e size v n xs) (k : Kept S w w') (hS : ∀ i, S i → i < base) : w'.ownsRow base e size v n xs := by
  refine ⟨h.1, ?_⟩
  rcases h.2 with hn | ⟨g, cap, cur, rfl, h1, hg, rest⟩
  · exact .inl hn
  · exact .inr ⟨g, cap, cur, rfl, h1, (k.block g (Array.getElem?_eq_some_iff.1 hg).1 (fun hs => by have := hS g hs; omega)).trans hg, rest⟩
theorem own_mono (h : w.ownsRow base e size v n xs) (o : Old w w') : w'.ownsRow base e size v n xs := own_kept (S := fun _ => False) h (Kept.of_old o) (fun _ h => h.elim)
theorem own_rd (h : w.ownsRow base e 1 v n xs) : ∃ a cap, v = .slice a n cap ∧ n ≤ cap ∧ Rd w a xs ∧ ∀ x, a = some x → base ≤ x.block := by
  obtain ⟨h1, h2⟩ := h
  rcases h2 with ⟨rfl, h3⟩ | ⟨g, cap, cur, rfl, h4, h5, h6, h7, h8, h9⟩
  · subst h3
    have : xs = [] := List.eq_nil_of_length_eq_zero (by omega)
    subst this
    exact ⟨none, 0, rfl, Nat.le_refl _, Rd.nil _, by simp⟩
  · refine ⟨_, cap, rfl, h6, ?_, fun x hx => by cases hx; exact h4⟩
    intro i u hv
    refine ⟨g, 0, rfl, ?_⟩
    rw [← h9, List.getElem?_take] at hv
    split at hv
    · simp [World.cell?, h5] at hv ⊢
      exact hv
    · cases hv
end
/-- Structs of three cells as cells. -/
def tri3 {β : Type} (c : β → Value × Value × Value) (ps : List β) : List Value := ps.flatMap fun p => [(c p).1, (c p).2.1, (c p).2.2]
theorem tri3_get {β : Type} (c : β → Value × Value × Value) : ∀ (ps : List β) (i : Nat) (p : β), ps[i]? = some p → (tri3 c ps)[i * 3]? = some (c p).1 ∧ (tri3 c ps)[i * 3 + 1]? = some (c p).2.1 ∧ (tri3 c ps)[i * 3 + 2]? = some (c p).2.2
  | [], i, p, h => by simp at h
  | q :: r, 0, p, h => by
    simp at h; subst h
    simp [tri3]
  | q :: r, i + 1, p, h => by
    have ih := tri3_get c r i p (by simpa using h)
    have e : tri3 c (q :: r) = (c q).1 :: (c q).2.1 :: (c q).2.2 :: tri3 c r := rfl
    rw [e, show (i + 1) * 3 = i * 3 + 1 + 1 + 1 by omega, show i * 3 + 1 + 1 + 1 + 1 = (i * 3 + 1) + 1 + 1 + 1 by omega, show i * 3 + 1 + 1 + 1 + 2 = (i * 3 + 2) + 1 + 1 + 1 by omega]
    simpa using ih
theorem own_tri {w : World} {base : Nat} {e : TypeId} {v : Value} {β : Type} {c : β → Value × Value × Value} {ps : List β} (h : w.ownsRow base e 3 v ps.length (tri3 c ps)) :
    ∃ a cap, v = .slice a ps.length cap ∧ ps.length ≤ cap ∧ (∀ (i : Nat) (p : β), ps[i]? = some p → ∃ b off, a = some ⟨b, off, none⟩ ∧ w.cell? ⟨b, off + i * 3, none⟩ = some (c p).1 ∧ w.cell? ⟨b, off + i * 3 + 1, none⟩ = some (c p).2.1 ∧ w.cell? ⟨b, off + i * 3 + 2, none⟩ = some (c p).2.2) ∧ ∀ x, a = some x → base ≤ x.block := by
  obtain ⟨h1, h2⟩ := h
  rcases h2 with ⟨rfl, h3⟩ | ⟨g, cap, cur, rfl, h4, h5, h6, h7, h8, h9⟩
  · have : ps = [] := List.eq_nil_of_length_eq_zero h3
    subst this
    exact ⟨none, 0, rfl, Nat.le_refl _, by intro i p hp; simp at hp, by simp⟩
  · refine ⟨_, cap, rfl, h6, ?_, fun x hx => by cases hx; exact h4⟩
    intro i p hp
    have key : ∀ j u, (tri3 c ps)[j]? = some u → w.cell? ⟨g, j, none⟩ = some u := by
      intro j u hv
      rw [← h9, List.getElem?_take] at hv
      split at hv
      · simp [World.cell?, h5] at hv ⊢
        exact hv
      · cases hv
    obtain ⟨c1, c2, c3⟩ := tri3_get c ps i p hp
    exact ⟨g, 0, rfl, by rw [Nat.zero_add]; exact key _ _ c1, by rw [Nat.zero_add]; exact key _ _ c2, by rw [Nat.zero_add]; exact key _ _ c3⟩

section
variable {P : Program} {ops : Array Oper} {rest : List Oper} {o : Oper} {a : Act} {w : World} {Q : Exit → Act → World → Prop}
/-- One element more, of whatever size. -/
theorem wp_append1 (hgd : o.guard = none) (s x : Operand) (t : TypeId) (ho : o.op = .call { callee := .builtin .append, args := #[s, x], argTypes := #[t, t] })
    (base : Nat) (e : TypeId) (ht : P.underlying t = some (.slice e)) {z : Value} {size bytes : Nat} (hi : (P.info? e).map (fun i => (i.zero, i.size, i.bytes)) = some (some z, size, bytes)) (hz : z.cells.size = size) (hsz : 0 < size) (hby : bytes ≤ 64)
    (v : Value) (n : Nat) (xs : List Value) (hs : a.eval s = v) (hown : w.ownsRow base e size v n xs) (g c : Nat) (news : List Value) (hnl : news.length = size) (hx : a.eval x = .slice (some ⟨g, 0, none⟩) 1 c) (hy : Row w g e news) (h1 : ∀ u ∈ news, u.oneCell' = true)
    (hn : n < 1000000) (hbase : base ≤ w.heap.size)
    (h : ∀ v' w', w'.ownsRow base e size v' (n + 1) (xs ++ news) → w.grownBy w' v.ownBlock → (v'.ownBlock = v.ownBlock ∨ v'.ownBlock = some w.heap.size) → wpList P ops Q rest (a.put o.dst v') w') : wpList P ops Q (o :: rest) a w := by
  obtain ⟨i0, g1, g2, g3, g4⟩ := info_parts hi
  refine wpList_append_own_at w hgd s x t ho base e i0 z size bytes ht g1 g2 g3 g4 hz hsz v n xs hs hown ⟨g, 0, none⟩ 1 c news hx (by rw [hnl]; omega) ?_ h1 ?_ ?_ hbase ?_
  · intro j u hj
    rw [Addr.add_lit, Nat.zero_add]
    exact hy.cell hj
  · show n + 1 ≤ 9223372036854775807
    omega
  · have : (n + 1) * bytes ≤ 1000000 * 64 := Nat.mul_le_mul (by omega) hby
    omega
  · intro v' w' h5 h6 _ h7
    exact h v' w' h5 h6 h7
end
/-- What a round of a list's reading does to the world, seen from its beginning. -/
theorem kept_round {g b base : Nat} {w1 wr w2 w3 : World} {ob : Option Nat} {o : Obj} (k1 : Kept (Sgb g b) w1 wr) (k2 : Kept (Sgb g b) wr w2) (gr : (w2.alloc o).grownBy w3 ob) (hb : w1.heap.size = base) (hob : ∀ i, ob = some i → base ≤ i) : Kept (Sgb g b) w1 w3 := by
  have k3 := (k1.then k2).then (Kept.of_old (Old.of_alloc w2 o))
  exact ⟨gr.os.trans k3.os, gr.tape.trans k3.tape, gr.output.trans k3.output, Nat.le_trans k3.size gr.size, fun i hi hn => (gr.block i (Nat.lt_of_lt_of_le hi k3.size) (fun e => by have := hob i e.symm; omega)).trans (k3.block i hi hn)⟩
theorem RdrV.round {B g b base : Nat} {s : Rs} {w2 w3 : World} {ob : Option Nat} {o : Obj} (h : RdrV B g b s w2) (gr : (w2.alloc o).grownBy w3 ob) (hB : B ≤ base) (hob : ∀ i, ob = some i → base ≤ i) : RdrV B g b s w3 :=
  (h.mono (Old.of_alloc w2 o)).low (fun k hk => gr.block k (Nat.lt_of_lt_of_le hk (Nat.le_trans h.size (Old.of_alloc w2 o).size)) (fun e => by have := hob k e.symm; omega)) gr.size
/-- Structs in a block that is none of S. -/
def TriS (S : Nat → Prop) (w : World) (a : Option Addr) {α : Type} (c : Nat → α → Value × Value × Value) (l : List α) : Prop := Tri w a c l ∧ ∀ x, 0 < l.length → a = some x → ¬ S x.block
theorem TriS.kept {S T : Nat → Prop} {w w' : World} {a : Option Addr} {α : Type} {c : Nat → α → Value × Value × Value} {l : List α} (h : TriS S w a c l) (k : Kept T w w') (hT : ∀ i, T i → S i) : TriS S w' a c l := by
  refine ⟨fun i x hx => ?_, h.2⟩
  obtain ⟨b, off, e, h1, h2, h3⟩ := h.1 i x hx
  have hl : 0 < l.length := by have := (List.getElem?_eq_some_iff.1 hx).1; omega
  have hb : w'.heap[b]? = w.heap[b]? := k.block b (World.block_lt_of_cell? w _ h1) (fun ht => h.2 _ hl e (hT _ ht))
  have key : ∀ o v, w.cell? ⟨b, o, none⟩ = some v → w'.cell? ⟨b, o, none⟩ = some v := fun o v hv => (World.cell?_of_block (a := ⟨b, o, none⟩) hb).trans hv
  exact ⟨b, off, e, key _ _ h1, key _ _ h2, key _ _ h3⟩
theorem TriS.nil {S : Nat → Prop} {w : World} {a : Option Addr} {α : Type} {c : Nat → α → Value × Value × Value} : TriS S w a c ([] : List α) := ⟨by intro i x hx; simp at hx, by simp⟩
theorem sgb_lt {B g b n : Nat} {s : Rs} {w : World} (h : RdrV B g b s w) (hn : w.heap.size ≤ n) : ∀ i, Sgb g b i → i < n := by
  intro i hi
  have h1 := h.gB
  have h2 := h.bB
  have h3 := h.size
  rcases hi with rfl | rfl <;> omega
end Go.Proofs.Ytepchjpdfmleoaa

/-
  Package words: cards and parcels are read.
-/
namespace Go.Proofs.Ytepchjpdfmleoaa
open Go.RowKit Cn Pn Wn Rn
set_option linter.unusedVariables false

theorem info3c {x y z : Value} : (Try.prog.info? 48).map (·.size) = some [x, y, z].length := by kernel_rfl
theorem info3p {x y z : Value} : (Try.prog.info? 50).map (·.size) = some [x, y, z].length := by kernel_rfl
theorem info3o {x y z : Value} : (Try.prog.info? 53).map (·.size) = some [x, y, z].length := by kernel_rfl
/-- Bytes as an Eye hands them out. -/
def XB8 (B g b : Nat) (xs : List Nat) : Ssx.XP (Kept (Sgb g b)) := ⟨fun v w => ∃ a k, v = .slice a xs.length k ∧ RdS (S3 B g b) w a (nums .u8 xs), fun _ _ _ ⟨a, k, e, r⟩ kk => ⟨a, k, e, r.low kk sgb_s3⟩⟩

set_option maxRecDepth 100000 in
set_option maxHeartbeats 2000000 in
theorem reader_card {B g b : Nat} {s : Rs} {w : World} (h : RdrV B g b s w) :
    Calls Try.prog 71 #[.pointer (some ⟨g, 0, none⟩)] w fun e w' => e = .returned (.agg #[.int .i64 (rWho s).1, .int .u64 (((rGr (rWho s).2).1 : Nat) : Int), .int .u64 (((rGr (rGr (rWho s).2).2).1 : Nat) : Int)]) ∧ Kept (Sgb g b) w w' ∧ RdrV B g b (rGr (rGr (rWho s).2).2).2 w' := by
  have c0 := h.ptr
  have hB := h.size
  have HG : Hid (¬ Sgb g b w.heap.size) := by intro hs; have h1 := h.gB; have h2 := h.bB; rcases hs with hs | hs <;> omega
  have H0 := hide h
  have CC : Hid (Row ((w.alloc (.cells #[.int .i64 0, .int .u64 0, .int .u64 0] 48)).drewN 1) w.heap.size 48 [.int .i64 0, .int .u64 0, .int .u64 0] ∧ ((w.alloc (.cells #[.int .i64 0, .int .u64 0, .int .u64 0] 48)).drewN 1).cell? ⟨g, 0, none⟩ = some (.pointer (some ⟨b, 0, none⟩))) := ⟨(Row.new w 48 [.int .i64 0, .int .u64 0, .int .u64 0]).drewN 1, (h.mono ((Old.of_alloc w (.cells #[.int .i64 0, .int .u64 0, .int .u64 0] 48)).drewN 1)).ptr⟩
  have DD : Hid (RdrV B g b s ((w.alloc (.cells #[.int .i64 0, .int .u64 0, .int .u64 0] 48)).drewN 1) ∧ Kept (Sgb g b) w ((w.alloc (.cells #[.int .i64 0, .int .u64 0, .int .u64 0] 48)).drewN 1)) := ⟨h.mono ((Old.of_alloc w (.cells #[.int .i64 0, .int .u64 0, .int .u64 0] 48)).drewN 1), Kept.of_old ((Old.of_alloc w (.cells #[.int .i64 0, .int .u64 0, .int .u64 0] 48)).drewN 1)⟩
  obtain ⟨St, hSt⟩ : ∃ St : Nat → Rs, St = fun j => match j with | 0 => s | 1 => (rWho s).2 | 2 => (rGr (rWho s).2).2 | _ => (rGr (rGr (rWho s).2).2).2 := ⟨_, rfl⟩
  have St0 : St 0 = s := by subst hSt; rfl
  have St1 : St 1 = (rWho s).2 := by subst hSt; rfl
  have St2 : St 2 = (rGr (rWho s).2).2 := by subst hSt; rfl
  have St3 : St 3 = (rGr (rGr (rWho s).2).2).2 := by subst hSt; rfl
  have T0 : ∀ w', RdrV B g b (St 0) w' → Calls Try.prog 69 #[.pointer (some ⟨b, 0, none⟩)] w' fun e w'' => e = .returned (.int .i64 (rWho s).1) ∧ Kept (Sgb g b) w' w'' ∧ RdrV B g b (St 1) w'' := by
    intro w' h
    rw [St0] at h
    rw [St1]
    exact h.small
  have T1 : ∀ w', RdrV B g b (St 1) w' → Calls Try.prog 98 #[.pointer (some ⟨b, 0, none⟩)] w' fun e w'' => e = .returned (.int .u64 (((rGr (rWho s).2).1 : Nat) : Int)) ∧ Kept (Sgb g b) w' w'' ∧ RdrV B g b (St 2) w'' := by
    intro w' h
    rw [St1] at h
    rw [St2]
    exact h.great
  have T2 : ∀ w', RdrV B g b (St 2) w' → Calls Try.prog 98 #[.pointer (some ⟨b, 0, none⟩)] w' fun e w'' => e = .returned (.int .u64 (((rGr (rGr (rWho s).2).2).1 : Nat) : Int)) ∧ Kept (Sgb g b) w' w'' ∧ RdrV B g b (St 3) w'' := by
    intro w' h
    rw [St2] at h
    rw [St3]
    exact h.great
  clear hSt h
  go_enter Try.func71, Try.ntmps71
  go_wp2_with fail
  refine Ssc.region (Ext := Kept (Sgb g b)) 15 [4, 9, 14] (fun w' => Row w' w.heap.size 48 [.int .i64 0, .int .u64 0, .int .u64 0] ∧ w'.cell? ⟨g, 0, none⟩ = some (.pointer (some ⟨b, 0, none⟩))) (fun j w' => RdrV B g b (St j) w' ∧ Kept (Sgb g b) w w') [3, 4, 5, 6, 7, 8, 9, 10, 11, 12, 13, 14, 15, 16, 17]
    [(3, Ssx.cst (.pointer (some ⟨g, 0, none⟩))), (4, Ssx.cst (.pointer (some ⟨g, 0, none⟩))), (5, Ssx.cst (.pointer (some ⟨g, 0, none⟩))), (6, Ssx.cst (.pointer (some ⟨b, 0, none⟩))), (7, Ssx.cst (.int .i64 (rWho s).1)), (8, Ssx.cst (.pointer (some ⟨g, 0, none⟩))), (9, Ssx.cst (.pointer (some ⟨g, 0, none⟩))), (10, Ssx.cst (.pointer (some ⟨g, 0, none⟩))), (11, Ssx.cst (.pointer (some ⟨b, 0, none⟩))), (12, Ssx.cst (.int .u64 (((rGr (rWho s).2).1 : Nat) : Int))), (13, Ssx.cst (.pointer (some ⟨g, 0, none⟩))), (14, Ssx.cst (.pointer (some ⟨g, 0, none⟩))), (15, Ssx.cst (.pointer (some ⟨g, 0, none⟩))), (16, Ssx.cst (.pointer (some ⟨b, 0, none⟩))), (17, Ssx.cst (.int .u64 (((rGr (rGr (rWho s).2).2).1 : Nat) : Int)))]
    [] (by kernel_rfl) (by kernel_rfl) (by kernel_rfl) (by simp) (by kernel_rfl) (by kernel_rfl) (by kernel_rfl) (by intro p hp; cases hp) (by kernel_rfl) (by kernel_rfl) (fun _ => Kept.same _ _) (CC.out) ((by rw [St0]; exact DD.out)) ?good ?behind
  case good =>
    have hE : ∀ wa wb : World, (fun w' => Row w' w.heap.size 48 [.int .i64 0, .int .u64 0, .int .u64 0] ∧ w'.cell? ⟨g, 0, none⟩ = some (.pointer (some ⟨b, 0, none⟩))) wa → Old wa wb → (Kept (Sgb g b)) wa wb := fun _ _ _ o => Kept.of_old o
    have hDo : ∀ (jj : Nat) (wa wb : World), (fun j w' => RdrV B g b (St j) w' ∧ Kept (Sgb g b) w w') jj wa → Old wa wb → (fun j w' => RdrV B g b (St j) w' ∧ Kept (Sgb g b) w w') jj wb := fun j _ _ h o => ⟨h.1.mono o, h.2.then (Kept.of_old o)⟩
    refine And.intro (Ssc.ask_free (by kernel_rfl) fun jj hjj => ⟨by kernel_rfl, Ssc.keep (Ssx.mv Old.refl rfl rfl (fun _ _ h => h)) hE (hDo jj)⟩) ?_
    refine And.intro (Ssc.ask_free (by kernel_rfl) fun jj hjj => ⟨by kernel_rfl, Ssc.keep (Ssx.val1 Old.refl (x := 3) (.pointer (some ⟨g, 0, none⟩)) (by simp [Op.operands]) rfl (fun _ _ h => h) (fun ρ h1 hc w => by unfold execOp; simp [h1, go_sem]) (fun _ => rfl)) hE (hDo jj)⟩) ?_
    refine And.intro (Ssc.ask_free (by kernel_rfl) fun jj hjj => ⟨by kernel_rfl, Ssc.keep (Ssx.val1 Old.refl (x := 4) (.pointer (some ⟨g, 0, none⟩)) (by simp [Op.operands]) rfl (fun _ _ h => h) (fun ρ h1 hc w => by unfold execOp; simp [h1, go_sem]) (fun _ => rfl)) hE (hDo jj)⟩) ?_
    refine And.intro (Ssc.ask_free (by kernel_rfl) fun jj hjj => ⟨by kernel_rfl, Ssc.keep (Ssy.cell Old.refl rfl rfl (⟨g, 0, none⟩) (.pointer (some ⟨b, 0, none⟩)) (fun _ _ h => h) (fun _ h => h.2) Try.underlying62 rfl (fun _ => rfl)) hE (hDo jj)⟩) ?_
    refine And.intro (Ssc.ask_link (by kernel_rfl) (by kernel_rfl) (by kernel_rfl) (Ssc.link (b := 0) rfl fun a' w' hC hD hop => ⟨69, #[.pointer (some ⟨b, 0, none⟩)], ?_, (T0 w' hD.1).mono fun _ _ ⟨e, kk, q⟩ => ⟨_, e, ⟨kk.row hC.1 HG.out, q.ptr⟩, kk, rfl, q, hD.2.then kk⟩⟩)) ?_
    · have h0 : a'.eval (.tmp 6) = .pointer (some ⟨b, 0, none⟩) := hop 6 (by simp [Op.operands, Call.operands])
      simp [Act.eval] at h0
      simp [h0, go_sem]
    refine And.intro (Ssc.ask_free (by kernel_rfl) fun jj hjj => ⟨by kernel_rfl, Ssc.keep (Ssx.mv Old.refl rfl rfl (fun _ _ h => h)) hE (hDo jj)⟩) ?_
    refine And.intro (Ssc.ask_free (by kernel_rfl) fun jj hjj => ⟨by kernel_rfl, Ssc.keep (Ssx.val1 Old.refl (x := 8) (.pointer (some ⟨g, 0, none⟩)) (by simp [Op.operands]) rfl (fun _ _ h => h) (fun ρ h1 hc w => by unfold execOp; simp [h1, go_sem]) (fun _ => rfl)) hE (hDo jj)⟩) ?_
    refine And.intro (Ssc.ask_free (by kernel_rfl) fun jj hjj => ⟨by kernel_rfl, Ssc.keep (Ssx.val1 Old.refl (x := 9) (.pointer (some ⟨g, 0, none⟩)) (by simp [Op.operands]) rfl (fun _ _ h => h) (fun ρ h1 hc w => by unfold execOp; simp [h1, go_sem]) (fun _ => rfl)) hE (hDo jj)⟩) ?_
    refine And.intro (Ssc.ask_free (by kernel_rfl) fun jj hjj => ⟨by kernel_rfl, Ssc.keep (Ssy.cell Old.refl rfl rfl (⟨g, 0, none⟩) (.pointer (some ⟨b, 0, none⟩)) (fun _ _ h => h) (fun _ h => h.2) Try.underlying62 rfl (fun _ => rfl)) hE (hDo jj)⟩) ?_
    refine And.intro (Ssc.ask_link (by kernel_rfl) (by kernel_rfl) (by kernel_rfl) (Ssc.link (b := 1) rfl fun a' w' hC hD hop => ⟨98, #[.pointer (some ⟨b, 0, none⟩)], ?_, (T1 w' hD.1).mono fun _ _ ⟨e, kk, q⟩ => ⟨_, e, ⟨kk.row hC.1 HG.out, q.ptr⟩, kk, rfl, q, hD.2.then kk⟩⟩)) ?_
    · have h0 : a'.eval (.tmp 11) = .pointer (some ⟨b, 0, none⟩) := hop 11 (by simp [Op.operands, Call.operands])
      simp [Act.eval] at h0
      simp [h0, go_sem]
    refine And.intro (Ssc.ask_free (by kernel_rfl) fun jj hjj => ⟨by kernel_rfl, Ssc.keep (Ssx.mv Old.refl rfl rfl (fun _ _ h => h)) hE (hDo jj)⟩) ?_
    refine And.intro (Ssc.ask_free (by kernel_rfl) fun jj hjj => ⟨by kernel_rfl, Ssc.keep (Ssx.val1 Old.refl (x := 13) (.pointer (some ⟨g, 0, none⟩)) (by simp [Op.operands]) rfl (fun _ _ h => h) (fun ρ h1 hc w => by unfold execOp; simp [h1, go_sem]) (fun _ => rfl)) hE (hDo jj)⟩) ?_
    refine And.intro (Ssc.ask_free (by kernel_rfl) fun jj hjj => ⟨by kernel_rfl, Ssc.keep (Ssx.val1 Old.refl (x := 14) (.pointer (some ⟨g, 0, none⟩)) (by simp [Op.operands]) rfl (fun _ _ h => h) (fun ρ h1 hc w => by unfold execOp; simp [h1, go_sem]) (fun _ => rfl)) hE (hDo jj)⟩) ?_
    refine And.intro (Ssc.ask_free (by kernel_rfl) fun jj hjj => ⟨by kernel_rfl, Ssc.keep (Ssy.cell Old.refl rfl rfl (⟨g, 0, none⟩) (.pointer (some ⟨b, 0, none⟩)) (fun _ _ h => h) (fun _ h => h.2) Try.underlying62 rfl (fun _ => rfl)) hE (hDo jj)⟩) ?_
    refine And.intro (Ssc.ask_link (by kernel_rfl) (by kernel_rfl) (by kernel_rfl) (Ssc.link (b := 2) rfl fun a' w' hC hD hop => ⟨98, #[.pointer (some ⟨b, 0, none⟩)], ?_, (T2 w' hD.1).mono fun _ _ ⟨e, kk, q⟩ => ⟨_, e, ⟨kk.row hC.1 HG.out, q.ptr⟩, kk, rfl, q, hD.2.then kk⟩⟩)) ?_
    · have h0 : a'.eval (.tmp 16) = .pointer (some ⟨b, 0, none⟩) := hop 16 (by simp [Op.operands, Call.operands])
      simp [Act.eval] at h0
      simp [h0, go_sem]
    exact trivial
  case behind =>
    intro vals wb hC hD hv
    have v3 : vals 3 = _ := hv _ (.head _)
    have v4 : vals 4 = _ := hv _ (.tail _ (.head _))
    have v5 : vals 5 = _ := hv _ (.tail _ (.tail _ (.head _)))
    have v6 : vals 6 = _ := hv _ (.tail _ (.tail _ (.tail _ (.head _))))
    have v7 : vals 7 = _ := hv _ (.tail _ (.tail _ (.tail _ (.tail _ (.head _)))))
    have v8 : vals 8 = _ := hv _ (.tail _ (.tail _ (.tail _ (.tail _ (.tail _ (.head _))))))
    have v9 : vals 9 = _ := hv _ (.tail _ (.tail _ (.tail _ (.tail _ (.tail _ (.tail _ (.head _)))))))
    have v10 : vals 10 = _ := hv _ (.tail _ (.tail _ (.tail _ (.tail _ (.tail _ (.tail _ (.tail _ (.head _))))))))
    have v11 : vals 11 = _ := hv _ (.tail _ (.tail _ (.tail _ (.tail _ (.tail _ (.tail _ (.tail _ (.tail _ (.head _)))))))))
    have v12 : vals 12 = _ := hv _ (.tail _ (.tail _ (.tail _ (.tail _ (.tail _ (.tail _ (.tail _ (.tail _ (.tail _ (.head _))))))))))
    have v13 : vals 13 = _ := hv _ (.tail _ (.tail _ (.tail _ (.tail _ (.tail _ (.tail _ (.tail _ (.tail _ (.tail _ (.tail _ (.head _)))))))))))
    have v14 : vals 14 = _ := hv _ (.tail _ (.tail _ (.tail _ (.tail _ (.tail _ (.tail _ (.tail _ (.tail _ (.tail _ (.tail _ (.tail _ (.head _))))))))))))
    have v15 : vals 15 = _ := hv _ (.tail _ (.tail _ (.tail _ (.tail _ (.tail _ (.tail _ (.tail _ (.tail _ (.tail _ (.tail _ (.tail _ (.tail _ (.head _)))))))))))))
    have v16 : vals 16 = _ := hv _ (.tail _ (.tail _ (.tail _ (.tail _ (.tail _ (.tail _ (.tail _ (.tail _ (.tail _ (.tail _ (.tail _ (.tail _ (.tail _ (.head _))))))))))))))
    have v17 : vals 17 = _ := hv _ (.tail _ (.tail _ (.tail _ (.tail _ (.tail _ (.tail _ (.tail _ (.tail _ (.tail _ (.tail _ (.tail _ (.tail _ (.tail _ (.tail _ (.head _)))))))))))))))
    simp only [List.length_cons, List.length_nil, Nat.zero_add, Nat.reduceAdd, St3] at hD
    have HD := hide hD
    have HR := hide hC.1
    simp only [Ssa.putAll, List.map_cons, List.map_nil, List.foldl_cons, List.foldl_nil, List.setIfInBounds_toArray, List.set_cons_succ, List.set_cons_zero, v3, v4, v5, v6, v7, v8, v9, v10, v11, v12, v13, v14, v15, v16, v17, List.drop_succ_cons, List.drop_zero]
    clear hC hD hv T0 T1 T2 St0 St1 St2 St3 CC DD v3 v4 v5 v6 v7 v8 v9 v10 v11 v12 v13 v14 v15 v16 v17
    go_wp2_with (refine wp_store_whole rfl 48 _ _ rfl w.heap.size rfl [.int .i64 (rWho s).1, .int .u64 (((rGr (rWho s).2).1 : Nat) : Int), .int .u64 (((rGr (rGr (rWho s).2).2).1 : Nat) : Int)] rfl HR.out info3c rfl (by intro u hu; simp at hu; rcases hu with rfl | rfl | rfl <;> rfl) ?_; rintro w9 h9
                 have E9 : Hid (Row w9 w.heap.size 48 [.int .i64 (rWho s).1, .int .u64 (((rGr (rWho s).2).1 : Nat) : Int), .int .u64 (((rGr (rGr (rWho s).2).2).1 : Nat) : Int)] ∧ Kept (fun i => i = w.heap.size) wb w9) := by subst h9; exact ⟨HR.out.whole _, Kept.of_grown (grown_setRow _ _ _) rfl⟩
                 clear h9 HR)
    have K9 : Kept (Sgb g b) w w9 := ⟨E9.out.2.os.trans HD.out.2.os, E9.out.2.tape.trans HD.out.2.tape, E9.out.2.output.trans HD.out.2.output, Nat.le_trans HD.out.2.size E9.out.2.size, fun i hi hn => (E9.out.2.block i (Nat.lt_of_lt_of_le hi HD.out.2.size) (by omega)).trans (HD.out.2.block i hi hn)⟩
    have R9 := HD.out.1.low (w' := w9) (fun k hk => E9.out.2.block k (Nat.lt_of_lt_of_le hk HD.out.1.size) (by have := H0.out.size; omega)) E9.out.2.size
    exact bodyPost_ret (v := .agg #[.int .i64 (rWho s).1, .int .u64 (((rGr (rWho s).2).1 : Nat) : Int), .int .u64 (((rGr (rGr (rWho s).2).2).1 : Nat) : Int)]) (results_whole rfl rfl E9.out.1 Try.underlying48 rfl info3c) rfl ⟨rfl, K9, R9⟩

set_option maxRecDepth 100000 in
set_option maxHeartbeats 2000000 in
theorem reader_parcel {B g b : Nat} {s : Rs} {w : World} (h : RdrV B g b s w) :
    Calls Try.prog 73 #[.pointer (some ⟨g, 0, none⟩)] w fun e w' => ∃ a k, e = .returned (.agg #[.int .i64 (rWho s).1, .int .i64 (rWho (rWho s).2).1, .slice a (rBy (rWho (rWho s).2).2).1.length k]) ∧ RdS (S3 B g b) w' a (nums .u8 (rBy (rWho (rWho s).2).2).1) ∧ Kept (Sgb g b) w w' ∧ RdrV B g b (rBy (rWho (rWho s).2).2).2 w' := by
  have c0 := h.ptr
  have hB := h.size
  have HG : Hid (¬ Sgb g b w.heap.size) := by intro hs; have h1 := h.gB; have h2 := h.bB; rcases hs with hs | hs <;> omega
  have H0 := hide h
  have CC : Hid (Row ((w.alloc (.cells #[.int .i64 0, .int .i64 0, .slice none 0 0] 50)).drewN 1) w.heap.size 50 [.int .i64 0, .int .i64 0, .slice none 0 0] ∧ ((w.alloc (.cells #[.int .i64 0, .int .i64 0, .slice none 0 0] 50)).drewN 1).cell? ⟨g, 0, none⟩ = some (.pointer (some ⟨b, 0, none⟩))) := ⟨(Row.new w 50 [.int .i64 0, .int .i64 0, .slice none 0 0]).drewN 1, (h.mono ((Old.of_alloc w (.cells #[.int .i64 0, .int .i64 0, .slice none 0 0] 50)).drewN 1)).ptr⟩
  have DD : Hid (RdrV B g b s ((w.alloc (.cells #[.int .i64 0, .int .i64 0, .slice none 0 0] 50)).drewN 1) ∧ Kept (Sgb g b) w ((w.alloc (.cells #[.int .i64 0, .int .i64 0, .slice none 0 0] 50)).drewN 1)) := ⟨h.mono ((Old.of_alloc w (.cells #[.int .i64 0, .int .i64 0, .slice none 0 0] 50)).drewN 1), Kept.of_old ((Old.of_alloc w (.cells #[.int .i64 0, .int .i64 0, .slice none 0 0] 50)).drewN 1)⟩
  obtain ⟨St, hSt⟩ : ∃ St : Nat → Rs, St = fun j => match j with | 0 => s | 1 => (rWho s).2 | 2 => (rWho (rWho s).2).2 | _ => (rBy (rWho (rWho s).2).2).2 := ⟨_, rfl⟩
  have St0 : St 0 = s := by subst hSt; rfl
  have St1 : St 1 = (rWho s).2 := by subst hSt; rfl
  have St2 : St 2 = (rWho (rWho s).2).2 := by subst hSt; rfl
  have St3 : St 3 = (rBy (rWho (rWho s).2).2).2 := by subst hSt; rfl
  have T0 : ∀ w', RdrV B g b (St 0) w' → Calls Try.prog 69 #[.pointer (some ⟨b, 0, none⟩)] w' fun e w'' => e = .returned (.int .i64 (rWho s).1) ∧ Kept (Sgb g b) w' w'' ∧ RdrV B g b (St 1) w'' := by
    intro w' h
    rw [St0] at h
    rw [St1]
    exact h.small
  have T1 : ∀ w', RdrV B g b (St 1) w' → Calls Try.prog 69 #[.pointer (some ⟨b, 0, none⟩)] w' fun e w'' => e = .returned (.int .i64 (rWho (rWho s).2).1) ∧ Kept (Sgb g b) w' w'' ∧ RdrV B g b (St 2) w'' := by
    intro w' h
    rw [St1] at h
    rw [St2]
    exact h.small
  have T2 : ∀ w', RdrV B g b (St 2) w' → Calls Try.prog 99 #[.pointer (some ⟨b, 0, none⟩)] w' fun e w'' => ∃ a k, e = .returned (.slice a (rBy (rWho (rWho s).2).2).1.length k) ∧ RdS (S3 B g b) w'' a (nums .u8 (rBy (rWho (rWho s).2).2).1) ∧ Kept (Sgb g b) w' w'' ∧ RdrV B g b (St 3) w'' := by
    intro w' h
    rw [St2] at h
    rw [St3]
    exact h.bytes.mono fun _ _ ⟨a, k, e, r, _, kk, q⟩ => ⟨a, k, e, r, kk, q⟩
  clear hSt h
  go_enter Try.func73, Try.ntmps73
  go_wp2_with fail
  refine Ssc.region (Ext := Kept (Sgb g b)) 15 [4, 9, 14] (fun w' => Row w' w.heap.size 50 [.int .i64 0, .int .i64 0, .slice none 0 0] ∧ w'.cell? ⟨g, 0, none⟩ = some (.pointer (some ⟨b, 0, none⟩))) (fun j w' => RdrV B g b (St j) w' ∧ Kept (Sgb g b) w w') [3, 4, 5, 6, 7, 8, 9, 10, 11, 12, 13, 14, 15, 16, 17]
    [(3, Ssx.cst (.pointer (some ⟨g, 0, none⟩))), (4, Ssx.cst (.pointer (some ⟨g, 0, none⟩))), (5, Ssx.cst (.pointer (some ⟨g, 0, none⟩))), (6, Ssx.cst (.pointer (some ⟨b, 0, none⟩))), (7, Ssx.cst (.int .i64 (rWho s).1)), (8, Ssx.cst (.pointer (some ⟨g, 0, none⟩))), (9, Ssx.cst (.pointer (some ⟨g, 0, none⟩))), (10, Ssx.cst (.pointer (some ⟨g, 0, none⟩))), (11, Ssx.cst (.pointer (some ⟨b, 0, none⟩))), (12, Ssx.cst (.int .i64 (rWho (rWho s).2).1)), (13, Ssx.cst (.pointer (some ⟨g, 0, none⟩))), (14, Ssx.cst (.pointer (some ⟨g, 0, none⟩))), (15, Ssx.cst (.pointer (some ⟨g, 0, none⟩))), (16, Ssx.cst (.pointer (some ⟨b, 0, none⟩))), (17, XB8 B g b (rBy (rWho (rWho s).2).2).1)]
    [] (by kernel_rfl) (by kernel_rfl) (by kernel_rfl) (by simp) (by kernel_rfl) (by kernel_rfl) (by kernel_rfl) (by intro p hp; cases hp) (by kernel_rfl) (by kernel_rfl) (fun _ => Kept.same _ _) (CC.out) ((by rw [St0]; exact DD.out)) ?good ?behind
  case good =>
    have hE : ∀ wa wb : World, (fun w' => Row w' w.heap.size 50 [.int .i64 0, .int .i64 0, .slice none 0 0] ∧ w'.cell? ⟨g, 0, none⟩ = some (.pointer (some ⟨b, 0, none⟩))) wa → Old wa wb → (Kept (Sgb g b)) wa wb := fun _ _ _ o => Kept.of_old o
    have hDo : ∀ (jj : Nat) (wa wb : World), (fun j w' => RdrV B g b (St j) w' ∧ Kept (Sgb g b) w w') jj wa → Old wa wb → (fun j w' => RdrV B g b (St j) w' ∧ Kept (Sgb g b) w w') jj wb := fun j _ _ h o => ⟨h.1.mono o, h.2.then (Kept.of_old o)⟩
    refine And.intro (Ssc.ask_free (by kernel_rfl) fun jj hjj => ⟨by kernel_rfl, Ssc.keep (Ssx.mv Old.refl rfl rfl (fun _ _ h => h)) hE (hDo jj)⟩) ?_
    refine And.intro (Ssc.ask_free (by kernel_rfl) fun jj hjj => ⟨by kernel_rfl, Ssc.keep (Ssx.val1 Old.refl (x := 3) (.pointer (some ⟨g, 0, none⟩)) (by simp [Op.operands]) rfl (fun _ _ h => h) (fun ρ h1 hc w => by unfold execOp; simp [h1, go_sem]) (fun _ => rfl)) hE (hDo jj)⟩) ?_
    refine And.intro (Ssc.ask_free (by kernel_rfl) fun jj hjj => ⟨by kernel_rfl, Ssc.keep (Ssx.val1 Old.refl (x := 4) (.pointer (some ⟨g, 0, none⟩)) (by simp [Op.operands]) rfl (fun _ _ h => h) (fun ρ h1 hc w => by unfold execOp; simp [h1, go_sem]) (fun _ => rfl)) hE (hDo jj)⟩) ?_
    refine And.intro (Ssc.ask_free (by kernel_rfl) fun jj hjj => ⟨by kernel_rfl, Ssc.keep (Ssy.cell Old.refl rfl rfl (⟨g, 0, none⟩) (.pointer (some ⟨b, 0, none⟩)) (fun _ _ h => h) (fun _ h => h.2) Try.underlying62 rfl (fun _ => rfl)) hE (hDo jj)⟩) ?_
    refine And.intro (Ssc.ask_link (by kernel_rfl) (by kernel_rfl) (by kernel_rfl) (Ssc.link (b := 0) rfl fun a' w' hC hD hop => ⟨69, #[.pointer (some ⟨b, 0, none⟩)], ?_, (T0 w' hD.1).mono fun _ _ ⟨e, kk, q⟩ => ⟨_, e, ⟨kk.row hC.1 HG.out, q.ptr⟩, kk, rfl, q, hD.2.then kk⟩⟩)) ?_
    · have h0 : a'.eval (.tmp 6) = .pointer (some ⟨b, 0, none⟩) := hop 6 (by simp [Op.operands, Call.operands])
      simp [Act.eval] at h0
      simp [h0, go_sem]
    refine And.intro (Ssc.ask_free (by kernel_rfl) fun jj hjj => ⟨by kernel_rfl, Ssc.keep (Ssx.mv Old.refl rfl rfl (fun _ _ h => h)) hE (hDo jj)⟩) ?_
    refine And.intro (Ssc.ask_free (by kernel_rfl) fun jj hjj => ⟨by kernel_rfl, Ssc.keep (Ssx.val1 Old.refl (x := 8) (.pointer (some ⟨g, 0, none⟩)) (by simp [Op.operands]) rfl (fun _ _ h => h) (fun ρ h1 hc w => by unfold execOp; simp [h1, go_sem]) (fun _ => rfl)) hE (hDo jj)⟩) ?_
    refine And.intro (Ssc.ask_free (by kernel_rfl) fun jj hjj => ⟨by kernel_rfl, Ssc.keep (Ssx.val1 Old.refl (x := 9) (.pointer (some ⟨g, 0, none⟩)) (by simp [Op.operands]) rfl (fun _ _ h => h) (fun ρ h1 hc w => by unfold execOp; simp [h1, go_sem]) (fun _ => rfl)) hE (hDo jj)⟩) ?_
    refine And.intro (Ssc.ask_free (by kernel_rfl) fun jj hjj => ⟨by kernel_rfl, Ssc.keep (Ssy.cell Old.refl rfl rfl (⟨g, 0, none⟩) (.pointer (some ⟨b, 0, none⟩)) (fun _ _ h => h) (fun _ h => h.2) Try.underlying62 rfl (fun _ => rfl)) hE (hDo jj)⟩) ?_
    refine And.intro (Ssc.ask_link (by kernel_rfl) (by kernel_rfl) (by kernel_rfl) (Ssc.link (b := 1) rfl fun a' w' hC hD hop => ⟨69, #[.pointer (some ⟨b, 0, none⟩)], ?_, (T1 w' hD.1).mono fun _ _ ⟨e, kk, q⟩ => ⟨_, e, ⟨kk.row hC.1 HG.out, q.ptr⟩, kk, rfl, q, hD.2.then kk⟩⟩)) ?_
    · have h0 : a'.eval (.tmp 11) = .pointer (some ⟨b, 0, none⟩) := hop 11 (by simp [Op.operands, Call.operands])
      simp [Act.eval] at h0
      simp [h0, go_sem]
    refine And.intro (Ssc.ask_free (by kernel_rfl) fun jj hjj => ⟨by kernel_rfl, Ssc.keep (Ssx.mv Old.refl rfl rfl (fun _ _ h => h)) hE (hDo jj)⟩) ?_
    refine And.intro (Ssc.ask_free (by kernel_rfl) fun jj hjj => ⟨by kernel_rfl, Ssc.keep (Ssx.val1 Old.refl (x := 13) (.pointer (some ⟨g, 0, none⟩)) (by simp [Op.operands]) rfl (fun _ _ h => h) (fun ρ h1 hc w => by unfold execOp; simp [h1, go_sem]) (fun _ => rfl)) hE (hDo jj)⟩) ?_
    refine And.intro (Ssc.ask_free (by kernel_rfl) fun jj hjj => ⟨by kernel_rfl, Ssc.keep (Ssx.val1 Old.refl (x := 14) (.pointer (some ⟨g, 0, none⟩)) (by simp [Op.operands]) rfl (fun _ _ h => h) (fun ρ h1 hc w => by unfold execOp; simp [h1, go_sem]) (fun _ => rfl)) hE (hDo jj)⟩) ?_
    refine And.intro (Ssc.ask_free (by kernel_rfl) fun jj hjj => ⟨by kernel_rfl, Ssc.keep (Ssy.cell Old.refl rfl rfl (⟨g, 0, none⟩) (.pointer (some ⟨b, 0, none⟩)) (fun _ _ h => h) (fun _ h => h.2) Try.underlying62 rfl (fun _ => rfl)) hE (hDo jj)⟩) ?_
    refine And.intro (Ssc.ask_link (by kernel_rfl) (by kernel_rfl) (by kernel_rfl) (Ssc.link (b := 2) rfl fun a' w' hC hD hop => ⟨99, #[.pointer (some ⟨b, 0, none⟩)], ?_, (T2 w' hD.1).mono fun _ _ ⟨a, k, e, rr, kk, q⟩ => ⟨_, e, ⟨kk.row hC.1 HG.out, q.ptr⟩, kk, ⟨a, k, rfl, rr⟩, q, hD.2.then kk⟩⟩)) ?_
    · have h0 : a'.eval (.tmp 16) = .pointer (some ⟨b, 0, none⟩) := hop 16 (by simp [Op.operands, Call.operands])
      simp [Act.eval] at h0
      simp [h0, go_sem]
    exact trivial
  case behind =>
    intro vals wb hC hD hv
    have v3 : vals 3 = _ := hv _ (.head _)
    have v4 : vals 4 = _ := hv _ (.tail _ (.head _))
    have v5 : vals 5 = _ := hv _ (.tail _ (.tail _ (.head _)))
    have v6 : vals 6 = _ := hv _ (.tail _ (.tail _ (.tail _ (.head _))))
    have v7 : vals 7 = _ := hv _ (.tail _ (.tail _ (.tail _ (.tail _ (.head _)))))
    have v8 : vals 8 = _ := hv _ (.tail _ (.tail _ (.tail _ (.tail _ (.tail _ (.head _))))))
    have v9 : vals 9 = _ := hv _ (.tail _ (.tail _ (.tail _ (.tail _ (.tail _ (.tail _ (.head _)))))))
    have v10 : vals 10 = _ := hv _ (.tail _ (.tail _ (.tail _ (.tail _ (.tail _ (.tail _ (.tail _ (.head _))))))))
    have v11 : vals 11 = _ := hv _ (.tail _ (.tail _ (.tail _ (.tail _ (.tail _ (.tail _ (.tail _ (.tail _ (.head _)))))))))
    have v12 : vals 12 = _ := hv _ (.tail _ (.tail _ (.tail _ (.tail _ (.tail _ (.tail _ (.tail _ (.tail _ (.tail _ (.head _))))))))))
    have v13 : vals 13 = _ := hv _ (.tail _ (.tail _ (.tail _ (.tail _ (.tail _ (.tail _ (.tail _ (.tail _ (.tail _ (.tail _ (.head _)))))))))))
    have v14 : vals 14 = _ := hv _ (.tail _ (.tail _ (.tail _ (.tail _ (.tail _ (.tail _ (.tail _ (.tail _ (.tail _ (.tail _ (.tail _ (.head _))))))))))))
    have v15 : vals 15 = _ := hv _ (.tail _ (.tail _ (.tail _ (.tail _ (.tail _ (.tail _ (.tail _ (.tail _ (.tail _ (.tail _ (.tail _ (.tail _ (.head _)))))))))))))
    have v16 : vals 16 = _ := hv _ (.tail _ (.tail _ (.tail _ (.tail _ (.tail _ (.tail _ (.tail _ (.tail _ (.tail _ (.tail _ (.tail _ (.tail _ (.tail _ (.head _))))))))))))))
    have v17 := hv _ (.tail _ (.tail _ (.tail _ (.tail _ (.tail _ (.tail _ (.tail _ (.tail _ (.tail _ (.tail _ (.tail _ (.tail _ (.tail _ (.tail _ (.head _)))))))))))))))
    simp only [List.length_cons, List.length_nil, Nat.zero_add, Nat.reduceAdd, St3] at hD
    obtain ⟨a17, k17, e17, r17⟩ := v17
    have HD := hide hD
    have HR := hide hC.1
    have HX := hide r17
    simp only [Ssa.putAll, List.map_cons, List.map_nil, List.foldl_cons, List.foldl_nil, List.setIfInBounds_toArray, List.set_cons_succ, List.set_cons_zero, v3, v4, v5, v6, v7, v8, v9, v10, v11, v12, v13, v14, v15, v16, e17, List.drop_succ_cons, List.drop_zero]
    clear hC hD hv T0 T1 T2 St0 St1 St2 St3 CC DD v3 v4 v5 v6 v7 v8 v9 v10 v11 v12 v13 v14 v15 v16
    go_wp2_with (refine wp_store_whole rfl 50 _ _ rfl w.heap.size rfl [.int .i64 (rWho s).1, .int .i64 (rWho (rWho s).2).1, .slice a17 (rBy (rWho (rWho s).2).2).1.length k17] rfl HR.out info3p rfl (by intro u hu; simp at hu; rcases hu with rfl | rfl | rfl <;> rfl) ?_; rintro w9 h9
                 have E9 : Hid (Row w9 w.heap.size 50 [.int .i64 (rWho s).1, .int .i64 (rWho (rWho s).2).1, .slice a17 (rBy (rWho (rWho s).2).2).1.length k17] ∧ Kept (fun i => i = w.heap.size) wb w9) := by subst h9; exact ⟨HR.out.whole _, Kept.of_grown (grown_setRow _ _ _) rfl⟩
                 clear h9 HR)
    have K9 : Kept (Sgb g b) w w9 := ⟨E9.out.2.os.trans HD.out.2.os, E9.out.2.tape.trans HD.out.2.tape, E9.out.2.output.trans HD.out.2.output, Nat.le_trans HD.out.2.size E9.out.2.size, fun i hi hn => (E9.out.2.block i (Nat.lt_of_lt_of_le hi HD.out.2.size) (by omega)).trans (HD.out.2.block i hi hn)⟩
    have R9 := HD.out.1.low (w' := w9) (fun k hk => E9.out.2.block k (Nat.lt_of_lt_of_le hk HD.out.1.size) (by have := H0.out.size; omega)) E9.out.2.size
    exact bodyPost_ret (v := .agg #[.int .i64 (rWho s).1, .int .i64 (rWho (rWho s).2).1, .slice a17 (rBy (rWho (rWho s).2).2).1.length k17]) (results_whole rfl rfl E9.out.1 Try.underlying50 rfl info3p) rfl ⟨a17, ⟨k17, rfl⟩, HX.out.low E9.out.2 (fun i hi => .inr (.inr (by have := H0.out.size; omega))), K9, R9⟩

end Go.Proofs.Ytepchjpdfmleoaa

/-
  Package words: lists are read.
-/
namespace Go.Proofs.Ytepchjpdfmleoaa
open Go.RowKit Cn Pn Wn Rn
set_option linter.unusedVariables false

set_option maxRecDepth 100000 in
set_option maxHeartbeats 4000000 in
theorem readList_great {B g b : Nat} {s : Rs} {w : World} (h : RdrV B g b s w) :
    Calls Try.prog 101 #[.pointer (some ⟨g, 0, none⟩), .int .i64 5, .func (.func 98) #[.pointer (some ⟨b, 0, none⟩)] #[]] w fun e w' => ∃ a cap, e = .returned (.slice a (rList 5 rGr s).1.length cap) ∧ (rList 5 rGr s).1.length ≤ cap ∧ RdS (fun i => i < w.heap.size) w' a (nums .u64 (rList 5 rGr s).1) ∧ Kept (Sgb g b) w w' ∧ RdrV B g b (rList 5 rGr s).2 w' := by
  have c0 := h.ptr
  have C := hide h.small
  have HS := hide h.size
  have HH := hide h
  have EL : Hid (∀ n s1, rSm s = (n, s1) → rList 5 rGr s = if 5 < n then ([], ⟨s1.l, s1.er, true⟩) else rMany rGr n s1) := by
    intro n s1 e
    unfold rList
    rw [e]
  generalize rSm s = z at *
  obtain ⟨n, s1⟩ := z
  have EL2 := hide (EL.out n s1 rfl)
  simp only at C
  clear EL h
  by_cases hn : 5 < n
  · have t1 : decide ((5 : Int) < (n : Int)) = true := decide_eq_true (by omega)
    have t1' : decide ((n : Int) > 5) = true := t1
    have t1'' : decide (5 < n) = true := decide_eq_true hn
    have E : Hid (rList 5 rGr s = ([], ⟨s1.l, s1.er, true⟩)) := by rw [Hid, EL2.out, if_pos hn]
    rw [E.out]
    go_enter Try.func101, Try.ntmps101
    go_wp2_with fail
    refine C.out.mono ?_
    rintro e w1 ⟨rfl, k1, r1⟩
    have f1 := r1.row.free 1
    have cs := r1.row.cell (i := 1) rfl
    have R1 := hide r1.strange.1
    have K1 := hide (k1.then r1.strange.2)
    clear C c0 k1 r1 hn
    go_wp2
    go_ret
    exact ⟨none, 0, rfl, Nat.le_refl _, RdS.nil _, K1.out, R1.out⟩
  · have t1 : decide ((5 : Int) < (n : Int)) = false := decide_eq_false (by omega)
    have t1' : decide ((n : Int) > 5) = false := t1
    have t1'' : decide (5 < n) = false := decide_eq_false hn
    have E : Hid (rList 5 rGr s = rMany rGr n s1) := by rw [Hid, EL2.out, if_neg hn]
    rw [E.out]
    have HN : Hid (n ≤ 5) := by show _ ≤ _; omega
    clear EL2 E hn
    go_enter Try.func101, Try.ntmps101
    go_wp2_with fail
    refine C.out.mono ?_
    rintro e w1 ⟨rfl, k1, r1⟩
    have K1 := hide k1
    have R1 := hide r1
    have LT := hide (sgb_lt HH.out k1.size)
    have HB : Hid (B ≤ w1.heap.size) := Nat.le_trans HS.out k1.size
    clear C c0 k1 r1
    go_wp2_with fail
    clear t1 t1' t1''
    go_loopw [8, 21] (fun v8 vi wr => ∃ (i : Nat) (L : List Nat) (si : Rs) (u : Value), u = v8 ∧ i ≤ n ∧ vi = .int .i64 (i : Int) ∧ Hid (rMany rGr i s1 = (L, si)) ∧ Hid (L.length = i) ∧ Hid (wr.ownsRow w1.heap.size 46 1 u L.length (nums .u64 L)) ∧ Hid (Kept (Sgb g b) w1 wr) ∧ Hid (RdrV B g b si wr)) (fun _ vi _ => n - (intOf vi).toNat)
    case atStart => exact ⟨0, [], s1, _, rfl, Nat.zero_le _, rfl, rfl, rfl, World.ownsRow_nil _ _ _ _, Kept.same _ _, R1.out⟩
    case round =>
      clear R1
      obtain ⟨i, L, si, u, rfl, hi, rfl, EQ, LL, OW, KR, RR⟩ := hrel
      by_cases hlt : i < n
      · have t2 : decide ((i : Int) < (n : Int)) = true := by simp; omega
        have t2' : decide (i < n) = true := by simpa using hlt
        have q0 : (0 : Int) ≤ i := by omega
        have q1 : (i : Int) < n := by omega
        have iw : wrap64 ((i : Int) + 1) = ((i + 1 : Nat) : Int) := by have := HN.out; unfold wrap64; omega
        have LS : Hid (L.length < 1000000) := by have := LL.out; have := HN.out; show _ < _; omega
        have NX : Hid (rMany rGr (i + 1) s1 = ((rMany rGr i s1).1 ++ [(rGr si).1], (rGr si).2)) := by rw [Hid, rMany, EQ.out]
        rw [EQ.out] at NX
        have C := hide RR.out.great
        go_wp2_with fail
        refine C.out.mono ?_
        rintro e w2 ⟨rfl, k2, r2⟩
        have K2 := hide k2
        have R2 := hide r2
        have OW2 := hide (own_mono (own_kept OW.out k2 LT.out) (Old.of_alloc w2 (.cells #[.int .u64 (((rGr si).1 : Nat) : Int)] 46)))
        have RN := hide (Row.new w2 46 [.int .u64 (((rGr si).1 : Nat) : Int)])
        have BS : Hid (w1.heap.size ≤ (w2.alloc (.cells #[.int .u64 (((rGr si).1 : Nat) : Int)] 46)).heap.size) := Nat.le_trans (KR.out.then k2).size (Old.of_alloc w2 _).size
        have OB : Hid (∀ k, u.ownBlock = some k → w1.heap.size ≤ k ∧ k < wr.heap.size) := fun k hk => World.ownsRow.lt OW.out k hk
        clear C k2 r2
        go_wp2_with (at_builtin; refine wp_append1 (z := .int .u64 0) (size := 1) (bytes := 8) rfl _ _ 51 rfl w1.heap.size 46 Try.underlying51 (by kernel_rfl) rfl (by omega) (by omega) _ L.length (nums .u64 L) rfl OW2.out w2.heap.size 1 [.int .u64 (((rGr si).1 : Nat) : Int)] rfl rfl RN.out (by intro u hu; simp at hu; rcases hu with rfl; rfl) LS.out BS.out ?_
                     rintro v3 w3 ow gr alt
                     have OW3 : Hid (w3.ownsRow w1.heap.size 46 1 v3 (L ++ [(rGr si).1]).length (nums .u64 (L ++ [(rGr si).1]))) := by
                       rw [Hid, List.length_append]
                       simpa [nums] using ow
                     have K3 : Hid (Kept (Sgb g b) w1 w3) := kept_round KR.out K2.out gr rfl (fun k hk => (OB.out k hk).1)
                     have R3 : Hid (RdrV B g b (rGr si).2 w3) := R2.out.round gr HB.out (fun k hk => (OB.out k hk).1)
                     clear ow gr alt OW2 RN OW)
        go_wp2_with fail
        try rw [iw]
        exact ⟨⟨i + 1, L ++ [(rGr si).1], (rGr si).2, _, rfl, by omega, by simp, NX, by rw [Hid, List.length_append, LL.out]; rfl, OW3, K3, R3⟩, by simp [intOf]; omega⟩
      · obtain rfl : i = n := by omega
        have t2 : decide ((i : Int) < (i : Int)) = false := by simp
        have t2' : decide (i < i) = false := by simp
        have KE := hide (K1.out.then KR.out)
        obtain ⟨aa, cc, rfl, hcc, rdd, hbb⟩ := own_rd OW.out
        have RD : Hid (RdS (fun i => i < w.heap.size) wr aa (nums .u64 L)) := ⟨rdd, fun x _ hx hs => by have := K1.out.size; have := hbb x hx; omega⟩
        have HCC := hide hcc
        clear rdd hbb hcc OW
        go_wp2
        go_ret
        rw [EQ.out]
        exact ⟨aa, cc, rfl, HCC.out, RD.out, KE.out, RR.out⟩

set_option maxRecDepth 100000 in
set_option maxHeartbeats 4000000 in
theorem readList_number {B g b : Nat} {s : Rs} {w : World} (h : RdrV B g b s w) :
    Calls Try.prog 74 #[.pointer (some ⟨g, 0, none⟩), .int .i64 256, .func (.func 75) #[.pointer (some ⟨g, 0, none⟩)] #[]] w fun e w' => ∃ a cap, e = .returned (.slice a (rList 256 rSm s).1.length cap) ∧ (rList 256 rSm s).1.length ≤ cap ∧ RdS (fun i => i < w.heap.size) w' a (nums .u32 (rList 256 rSm s).1) ∧ Kept (Sgb g b) w w' ∧ RdrV B g b (rList 256 rSm s).2 w' := by
  have c0 := h.ptr
  have C := hide h.small
  have HS := hide h.size
  have HH := hide h
  have EL : Hid (∀ n s1, rSm s = (n, s1) → rList 256 rSm s = if 256 < n then ([], ⟨s1.l, s1.er, true⟩) else rMany rSm n s1) := by
    intro n s1 e
    unfold rList
    rw [e]
  generalize rSm s = z at *
  obtain ⟨n, s1⟩ := z
  have EL2 := hide (EL.out n s1 rfl)
  simp only at C
  clear EL h
  by_cases hn : 256 < n
  · have t1 : decide ((256 : Int) < (n : Int)) = true := decide_eq_true (by omega)
    have t1' : decide ((n : Int) > 256) = true := t1
    have t1'' : decide (256 < n) = true := decide_eq_true hn
    have E : Hid (rList 256 rSm s = ([], ⟨s1.l, s1.er, true⟩)) := by rw [Hid, EL2.out, if_pos hn]
    rw [E.out]
    go_enter Try.func74, Try.ntmps74
    go_wp2_with fail
    refine C.out.mono ?_
    rintro e w1 ⟨rfl, k1, r1⟩
    have f1 := r1.row.free 1
    have cs := r1.row.cell (i := 1) rfl
    have R1 := hide r1.strange.1
    have K1 := hide (k1.then r1.strange.2)
    clear C c0 k1 r1 hn
    go_wp2
    go_ret
    exact ⟨none, 0, rfl, Nat.le_refl _, RdS.nil _, K1.out, R1.out⟩
  · have t1 : decide ((256 : Int) < (n : Int)) = false := decide_eq_false (by omega)
    have t1' : decide ((n : Int) > 256) = false := t1
    have t1'' : decide (256 < n) = false := decide_eq_false hn
    have E : Hid (rList 256 rSm s = rMany rSm n s1) := by rw [Hid, EL2.out, if_neg hn]
    rw [E.out]
    have HN : Hid (n ≤ 256) := by show _ ≤ _; omega
    clear EL2 E hn
    go_enter Try.func74, Try.ntmps74
    go_wp2_with fail
    refine C.out.mono ?_
    rintro e w1 ⟨rfl, k1, r1⟩
    have K1 := hide k1
    have R1 := hide r1
    have LT := hide (sgb_lt HH.out k1.size)
    have HB : Hid (B ≤ w1.heap.size) := Nat.le_trans HS.out k1.size
    clear C c0 k1 r1
    go_wp2_with fail
    clear t1 t1' t1''
    go_loopw [8, 21] (fun v8 vi wr => ∃ (i : Nat) (L : List Nat) (si : Rs) (u : Value), u = v8 ∧ i ≤ n ∧ vi = .int .i64 (i : Int) ∧ Hid (rMany rSm i s1 = (L, si)) ∧ Hid (L.length = i) ∧ Hid (wr.ownsRow w1.heap.size 69 1 u L.length (nums .u32 L)) ∧ Hid (Kept (Sgb g b) w1 wr) ∧ Hid (RdrV B g b si wr)) (fun _ vi _ => n - (intOf vi).toNat)
    case atStart => exact ⟨0, [], s1, _, rfl, Nat.zero_le _, rfl, rfl, rfl, World.ownsRow_nil _ _ _ _, Kept.same _ _, R1.out⟩
    case round =>
      clear R1
      obtain ⟨i, L, si, u, rfl, hi, rfl, EQ, LL, OW, KR, RR⟩ := hrel
      by_cases hlt : i < n
      · have t2 : decide ((i : Int) < (n : Int)) = true := by simp; omega
        have t2' : decide (i < n) = true := by simpa using hlt
        have q0 : (0 : Int) ≤ i := by omega
        have q1 : (i : Int) < n := by omega
        have iw : wrap64 ((i : Int) + 1) = ((i + 1 : Nat) : Int) := by have := HN.out; unfold wrap64; omega
        have LS : Hid (L.length < 1000000) := by have := LL.out; have := HN.out; show _ < _; omega
        have NX : Hid (rMany rSm (i + 1) s1 = ((rMany rSm i s1).1 ++ [(rSm si).1], (rSm si).2)) := by rw [Hid, rMany, EQ.out]
        rw [EQ.out] at NX
        have C := hide (reader_number RR.out)
        go_wp2_with fail
        refine C.out.mono ?_
        rintro e w2 ⟨rfl, k2, r2⟩
        have K2 := hide k2
        have R2 := hide r2
        have OW2 := hide (own_mono (own_kept OW.out k2 LT.out) (Old.of_alloc w2 (.cells #[.int .u32 (((rSm si).1 : Nat) : Int)] 69)))
        have RN := hide (Row.new w2 69 [.int .u32 (((rSm si).1 : Nat) : Int)])
        have BS : Hid (w1.heap.size ≤ (w2.alloc (.cells #[.int .u32 (((rSm si).1 : Nat) : Int)] 69)).heap.size) := Nat.le_trans (KR.out.then k2).size (Old.of_alloc w2 _).size
        have OB : Hid (∀ k, u.ownBlock = some k → w1.heap.size ≤ k ∧ k < wr.heap.size) := fun k hk => World.ownsRow.lt OW.out k hk
        clear C k2 r2
        go_wp2_with (at_builtin; refine wp_append1 (z := .int .u32 0) (size := 1) (bytes := 4) rfl _ _ 25 rfl w1.heap.size 69 Try.underlying25 (by kernel_rfl) rfl (by omega) (by omega) _ L.length (nums .u32 L) rfl OW2.out w2.heap.size 1 [.int .u32 (((rSm si).1 : Nat) : Int)] rfl rfl RN.out (by intro u hu; simp at hu; rcases hu with rfl; rfl) LS.out BS.out ?_
                     rintro v3 w3 ow gr alt
                     have OW3 : Hid (w3.ownsRow w1.heap.size 69 1 v3 (L ++ [(rSm si).1]).length (nums .u32 (L ++ [(rSm si).1]))) := by
                       rw [Hid, List.length_append]
                       simpa [nums] using ow
                     have K3 : Hid (Kept (Sgb g b) w1 w3) := kept_round KR.out K2.out gr rfl (fun k hk => (OB.out k hk).1)
                     have R3 : Hid (RdrV B g b (rSm si).2 w3) := R2.out.round gr HB.out (fun k hk => (OB.out k hk).1)
                     clear ow gr alt OW2 RN OW)
        go_wp2_with fail
        try rw [iw]
        exact ⟨⟨i + 1, L ++ [(rSm si).1], (rSm si).2, _, rfl, by omega, by simp, NX, by rw [Hid, List.length_append, LL.out]; rfl, OW3, K3, R3⟩, by simp [intOf]; omega⟩
      · obtain rfl : i = n := by omega
        have t2 : decide ((i : Int) < (i : Int)) = false := by simp
        have t2' : decide (i < i) = false := by simp
        have KE := hide (K1.out.then KR.out)
        obtain ⟨aa, cc, rfl, hcc, rdd, hbb⟩ := own_rd OW.out
        have RD : Hid (RdS (fun i => i < w.heap.size) wr aa (nums .u32 L)) := ⟨rdd, fun x _ hx hs => by have := K1.out.size; have := hbb x hx; omega⟩
        have HCC := hide hcc
        clear rdd hbb hcc OW
        go_wp2
        go_ret
        rw [EQ.out]
        exact ⟨aa, cc, rfl, HCC.out, RD.out, KE.out, RR.out⟩

set_option maxRecDepth 100000 in
set_option maxHeartbeats 4000000 in
theorem readList_who {B g b : Nat} {s : Rs} {w : World} (h : RdrV B g b s w) :
    Calls Try.prog 76 #[.pointer (some ⟨g, 0, none⟩), .int .i64 64, .func (.func 69) #[.pointer (some ⟨b, 0, none⟩)] #[]] w fun e w' => ∃ a cap, e = .returned (.slice a (rList 64 rWho s).1.length cap) ∧ (rList 64 rWho s).1.length ≤ cap ∧ RdS (fun i => i < w.heap.size) w' a (ints (rList 64 rWho s).1) ∧ Kept (Sgb g b) w w' ∧ RdrV B g b (rList 64 rWho s).2 w' := by
  have c0 := h.ptr
  have C := hide h.small
  have HS := hide h.size
  have HH := hide h
  have EL : Hid (∀ n s1, rSm s = (n, s1) → rList 64 rWho s = if 64 < n then ([], ⟨s1.l, s1.er, true⟩) else rMany rWho n s1) := by
    intro n s1 e
    unfold rList
    rw [e]
  generalize rSm s = z at *
  obtain ⟨n, s1⟩ := z
  have EL2 := hide (EL.out n s1 rfl)
  simp only at C
  clear EL h
  by_cases hn : 64 < n
  · have t1 : decide ((64 : Int) < (n : Int)) = true := decide_eq_true (by omega)
    have t1' : decide ((n : Int) > 64) = true := t1
    have t1'' : decide (64 < n) = true := decide_eq_true hn
    have E : Hid (rList 64 rWho s = ([], ⟨s1.l, s1.er, true⟩)) := by rw [Hid, EL2.out, if_pos hn]
    rw [E.out]
    go_enter Try.func76, Try.ntmps76
    go_wp2_with fail
    refine C.out.mono ?_
    rintro e w1 ⟨rfl, k1, r1⟩
    have f1 := r1.row.free 1
    have cs := r1.row.cell (i := 1) rfl
    have R1 := hide r1.strange.1
    have K1 := hide (k1.then r1.strange.2)
    clear C c0 k1 r1 hn
    go_wp2
    go_ret
    exact ⟨none, 0, rfl, Nat.le_refl _, RdS.nil _, K1.out, R1.out⟩
  · have t1 : decide ((64 : Int) < (n : Int)) = false := decide_eq_false (by omega)
    have t1' : decide ((n : Int) > 64) = false := t1
    have t1'' : decide (64 < n) = false := decide_eq_false hn
    have E : Hid (rList 64 rWho s = rMany rWho n s1) := by rw [Hid, EL2.out, if_neg hn]
    rw [E.out]
    have HN : Hid (n ≤ 64) := by show _ ≤ _; omega
    clear EL2 E hn
    go_enter Try.func76, Try.ntmps76
    go_wp2_with fail
    refine C.out.mono ?_
    rintro e w1 ⟨rfl, k1, r1⟩
    have K1 := hide k1
    have R1 := hide r1
    have LT := hide (sgb_lt HH.out k1.size)
    have HB : Hid (B ≤ w1.heap.size) := Nat.le_trans HS.out k1.size
    clear C c0 k1 r1
    go_wp2_with fail
    clear t1 t1' t1''
    go_loopw [8, 21] (fun v8 vi wr => ∃ (i : Nat) (L : List Int) (si : Rs) (u : Value), u = v8 ∧ i ≤ n ∧ vi = .int .i64 (i : Int) ∧ Hid (rMany rWho i s1 = (L, si)) ∧ Hid (L.length = i) ∧ Hid (wr.ownsRow w1.heap.size 3 1 u L.length (ints L)) ∧ Hid (Kept (Sgb g b) w1 wr) ∧ Hid (RdrV B g b si wr)) (fun _ vi _ => n - (intOf vi).toNat)
    case atStart => exact ⟨0, [], s1, _, rfl, Nat.zero_le _, rfl, rfl, rfl, World.ownsRow_nil _ _ _ _, Kept.same _ _, R1.out⟩
    case round =>
      clear R1
      obtain ⟨i, L, si, u, rfl, hi, rfl, EQ, LL, OW, KR, RR⟩ := hrel
      by_cases hlt : i < n
      · have t2 : decide ((i : Int) < (n : Int)) = true := by simp; omega
        have t2' : decide (i < n) = true := by simpa using hlt
        have q0 : (0 : Int) ≤ i := by omega
        have q1 : (i : Int) < n := by omega
        have iw : wrap64 ((i : Int) + 1) = ((i + 1 : Nat) : Int) := by have := HN.out; unfold wrap64; omega
        have LS : Hid (L.length < 1000000) := by have := LL.out; have := HN.out; show _ < _; omega
        have NX : Hid (rMany rWho (i + 1) s1 = ((rMany rWho i s1).1 ++ [(rWho si).1], (rWho si).2)) := by rw [Hid, rMany, EQ.out]
        rw [EQ.out] at NX
        have C := hide (show Calls Try.prog 69 #[.pointer (some ⟨b, 0, none⟩)] wr fun e w' => e = .returned (.int .i64 (rWho si).1) ∧ Kept (Sgb g b) wr w' ∧ RdrV B g b (rWho si).2 w' from RR.out.small)
        go_wp2_with fail
        refine C.out.mono ?_
        rintro e w2 ⟨rfl, k2, r2⟩
        have K2 := hide k2
        have R2 := hide r2
        have OW2 := hide (own_mono (own_kept OW.out k2 LT.out) (Old.of_alloc w2 (.cells #[.int .i64 (rWho si).1] 3)))
        have RN := hide (Row.new w2 3 [.int .i64 (rWho si).1])
        have BS : Hid (w1.heap.size ≤ (w2.alloc (.cells #[.int .i64 (rWho si).1] 3)).heap.size) := Nat.le_trans (KR.out.then k2).size (Old.of_alloc w2 _).size
        have OB : Hid (∀ k, u.ownBlock = some k → w1.heap.size ≤ k ∧ k < wr.heap.size) := fun k hk => World.ownsRow.lt OW.out k hk
        clear C k2 r2
        go_wp2_with (at_builtin; refine wp_append1 (z := .int .i64 0) (size := 1) (bytes := 8) rfl _ _ 26 rfl w1.heap.size 3 Try.underlying26 (by kernel_rfl) rfl (by omega) (by omega) _ L.length (ints L) rfl OW2.out w2.heap.size 1 [.int .i64 (rWho si).1] rfl rfl RN.out (by intro u hu; simp at hu; rcases hu with rfl; rfl) LS.out BS.out ?_
                     rintro v3 w3 ow gr alt
                     have OW3 : Hid (w3.ownsRow w1.heap.size 3 1 v3 (L ++ [(rWho si).1]).length (ints (L ++ [(rWho si).1]))) := by
                       rw [Hid, List.length_append]
                       simpa [ints] using ow
                     have K3 : Hid (Kept (Sgb g b) w1 w3) := kept_round KR.out K2.out gr rfl (fun k hk => (OB.out k hk).1)
                     have R3 : Hid (RdrV B g b (rWho si).2 w3) := R2.out.round gr HB.out (fun k hk => (OB.out k hk).1)
                     clear ow gr alt OW2 RN OW)
        go_wp2_with fail
        try rw [iw]
        exact ⟨⟨i + 1, L ++ [(rWho si).1], (rWho si).2, _, rfl, by omega, by simp, NX, by rw [Hid, List.length_append, LL.out]; rfl, OW3, K3, R3⟩, by simp [intOf]; omega⟩
      · obtain rfl : i = n := by omega
        have t2 : decide ((i : Int) < (i : Int)) = false := by simp
        have t2' : decide (i < i) = false := by simp
        have KE := hide (K1.out.then KR.out)
        obtain ⟨aa, cc, rfl, hcc, rdd, hbb⟩ := own_rd OW.out
        have RD : Hid (RdS (fun i => i < w.heap.size) wr aa (ints L)) := ⟨rdd, fun x _ hx hs => by have := K1.out.size; have := hbb x hx; omega⟩
        have HCC := hide hcc
        clear rdd hbb hcc OW
        go_wp2
        go_ret
        rw [EQ.out]
        exact ⟨aa, cc, rfl, HCC.out, RD.out, KE.out, RR.out⟩

set_option maxRecDepth 100000 in
set_option maxHeartbeats 4000000 in
theorem readList_card {B g b : Nat} {s : Rs} {w : World} (h : RdrV B g b s w) :
    Calls Try.prog 70 #[.pointer (some ⟨g, 0, none⟩), .int .i64 64, .func (.func 71) #[.pointer (some ⟨g, 0, none⟩)] #[]] w fun e w' => ∃ a cap, e = .returned (.slice a (rList 64 rCard s).1.length cap) ∧ (rList 64 rCard s).1.length ≤ cap ∧ TriS (fun i => i < w.heap.size) w' a cardV (rList 64 rCard s).1 ∧ Kept (Sgb g b) w w' ∧ RdrV B g b (rList 64 rCard s).2 w' := by
  have c0 := h.ptr
  have C := hide h.small
  have HS := hide h.size
  have HH := hide h
  have EL : Hid (∀ n s1, rSm s = (n, s1) → rList 64 rCard s = if 64 < n then ([], ⟨s1.l, s1.er, true⟩) else rMany rCard n s1) := by
    intro n s1 e
    unfold rList
    rw [e]
  generalize rSm s = z at *
  obtain ⟨n, s1⟩ := z
  have EL2 := hide (EL.out n s1 rfl)
  simp only at C
  clear EL h
  by_cases hn : 64 < n
  · have t1 : decide ((64 : Int) < (n : Int)) = true := decide_eq_true (by omega)
    have t1' : decide ((n : Int) > 64) = true := t1
    have t1'' : decide (64 < n) = true := decide_eq_true hn
    have E : Hid (rList 64 rCard s = ([], ⟨s1.l, s1.er, true⟩)) := by rw [Hid, EL2.out, if_pos hn]
    rw [E.out]
    go_enter Try.func70, Try.ntmps70
    go_wp2_with fail
    refine C.out.mono ?_
    rintro e w1 ⟨rfl, k1, r1⟩
    have f1 := r1.row.free 1
    have cs := r1.row.cell (i := 1) rfl
    have R1 := hide r1.strange.1
    have K1 := hide (k1.then r1.strange.2)
    clear C c0 k1 r1 hn
    go_wp2
    go_ret
    exact ⟨none, 0, rfl, Nat.le_refl _, TriS.nil, K1.out, R1.out⟩
  · have t1 : decide ((64 : Int) < (n : Int)) = false := decide_eq_false (by omega)
    have t1' : decide ((n : Int) > 64) = false := t1
    have t1'' : decide (64 < n) = false := decide_eq_false hn
    have E : Hid (rList 64 rCard s = rMany rCard n s1) := by rw [Hid, EL2.out, if_neg hn]
    rw [E.out]
    have HN : Hid (n ≤ 64) := by show _ ≤ _; omega
    clear EL2 E hn
    go_enter Try.func70, Try.ntmps70
    go_wp2_with fail
    refine C.out.mono ?_
    rintro e w1 ⟨rfl, k1, r1⟩
    have K1 := hide k1
    have R1 := hide r1
    have LT := hide (sgb_lt HH.out k1.size)
    have HB : Hid (B ≤ w1.heap.size) := Nat.le_trans HS.out k1.size
    clear C c0 k1 r1
    go_wp2_with fail
    clear t1 t1' t1''
    go_loopw [8, 21] (fun v8 vi wr => ∃ (i : Nat) (L : List Card) (si : Rs) (u : Value), u = v8 ∧ i ≤ n ∧ vi = .int .i64 (i : Int) ∧ Hid (rMany rCard i s1 = (L, si)) ∧ Hid (L.length = i) ∧ Hid (wr.ownsRow w1.heap.size 48 3 u L.length (tri3 (cardV 0) L)) ∧ Hid (Kept (Sgb g b) w1 wr) ∧ Hid (RdrV B g b si wr)) (fun _ vi _ => n - (intOf vi).toNat)
    case atStart => exact ⟨0, [], s1, _, rfl, Nat.zero_le _, rfl, rfl, rfl, World.ownsRow_nil _ _ _ _, Kept.same _ _, R1.out⟩
    case round =>
      clear R1
      obtain ⟨i, L, si, u, rfl, hi, rfl, EQ, LL, OW, KR, RR⟩ := hrel
      by_cases hlt : i < n
      · have t2 : decide ((i : Int) < (n : Int)) = true := by simp; omega
        have t2' : decide (i < n) = true := by simpa using hlt
        have q0 : (0 : Int) ≤ i := by omega
        have q1 : (i : Int) < n := by omega
        have iw : wrap64 ((i : Int) + 1) = ((i + 1 : Nat) : Int) := by have := HN.out; unfold wrap64; omega
        have LS : Hid (L.length < 1000000) := by have := LL.out; have := HN.out; show _ < _; omega
        have NX : Hid (rMany rCard (i + 1) s1 = ((rMany rCard i s1).1 ++ [(rCard si).1], (rCard si).2)) := by rw [Hid, rMany, EQ.out]
        rw [EQ.out] at NX
        have C := hide (reader_card RR.out)
        go_wp2_with fail
        refine C.out.mono ?_
        rintro e w2 ⟨rfl, k2, r2⟩
        have K2 := hide k2
        have R2 := hide r2
        have OW2 := hide (own_mono (own_kept OW.out k2 LT.out) (Old.of_alloc w2 (.cells #[.int .i64 (rWho si).1, .int .u64 (((rGr (rWho si).2).1 : Nat) : Int), .int .u64 (((rGr (rGr (rWho si).2).2).1 : Nat) : Int)] 48)))
        have RN := hide (Row.new w2 48 [.int .i64 (rWho si).1, .int .u64 (((rGr (rWho si).2).1 : Nat) : Int), .int .u64 (((rGr (rGr (rWho si).2).2).1 : Nat) : Int)])
        have BS : Hid (w1.heap.size ≤ (w2.alloc (.cells #[.int .i64 (rWho si).1, .int .u64 (((rGr (rWho si).2).1 : Nat) : Int), .int .u64 (((rGr (rGr (rWho si).2).2).1 : Nat) : Int)] 48)).heap.size) := Nat.le_trans (KR.out.then k2).size (Old.of_alloc w2 _).size
        have OB : Hid (∀ k, u.ownBlock = some k → w1.heap.size ≤ k ∧ k < wr.heap.size) := fun k hk => World.ownsRow.lt OW.out k hk
        clear C k2 r2
        go_wp2_with (at_builtin; refine wp_append1 (z := .agg #[.int .i64 0, .int .u64 0, .int .u64 0]) (size := 3) (bytes := 24) rfl _ _ 23 rfl w1.heap.size 48 Try.underlying23 (by kernel_rfl) rfl (by omega) (by omega) _ L.length (tri3 (cardV 0) L) rfl OW2.out w2.heap.size 1 [.int .i64 (rWho si).1, .int .u64 (((rGr (rWho si).2).1 : Nat) : Int), .int .u64 (((rGr (rGr (rWho si).2).2).1 : Nat) : Int)] rfl rfl RN.out (by intro u hu; simp at hu; rcases hu with rfl | rfl | rfl <;> rfl) LS.out BS.out ?_
                     rintro v3 w3 ow gr alt
                     have OW3 : Hid (w3.ownsRow w1.heap.size 48 3 v3 (L ++ [(rCard si).1]).length (tri3 (cardV 0) (L ++ [(rCard si).1]))) := by
                       rw [Hid, List.length_append]
                       simpa [tri3, cardV, rCard] using ow
                     have K3 : Hid (Kept (Sgb g b) w1 w3) := kept_round KR.out K2.out gr rfl (fun k hk => (OB.out k hk).1)
                     have R3 : Hid (RdrV B g b (rCard si).2 w3) := R2.out.round gr HB.out (fun k hk => (OB.out k hk).1)
                     clear ow gr alt OW2 RN OW)
        go_wp2_with fail
        try rw [iw]
        exact ⟨⟨i + 1, L ++ [(rCard si).1], (rCard si).2, _, rfl, by omega, by simp, NX, by rw [Hid, List.length_append, LL.out]; rfl, OW3, K3, R3⟩, by simp [intOf]; omega⟩
      · obtain rfl : i = n := by omega
        have t2 : decide ((i : Int) < (i : Int)) = false := by simp
        have t2' : decide (i < i) = false := by simp
        have KE := hide (K1.out.then KR.out)
        obtain ⟨aa, cc, rfl, hcc, tt, hbb⟩ := own_tri OW.out
        have RD : Hid (TriS (fun i => i < w.heap.size) wr aa cardV L) := ⟨tt, fun x _ hx hs => by have := K1.out.size; have := hbb x hx; omega⟩
        have HCC := hide hcc
        clear tt hbb hcc OW
        go_wp2
        go_ret
        rw [EQ.out]
        exact ⟨aa, cc, rfl, HCC.out, RD.out, KE.out, RR.out⟩

/-- Where the bytes of parcel i lie, out of a list of parcels with their places. -/
def placeOf {α : Type} (L : List (α × Option Addr × Nat)) (i : Nat) : Option Addr := (L[i]?.map (·.2.1)).getD none
def roomOf {α : Type} (L : List (α × Option Addr × Nat)) (i : Nat) : Nat := (L[i]?.map (·.2.2)).getD 0
def parcelC (p : Parcel × Option Addr × Nat) : Value × Value × Value := (.int .i64 p.1.frm, .int .i64 p.1.to, .slice p.2.1 p.1.data.length p.2.2)
def openingC (p : Opening × Option Addr × Nat) : Value × Value × Value := (.int .i64 p.1.who, .bool p.1.own, .slice p.2.1 p.1.vals.length p.2.2)
theorem of_map {α : Type} {L : List (α × Option Addr × Nat)} {i : Nat} {x : α} (h : (L.map (·.1))[i]? = some x) : ∃ p, L[i]? = some p ∧ p.1 = x ∧ placeOf L i = p.2.1 ∧ roomOf L i = p.2.2 := by
  rw [List.getElem?_map] at h
  cases hp : L[i]? with
  | none => rw [hp] at h; cases h
  | some p =>
    rw [hp] at h
    exact ⟨p, rfl, by simpa using h, by simp [placeOf, hp], by simp [roomOf, hp]⟩
theorem tri_parcel {w : World} {a : Option Addr} {L : List (Parcel × Option Addr × Nat)} (h : ∀ (i : Nat) (p : Parcel × Option Addr × Nat), L[i]? = some p → ∃ b off, a = some ⟨b, off, none⟩ ∧ w.cell? ⟨b, off + i * 3, none⟩ = some (parcelC p).1 ∧ w.cell? ⟨b, off + i * 3 + 1, none⟩ = some (parcelC p).2.1 ∧ w.cell? ⟨b, off + i * 3 + 2, none⟩ = some (parcelC p).2.2) :
    Tri w a (parcelV (placeOf L) (roomOf L)) (L.map (·.1)) := by
  intro i x hx
  obtain ⟨p, hp, rfl, e1, e2⟩ := of_map hx
  have := h i p hp
  unfold parcelV
  rw [e1, e2]
  exact this
theorem tri_opening {w : World} {a : Option Addr} {L : List (Opening × Option Addr × Nat)} (h : ∀ (i : Nat) (p : Opening × Option Addr × Nat), L[i]? = some p → ∃ b off, a = some ⟨b, off, none⟩ ∧ w.cell? ⟨b, off + i * 3, none⟩ = some (openingC p).1 ∧ w.cell? ⟨b, off + i * 3 + 1, none⟩ = some (openingC p).2.1 ∧ w.cell? ⟨b, off + i * 3 + 2, none⟩ = some (openingC p).2.2) :
    Tri w a (openingV (placeOf L) (roomOf L)) (L.map (·.1)) := by
  intro i x hx
  obtain ⟨p, hp, rfl, e1, e2⟩ := of_map hx
  have := h i p hp
  unfold openingV
  rw [e1, e2]
  exact this
theorem kept_s3 {B g b : Nat} {w2 w3 : World} {ob : Option Nat} {o : Obj} (gr : (w2.alloc o).grownBy w3 ob) (hob : ∀ k, ob = some k → B ≤ k) : Kept (S3 B g b) w2 w3 := by
  have k := Old.of_alloc w2 o
  exact ⟨gr.os.trans k.os, gr.tape.trans k.tape, gr.output.trans k.output, Nat.le_trans k.size gr.size, fun i hi hn => (gr.block i (Nat.lt_of_lt_of_le hi k.size) (fun e => hn (.inr (.inr (hob i e.symm))))).trans (k.block i hi)⟩

set_option maxRecDepth 100000 in
set_option maxHeartbeats 4000000 in
theorem readList_parcel {B g b : Nat} {s : Rs} {w : World} (h : RdrV B g b s w) :
    Calls Try.prog 72 #[.pointer (some ⟨g, 0, none⟩), .int .i64 64, .func (.func 73) #[.pointer (some ⟨g, 0, none⟩)] #[]] w fun e w' => ∃ a cap pa pc, e = .returned (.slice a (rList 64 rParcel s).1.length cap) ∧ (rList 64 rParcel s).1.length ≤ cap ∧ TriS (fun i => i < w.heap.size) w' a (parcelV pa pc) (rList 64 rParcel s).1 ∧ (∀ (i : Nat) (x : Parcel), (rList 64 rParcel s).1[i]? = some x → RdS (S3 B g b) w' (pa i) (nums .u8 x.data)) ∧ Kept (Sgb g b) w w' ∧ RdrV B g b (rList 64 rParcel s).2 w' := by
  have c0 := h.ptr
  have C := hide h.small
  have HS := hide h.size
  have HH := hide h
  have EL : Hid (∀ n s1, rSm s = (n, s1) → rList 64 rParcel s = if 64 < n then ([], ⟨s1.l, s1.er, true⟩) else rMany rParcel n s1) := by
    intro n s1 e
    unfold rList
    rw [e]
  generalize rSm s = z at *
  obtain ⟨n, s1⟩ := z
  have EL2 := hide (EL.out n s1 rfl)
  simp only at C
  clear EL h
  by_cases hn : 64 < n
  · have t1 : decide ((64 : Int) < (n : Int)) = true := decide_eq_true (by omega)
    have t1' : decide ((n : Int) > 64) = true := t1
    have t1'' : decide (64 < n) = true := decide_eq_true hn
    have E : Hid (rList 64 rParcel s = ([], ⟨s1.l, s1.er, true⟩)) := by rw [Hid, EL2.out, if_pos hn]
    rw [E.out]
    go_enter Try.func72, Try.ntmps72
    go_wp2_with fail
    refine C.out.mono ?_
    rintro e w1 ⟨rfl, k1, r1⟩
    have f1 := r1.row.free 1
    have cs := r1.row.cell (i := 1) rfl
    have R1 := hide r1.strange.1
    have K1 := hide (k1.then r1.strange.2)
    clear C c0 k1 r1 hn
    go_wp2
    go_ret
    exact ⟨none, 0, fun _ => none, fun _ => 0, rfl, Nat.le_refl _, TriS.nil, by simp, K1.out, R1.out⟩
  · have t1 : decide ((64 : Int) < (n : Int)) = false := decide_eq_false (by omega)
    have t1' : decide ((n : Int) > 64) = false := t1
    have t1'' : decide (64 < n) = false := decide_eq_false hn
    have E : Hid (rList 64 rParcel s = rMany rParcel n s1) := by rw [Hid, EL2.out, if_neg hn]
    rw [E.out]
    have HN : Hid (n ≤ 64) := by show _ ≤ _; omega
    clear EL2 E hn
    go_enter Try.func72, Try.ntmps72
    go_wp2_with fail
    refine C.out.mono ?_
    rintro e w1 ⟨rfl, k1, r1⟩
    have K1 := hide k1
    have R1 := hide r1
    have LT := hide (sgb_lt HH.out k1.size)
    have HB : Hid (B ≤ w1.heap.size) := Nat.le_trans HS.out k1.size
    clear C c0 k1 r1
    go_wp2_with fail
    clear t1 t1' t1''
    go_loopw [8, 21] (fun v8 vi wr => ∃ (i : Nat) (L : List (Parcel × Option Addr × Nat)) (si : Rs) (u : Value), u = v8 ∧ i ≤ n ∧ vi = .int .i64 (i : Int) ∧ Hid (rMany rParcel i s1 = (L.map (·.1), si)) ∧ Hid (L.length = i) ∧ Hid (wr.ownsRow w1.heap.size 50 3 u L.length (tri3 parcelC L)) ∧ Hid (∀ p ∈ L, RdS (S3 B g b) wr p.2.1 (nums .u8 p.1.data)) ∧ Hid (Kept (Sgb g b) w1 wr) ∧ Hid (RdrV B g b si wr)) (fun _ vi _ => n - (intOf vi).toNat)
    case atStart => exact ⟨0, [], s1, _, rfl, Nat.zero_le _, rfl, rfl, rfl, World.ownsRow_nil _ _ _ _, by simp [Hid], Kept.same _ _, R1.out⟩
    case round =>
      clear R1
      obtain ⟨i, L, si, u, rfl, hi, rfl, EQ, LL, OW, XD, KR, RR⟩ := hrel
      by_cases hlt : i < n
      · have t2 : decide ((i : Int) < (n : Int)) = true := by simp; omega
        have t2' : decide (i < n) = true := by simpa using hlt
        have q0 : (0 : Int) ≤ i := by omega
        have q1 : (i : Int) < n := by omega
        have iw : wrap64 ((i : Int) + 1) = ((i + 1 : Nat) : Int) := by have := HN.out; unfold wrap64; omega
        have LS : Hid (L.length < 1000000) := by have := LL.out; have := HN.out; show _ < _; omega
        have NX : Hid (rMany rParcel (i + 1) s1 = ((rMany rParcel i s1).1 ++ [(rParcel si).1], (rParcel si).2)) := by rw [Hid, rMany, EQ.out]
        rw [EQ.out] at NX
        have C := hide (reader_parcel RR.out)
        go_wp2_with fail
        refine C.out.mono ?_
        rintro e w2 ⟨ax, kx, rfl, rx, k2, r2⟩
        have K2 := hide k2
        have R2 := hide r2
        have OW2 := hide (own_mono (own_kept OW.out k2 LT.out) (Old.of_alloc w2 (.cells #[.int .i64 (rWho si).1, .int .i64 (rWho (rWho si).2).1, .slice ax (rBy (rWho (rWho si).2).2).1.length kx] 50)))
        have RN := hide (Row.new w2 50 [.int .i64 (rWho si).1, .int .i64 (rWho (rWho si).2).1, .slice ax (rBy (rWho (rWho si).2).2).1.length kx])
        have BS : Hid (w1.heap.size ≤ (w2.alloc (.cells #[.int .i64 (rWho si).1, .int .i64 (rWho (rWho si).2).1, .slice ax (rBy (rWho (rWho si).2).2).1.length kx] 50)).heap.size) := Nat.le_trans (KR.out.then k2).size (Old.of_alloc w2 _).size
        have OB : Hid (∀ k, u.ownBlock = some k → w1.heap.size ≤ k ∧ k < wr.heap.size) := fun k hk => World.ownsRow.lt OW.out k hk
        have RX := hide rx
        clear C k2 r2 rx
        go_wp2_with (at_builtin; refine wp_append1 (z := .agg #[.int .i64 0, .int .i64 0, .slice none 0 0]) (size := 3) (bytes := 40) rfl _ _ 24 rfl w1.heap.size 50 Try.underlying24 (by kernel_rfl) rfl (by omega) (by omega) _ L.length (tri3 parcelC L) rfl OW2.out w2.heap.size 1 [.int .i64 (rWho si).1, .int .i64 (rWho (rWho si).2).1, .slice ax (rBy (rWho (rWho si).2).2).1.length kx] rfl rfl RN.out (by intro u hu; simp at hu; rcases hu with rfl | rfl | rfl <;> rfl) LS.out BS.out ?_
                     rintro v3 w3 ow gr alt
                     have OW3 : Hid (w3.ownsRow w1.heap.size 50 3 v3 (L ++ [((rParcel si).1, ax, kx)]).length (tri3 parcelC (L ++ [((rParcel si).1, ax, kx)]))) := by
                       rw [Hid, List.length_append]
                       simpa [tri3, parcelC, rParcel] using ow
                     have K3 : Hid (Kept (Sgb g b) w1 w3) := kept_round KR.out K2.out gr rfl (fun k hk => (OB.out k hk).1)
                     have R3 : Hid (RdrV B g b (rParcel si).2 w3) := R2.out.round gr HB.out (fun k hk => (OB.out k hk).1)
                     have X3 : Hid (∀ p ∈ L ++ [((rParcel si).1, ax, kx)], RdS (S3 B g b) w3 p.2.1 (nums .u8 p.1.data)) := by
                       intro p hp
                       have kk := kept_s3 (B := B) (g := g) (b := b) gr (fun k hk => Nat.le_trans HB.out (OB.out k hk).1)
                       rcases List.mem_append.1 hp with hp | hp
                       · exact ((XD.out p hp).low K2.out sgb_s3).kept kk
                       · obtain rfl := List.mem_singleton.1 hp
                         exact RX.out.kept kk
                     clear ow gr alt OW2 RN OW)
        go_wp2_with fail
        try rw [iw]
        exact ⟨⟨i + 1, L ++ [((rParcel si).1, ax, kx)], (rParcel si).2, _, rfl, by omega, by simp, by rw [Hid, NX.out]; simp, by rw [Hid, List.length_append, LL.out]; rfl, OW3, X3, K3, R3⟩, by simp [intOf]; omega⟩
      · obtain rfl : i = n := by omega
        have t2 : decide ((i : Int) < (i : Int)) = false := by simp
        have t2' : decide (i < i) = false := by simp
        have KE := hide (K1.out.then KR.out)
        obtain ⟨aa, cc, rfl, hcc, tt, hbb⟩ := own_tri OW.out
        have RD : Hid (TriS (fun i => i < w.heap.size) wr aa (parcelV (placeOf L) (roomOf L)) (L.map (·.1))) := ⟨tri_parcel tt, fun x _ hx hs => by have := K1.out.size; have := hbb x hx; omega⟩
        have RE : Hid (∀ (i : Nat) (x : Parcel), (L.map (·.1))[i]? = some x → RdS (S3 B g b) wr (placeOf L i) (nums .u8 x.data)) := fun i x hx => by
          obtain ⟨p, hp, rfl, e1, _⟩ := of_map hx
          rw [e1]
          exact XD.out p (List.mem_of_getElem? hp)
        have HCC : Hid ((L.map (·.1)).length ≤ cc) := by rw [Hid, List.length_map]; exact hcc
        have HLM : L.length = (L.map (·.1)).length := by rw [List.length_map]
        rw [HLM]
        clear tt hbb hcc OW XD HLM LL
        go_wp2
        go_ret
        rw [EQ.out]
        exact ⟨aa, cc, placeOf L, roomOf L, rfl, HCC.out, RD.out, RE.out, KE.out, RR.out⟩

end Go.Proofs.Ytepchjpdfmleoaa

/-
  Package words: openings are read.
-/
namespace Go.Proofs.Ytepchjpdfmleoaa
open Go.RowKit Cn Pn Wn Rn
set_option linter.unusedVariables false

/-- Numbers that a list's reading made. -/
def XU64 (g b N : Nat) (hN : ∀ i, Sgb g b i → i < N) (xs : List Nat) : Ssx.XP (Kept (Sgb g b)) := ⟨fun v w => ∃ a k, v = .slice a xs.length k ∧ RdS (fun i => i < N) w a (nums .u64 xs), fun _ _ _ ⟨a, k, e, r⟩ kk => ⟨a, k, e, r.low kk hN⟩⟩

set_option maxRecDepth 100000 in
set_option maxHeartbeats 2000000 in
theorem reader_opening {B g b : Nat} {s : Rs} {w : World} (h : RdrV B g b s w) :
    Calls Try.prog 78 #[.pointer (some ⟨g, 0, none⟩)] w fun e w' => ∃ a k, e = .returned (.agg #[.int .i64 (rWho s).1, .bool (rMk (rWho s).2).1, .slice a (rList 5 rGr (rMk (rWho s).2).2).1.length k]) ∧ RdS (fun i => i < w.heap.size) w' a (nums .u64 (rList 5 rGr (rMk (rWho s).2).2).1) ∧ Kept (Sgb g b) w w' ∧ RdrV B g b (rList 5 rGr (rMk (rWho s).2).2).2 w' := by
  have c0 := h.ptr
  have HG : Hid (¬ Sgb g b w.heap.size) := by intro hs; have h1 := h.gB; have h2 := h.bB; have h3 := h.size; rcases hs with hs | hs <;> omega
  have H0 := hide h
  have HN1 : ∀ i, Sgb g b i → i < w.heap.size + 1 := fun i hi => by have := sgb_lt h (Nat.le_refl _) i hi; omega
  have CC : Hid (Row ((w.alloc (.cells #[.int .i64 0, .bool false, .slice none 0 0] 53)).drewN 1) w.heap.size 53 [.int .i64 0, .bool false, .slice none 0 0] ∧ ((w.alloc (.cells #[.int .i64 0, .bool false, .slice none 0 0] 53)).drewN 1).cell? ⟨g, 0, none⟩ = some (.pointer (some ⟨b, 0, none⟩))) := ⟨(Row.new w 53 [.int .i64 0, .bool false, .slice none 0 0]).drewN 1, (h.mono ((Old.of_alloc w (.cells #[.int .i64 0, .bool false, .slice none 0 0] 53)).drewN 1)).ptr⟩
  have DD : Hid (RdrV B g b s ((w.alloc (.cells #[.int .i64 0, .bool false, .slice none 0 0] 53)).drewN 1) ∧ Kept (Sgb g b) w ((w.alloc (.cells #[.int .i64 0, .bool false, .slice none 0 0] 53)).drewN 1)) := ⟨h.mono ((Old.of_alloc w (.cells #[.int .i64 0, .bool false, .slice none 0 0] 53)).drewN 1), Kept.of_old ((Old.of_alloc w (.cells #[.int .i64 0, .bool false, .slice none 0 0] 53)).drewN 1)⟩
  obtain ⟨St, hSt⟩ : ∃ St : Nat → Rs, St = fun j => match j with | 0 => s | 1 => (rWho s).2 | 2 => (rMk (rWho s).2).2 | _ => (rList 5 rGr (rMk (rWho s).2).2).2 := ⟨_, rfl⟩
  have St0 : St 0 = s := by subst hSt; rfl
  have St1 : St 1 = (rWho s).2 := by subst hSt; rfl
  have St2 : St 2 = (rMk (rWho s).2).2 := by subst hSt; rfl
  have St3 : St 3 = (rList 5 rGr (rMk (rWho s).2).2).2 := by subst hSt; rfl
  have T0 : ∀ w', RdrV B g b (St 0) w' → Calls Try.prog 69 #[.pointer (some ⟨b, 0, none⟩)] w' fun e w'' => e = .returned (.int .i64 (rWho s).1) ∧ Kept (Sgb g b) w' w'' ∧ RdrV B g b (St 1) w'' := by
    intro w' h
    rw [St0] at h
    rw [St1]
    exact h.small
  have T1 : ∀ w', RdrV B g b (St 1) w' → Calls Try.prog 100 #[.pointer (some ⟨g, 0, none⟩)] w' fun e w'' => e = .returned (.bool (rMk (rWho s).2).1) ∧ Kept (Sgb g b) w' w'' ∧ RdrV B g b (St 2) w'' := by
    intro w' h
    rw [St1] at h
    rw [St2]
    exact reader_mark h
  have T2 : ∀ w', RdrV B g b (St 2) w' → w.heap.size < w'.heap.size → Calls Try.prog 101 #[.pointer (some ⟨g, 0, none⟩), .int .i64 5, .func (.func 98) #[.pointer (some ⟨b, 0, none⟩)] #[]] w' fun e w'' => ∃ a k, e = .returned (.slice a (rList 5 rGr (rMk (rWho s).2).2).1.length k) ∧ RdS (fun i => i < w.heap.size + 1) w'' a (nums .u64 (rList 5 rGr (rMk (rWho s).2).2).1) ∧ Kept (Sgb g b) w' w'' ∧ RdrV B g b (St 3) w'' := by
    intro w' h hz
    rw [St2] at h
    rw [St3]
    exact (readList_great h).mono fun _ _ ⟨a, k, e, _, r, kk, q⟩ => ⟨a, k, e, ⟨r.1, fun x hp hx hs => r.2 x hp hx (Nat.lt_of_lt_of_le hs hz)⟩, kk, q⟩
  clear hSt h
  go_enter Try.func78, Try.ntmps78
  go_wp2_with fail
  refine Ssc.region (Ext := Kept (Sgb g b)) 14 [4, 6, 13] (fun w' => Row w' w.heap.size 53 [.int .i64 0, .bool false, .slice none 0 0] ∧ w'.cell? ⟨g, 0, none⟩ = some (.pointer (some ⟨b, 0, none⟩))) (fun j w' => RdrV B g b (St j) w' ∧ Kept (Sgb g b) w w') [3, 4, 5, 6, 7, 8, 9, 10, 11, 12, 13, 14, 15, 16]
    [(3, Ssx.cst (.pointer (some ⟨g, 0, none⟩))), (4, Ssx.cst (.pointer (some ⟨g, 0, none⟩))), (5, Ssx.cst (.pointer (some ⟨g, 0, none⟩))), (6, Ssx.cst (.pointer (some ⟨b, 0, none⟩))), (7, Ssx.cst (.int .i64 (rWho s).1)), (8, Ssx.cst (.pointer (some ⟨g, 0, none⟩))), (9, Ssx.cst (.bool (rMk (rWho s).2).1)), (10, Ssx.cst (.pointer (some ⟨g, 0, none⟩))), (11, Ssx.cst (.pointer (some ⟨g, 0, none⟩))), (12, Ssx.cst (.pointer (some ⟨g, 0, none⟩))), (13, Ssx.cst (.pointer (some ⟨g, 0, none⟩))), (14, Ssx.cst (.pointer (some ⟨b, 0, none⟩))), (15, Ssx.cst (.func (.func 98) #[.pointer (some ⟨b, 0, none⟩)] #[])), (16, XU64 g b (w.heap.size + 1) HN1 (rList 5 rGr (rMk (rWho s).2).2).1)]
    [] (by kernel_rfl) (by kernel_rfl) (by kernel_rfl) (by simp) (by kernel_rfl) (by kernel_rfl) (by kernel_rfl) (by intro p hp; cases hp) (by kernel_rfl) (by kernel_rfl) (fun _ => Kept.same _ _) (CC.out) ((by rw [St0]; exact DD.out)) ?good ?behind
  case good =>
    have hE : ∀ wa wb : World, (fun w' => Row w' w.heap.size 53 [.int .i64 0, .bool false, .slice none 0 0] ∧ w'.cell? ⟨g, 0, none⟩ = some (.pointer (some ⟨b, 0, none⟩))) wa → Old wa wb → (Kept (Sgb g b)) wa wb := fun _ _ _ o => Kept.of_old o
    have hDo : ∀ (jj : Nat) (wa wb : World), (fun j w' => RdrV B g b (St j) w' ∧ Kept (Sgb g b) w w') jj wa → Old wa wb → (fun j w' => RdrV B g b (St j) w' ∧ Kept (Sgb g b) w w') jj wb := fun j _ _ h o => ⟨h.1.mono o, h.2.then (Kept.of_old o)⟩
    refine And.intro (Ssc.ask_free (by kernel_rfl) fun jj hjj => ⟨by kernel_rfl, Ssc.keep (Ssx.mv Old.refl rfl rfl (fun _ _ h => h)) hE (hDo jj)⟩) ?_
    refine And.intro (Ssc.ask_free (by kernel_rfl) fun jj hjj => ⟨by kernel_rfl, Ssc.keep (Ssx.val1 Old.refl (x := 3) (.pointer (some ⟨g, 0, none⟩)) (by simp [Op.operands]) rfl (fun _ _ h => h) (fun ρ h1 hc w => by unfold execOp; simp [h1, go_sem]) (fun _ => rfl)) hE (hDo jj)⟩) ?_
    refine And.intro (Ssc.ask_free (by kernel_rfl) fun jj hjj => ⟨by kernel_rfl, Ssc.keep (Ssx.val1 Old.refl (x := 4) (.pointer (some ⟨g, 0, none⟩)) (by simp [Op.operands]) rfl (fun _ _ h => h) (fun ρ h1 hc w => by unfold execOp; simp [h1, go_sem]) (fun _ => rfl)) hE (hDo jj)⟩) ?_
    refine And.intro (Ssc.ask_free (by kernel_rfl) fun jj hjj => ⟨by kernel_rfl, Ssc.keep (Ssy.cell Old.refl rfl rfl (⟨g, 0, none⟩) (.pointer (some ⟨b, 0, none⟩)) (fun _ _ h => h) (fun _ h => h.2) Try.underlying62 rfl (fun _ => rfl)) hE (hDo jj)⟩) ?_
    refine And.intro (Ssc.ask_link (by kernel_rfl) (by kernel_rfl) (by kernel_rfl) (Ssc.link (b := 0) rfl fun a' w' hC hD hop => ⟨69, #[.pointer (some ⟨b, 0, none⟩)], ?_, (T0 w' hD.1).mono fun _ _ ⟨e, kk, q⟩ => ⟨_, e, ⟨kk.row hC.1 HG.out, q.ptr⟩, kk, rfl, q, hD.2.then kk⟩⟩)) ?_
    · have h0 : a'.eval (.tmp 6) = .pointer (some ⟨b, 0, none⟩) := hop 6 (by simp [Op.operands, Call.operands])
      simp [Act.eval] at h0
      simp [h0, go_sem]
    refine And.intro (Ssc.ask_free (by kernel_rfl) fun jj hjj => ⟨by kernel_rfl, Ssc.keep (Ssx.mv Old.refl rfl rfl (fun _ _ h => h)) hE (hDo jj)⟩) ?_
    refine And.intro (Ssc.ask_link (by kernel_rfl) (by kernel_rfl) (by kernel_rfl) (Ssc.link (b := 1) rfl fun a' w' hC hD hop => ⟨100, #[.pointer (some ⟨g, 0, none⟩)], ?_, (T1 w' hD.1).mono fun _ _ ⟨e, kk, q⟩ => ⟨_, e, ⟨kk.row hC.1 HG.out, q.ptr⟩, kk, rfl, q, hD.2.then kk⟩⟩)) ?_
    · have h0 : a'.eval (.tmp 8) = .pointer (some ⟨g, 0, none⟩) := hop 8 (by simp [Op.operands, Call.operands])
      simp [Act.eval] at h0
      simp [h0, go_sem]
    refine And.intro (Ssc.ask_free (by kernel_rfl) fun jj hjj => ⟨by kernel_rfl, Ssc.keep (Ssx.mv Old.refl rfl rfl (fun _ _ h => h)) hE (hDo jj)⟩) ?_
    refine And.intro (Ssc.ask_free (by kernel_rfl) fun jj hjj => ⟨by kernel_rfl, Ssc.keep (Ssx.mv Old.refl rfl rfl (fun _ _ h => h)) hE (hDo jj)⟩) ?_
    refine And.intro (Ssc.ask_free (by kernel_rfl) fun jj hjj => ⟨by kernel_rfl, Ssc.keep (Ssx.val1 Old.refl (x := 11) (.pointer (some ⟨g, 0, none⟩)) (by simp [Op.operands]) rfl (fun _ _ h => h) (fun ρ h1 hc w => by unfold execOp; simp [h1, go_sem]) (fun _ => rfl)) hE (hDo jj)⟩) ?_
    refine And.intro (Ssc.ask_free (by kernel_rfl) fun jj hjj => ⟨by kernel_rfl, Ssc.keep (Ssx.val1 Old.refl (x := 12) (.pointer (some ⟨g, 0, none⟩)) (by simp [Op.operands]) rfl (fun _ _ h => h) (fun ρ h1 hc w => by unfold execOp; simp [h1, go_sem]) (fun _ => rfl)) hE (hDo jj)⟩) ?_
    refine And.intro (Ssc.ask_free (by kernel_rfl) fun jj hjj => ⟨by kernel_rfl, Ssc.keep (Ssy.cell Old.refl rfl rfl (⟨g, 0, none⟩) (.pointer (some ⟨b, 0, none⟩)) (fun _ _ h => h) (fun _ h => h.2) Try.underlying62 rfl (fun _ => rfl)) hE (hDo jj)⟩) ?_
    refine And.intro (Ssc.ask_free (by kernel_rfl) fun jj hjj => ⟨by kernel_rfl, Ssc.keep (Ssx.val1 Old.refl (x := 14) (.pointer (some ⟨b, 0, none⟩)) (by simp [Op.operands]) rfl (fun _ _ h => h) (fun ρ h1 hc w => by unfold execOp; simp [h1, go_sem]) (fun _ => rfl)) hE (hDo jj)⟩) ?_
    refine And.intro (Ssc.ask_link (by kernel_rfl) (by kernel_rfl) (by kernel_rfl) (Ssc.link (b := 2) rfl fun a' w' hC hD hop => ⟨101, #[.pointer (some ⟨g, 0, none⟩), .int .i64 5, .func (.func 98) #[.pointer (some ⟨b, 0, none⟩)] #[]], ?_, (T2 w' hD.1 hC.1.lt).mono fun _ _ ⟨a, k, e, rr, kk, q⟩ => ⟨_, e, ⟨kk.row hC.1 HG.out, q.ptr⟩, kk, ⟨a, k, rfl, rr⟩, q, hD.2.then kk⟩⟩)) ?_
    · have h0 : a'.eval (.tmp 10) = .pointer (some ⟨g, 0, none⟩) := hop 10 (by simp [Op.operands, Call.operands])
      have h1 : a'.eval (.tmp 15) = .func (.func 98) #[.pointer (some ⟨b, 0, none⟩)] #[] := hop 15 (by simp [Op.operands, Call.operands])
      simp [Act.eval] at h0 h1
      simp [h0, h1, go_sem]
    exact trivial
  case behind =>
    intro vals wb hC hD hv
    have v3 : vals 3 = _ := hv _ (.head _)
    have v4 : vals 4 = _ := hv _ (.tail _ (.head _))
    have v5 : vals 5 = _ := hv _ (.tail _ (.tail _ (.head _)))
    have v6 : vals 6 = _ := hv _ (.tail _ (.tail _ (.tail _ (.head _))))
    have v7 : vals 7 = _ := hv _ (.tail _ (.tail _ (.tail _ (.tail _ (.head _)))))
    have v8 : vals 8 = _ := hv _ (.tail _ (.tail _ (.tail _ (.tail _ (.tail _ (.head _))))))
    have v9 : vals 9 = _ := hv _ (.tail _ (.tail _ (.tail _ (.tail _ (.tail _ (.tail _ (.head _)))))))
    have v10 : vals 10 = _ := hv _ (.tail _ (.tail _ (.tail _ (.tail _ (.tail _ (.tail _ (.tail _ (.head _))))))))
    have v11 : vals 11 = _ := hv _ (.tail _ (.tail _ (.tail _ (.tail _ (.tail _ (.tail _ (.tail _ (.tail _ (.head _)))))))))
    have v12 : vals 12 = _ := hv _ (.tail _ (.tail _ (.tail _ (.tail _ (.tail _ (.tail _ (.tail _ (.tail _ (.tail _ (.head _))))))))))
    have v13 : vals 13 = _ := hv _ (.tail _ (.tail _ (.tail _ (.tail _ (.tail _ (.tail _ (.tail _ (.tail _ (.tail _ (.tail _ (.head _)))))))))))
    have v14 : vals 14 = _ := hv _ (.tail _ (.tail _ (.tail _ (.tail _ (.tail _ (.tail _ (.tail _ (.tail _ (.tail _ (.tail _ (.tail _ (.head _))))))))))))
    have v15 : vals 15 = _ := hv _ (.tail _ (.tail _ (.tail _ (.tail _ (.tail _ (.tail _ (.tail _ (.tail _ (.tail _ (.tail _ (.tail _ (.tail _ (.head _)))))))))))))
    have v16 := hv _ (.tail _ (.tail _ (.tail _ (.tail _ (.tail _ (.tail _ (.tail _ (.tail _ (.tail _ (.tail _ (.tail _ (.tail _ (.tail _ (.head _))))))))))))))
    simp only [List.length_cons, List.length_nil, Nat.zero_add, Nat.reduceAdd, St3] at hD
    obtain ⟨a16, k16, e16, r16⟩ := v16
    have HD := hide hD
    have HR := hide hC.1
    have HX := hide r16
    simp only [Ssa.putAll, List.map_cons, List.map_nil, List.foldl_cons, List.foldl_nil, List.setIfInBounds_toArray, List.set_cons_succ, List.set_cons_zero, v3, v4, v5, v6, v7, v8, v9, v10, v11, v12, v13, v14, v15, e16, List.drop_succ_cons, List.drop_zero]
    clear hC hD hv r16 T0 T1 T2 St0 St1 St2 St3 CC DD v3 v4 v5 v6 v7 v8 v9 v10 v11 v12 v13 v14 v15
    go_wp2_with (refine wp_store_whole rfl 53 _ _ rfl w.heap.size rfl [.int .i64 (rWho s).1, .bool (rMk (rWho s).2).1, .slice a16 (rList 5 rGr (rMk (rWho s).2).2).1.length k16] rfl HR.out info3o rfl (by intro u hu; simp at hu; rcases hu with rfl | rfl | rfl <;> rfl) ?_; rintro w9 h9
                 have E9 : Hid (Row w9 w.heap.size 53 [.int .i64 (rWho s).1, .bool (rMk (rWho s).2).1, .slice a16 (rList 5 rGr (rMk (rWho s).2).2).1.length k16] ∧ Kept (fun i => i = w.heap.size) wb w9) := by subst h9; exact ⟨HR.out.whole _, Kept.of_grown (grown_setRow _ _ _) rfl⟩
                 clear h9 HR)
    have K9 : Kept (Sgb g b) w w9 := ⟨E9.out.2.os.trans HD.out.2.os, E9.out.2.tape.trans HD.out.2.tape, E9.out.2.output.trans HD.out.2.output, Nat.le_trans HD.out.2.size E9.out.2.size, fun i hi hn => (E9.out.2.block i (Nat.lt_of_lt_of_le hi HD.out.2.size) (by omega)).trans (HD.out.2.block i hi hn)⟩
    have R9 := HD.out.1.low (w' := w9) (fun k hk => E9.out.2.block k (Nat.lt_of_lt_of_le hk HD.out.1.size) (by have := H0.out.size; omega)) E9.out.2.size
    have X9' : RdS (fun i => i < w.heap.size + 1) w9 a16 (nums .u64 (rList 5 rGr (rMk (rWho s).2).2).1) := HX.out.low E9.out.2 (fun i hi => by omega)
    have X9 : RdS (fun i => i < w.heap.size) w9 a16 (nums .u64 (rList 5 rGr (rMk (rWho s).2).2).1) := ⟨X9'.1, fun x hp hx hs => X9'.2 x hp hx (by omega)⟩
    exact bodyPost_ret (v := .agg #[.int .i64 (rWho s).1, .bool (rMk (rWho s).2).1, .slice a16 (rList 5 rGr (rMk (rWho s).2).2).1.length k16]) (results_whole rfl rfl E9.out.1 Try.underlying53 rfl info3o) rfl ⟨a16, ⟨k16, rfl⟩, X9, K9, R9⟩

set_option maxRecDepth 100000 in
set_option maxHeartbeats 4000000 in
theorem readList_opening {B g b : Nat} {s : Rs} {w : World} (h : RdrV B g b s w) :
    Calls Try.prog 77 #[.pointer (some ⟨g, 0, none⟩), .int .i64 64, .func (.func 78) #[.pointer (some ⟨g, 0, none⟩)] #[]] w fun e w' => ∃ a cap oa oc, e = .returned (.slice a (rList 64 rOpening s).1.length cap) ∧ (rList 64 rOpening s).1.length ≤ cap ∧ TriS (fun i => i < w.heap.size) w' a (openingV oa oc) (rList 64 rOpening s).1 ∧ (∀ (i : Nat) (x : Opening), (rList 64 rOpening s).1[i]? = some x → RdS (fun i => i < w.heap.size) w' (oa i) (nums .u64 x.vals)) ∧ Kept (Sgb g b) w w' ∧ RdrV B g b (rList 64 rOpening s).2 w' := by
  have c0 := h.ptr
  have C := hide h.small
  have HS := hide h.size
  have HH := hide h
  have EL : Hid (∀ n s1, rSm s = (n, s1) → rList 64 rOpening s = if 64 < n then ([], ⟨s1.l, s1.er, true⟩) else rMany rOpening n s1) := by
    intro n s1 e
    unfold rList
    rw [e]
  generalize rSm s = z at *
  obtain ⟨n, s1⟩ := z
  have EL2 := hide (EL.out n s1 rfl)
  simp only at C
  clear EL h
  by_cases hn : 64 < n
  · have t1 : decide ((64 : Int) < (n : Int)) = true := decide_eq_true (by omega)
    have t1' : decide ((n : Int) > 64) = true := t1
    have t1'' : decide (64 < n) = true := decide_eq_true hn
    have E : Hid (rList 64 rOpening s = ([], ⟨s1.l, s1.er, true⟩)) := by rw [Hid, EL2.out, if_pos hn]
    rw [E.out]
    go_enter Try.func77, Try.ntmps77
    go_wp2_with fail
    refine C.out.mono ?_
    rintro e w1 ⟨rfl, k1, r1⟩
    have f1 := r1.row.free 1
    have cs := r1.row.cell (i := 1) rfl
    have R1 := hide r1.strange.1
    have K1 := hide (k1.then r1.strange.2)
    clear C c0 k1 r1 hn
    go_wp2
    go_ret
    exact ⟨none, 0, fun _ => none, fun _ => 0, rfl, Nat.le_refl _, TriS.nil, by simp, K1.out, R1.out⟩
  · have t1 : decide ((64 : Int) < (n : Int)) = false := decide_eq_false (by omega)
    have t1' : decide ((n : Int) > 64) = false := t1
    have t1'' : decide (64 < n) = false := decide_eq_false hn
    have E : Hid (rList 64 rOpening s = rMany rOpening n s1) := by rw [Hid, EL2.out, if_neg hn]
    rw [E.out]
    have HN : Hid (n ≤ 64) := by show _ ≤ _; omega
    clear EL2 E hn
    go_enter Try.func77, Try.ntmps77
    go_wp2_with fail
    refine C.out.mono ?_
    rintro e w1 ⟨rfl, k1, r1⟩
    have K1 := hide k1
    have R1 := hide r1
    have LT := hide (sgb_lt HH.out k1.size)
    have HB : Hid (B ≤ w1.heap.size) := Nat.le_trans HS.out k1.size
    clear C c0 k1 r1
    go_wp2_with fail
    clear t1 t1' t1''
    go_loopw [8, 21] (fun v8 vi wr => ∃ (i : Nat) (L : List (Opening × Option Addr × Nat)) (si : Rs) (u : Value), u = v8 ∧ i ≤ n ∧ vi = .int .i64 (i : Int) ∧ Hid (rMany rOpening i s1 = (L.map (·.1), si)) ∧ Hid (L.length = i) ∧ Hid (wr.ownsRow w1.heap.size 53 3 u L.length (tri3 openingC L)) ∧ Hid (∀ p ∈ L, RdS (fun i => i < w1.heap.size ∨ u.ownBlock = some i) wr p.2.1 (nums .u64 p.1.vals)) ∧ Hid (Kept (Sgb g b) w1 wr) ∧ Hid (RdrV B g b si wr)) (fun _ vi _ => n - (intOf vi).toNat)
    case atStart => exact ⟨0, [], s1, _, rfl, Nat.zero_le _, rfl, rfl, rfl, World.ownsRow_nil _ _ _ _, by simp [Hid], Kept.same _ _, R1.out⟩
    case round =>
      clear R1
      obtain ⟨i, L, si, u, rfl, hi, rfl, EQ, LL, OW, XD, KR, RR⟩ := hrel
      by_cases hlt : i < n
      · have t2 : decide ((i : Int) < (n : Int)) = true := by simp; omega
        have t2' : decide (i < n) = true := by simpa using hlt
        have q0 : (0 : Int) ≤ i := by omega
        have q1 : (i : Int) < n := by omega
        have iw : wrap64 ((i : Int) + 1) = ((i + 1 : Nat) : Int) := by have := HN.out; unfold wrap64; omega
        have LS : Hid (L.length < 1000000) := by have := LL.out; have := HN.out; show _ < _; omega
        have NX : Hid (rMany rOpening (i + 1) s1 = ((rMany rOpening i s1).1 ++ [(rOpening si).1], (rOpening si).2)) := by rw [Hid, rMany, EQ.out]
        rw [EQ.out] at NX
        have C := hide (reader_opening RR.out)
        go_wp2_with fail
        refine C.out.mono ?_
        rintro e w2 ⟨ax, kx, rfl, rx, k2, r2⟩
        have K2 := hide k2
        have R2 := hide r2
        have OW2 := hide (own_mono (own_kept OW.out k2 LT.out) (Old.of_alloc w2 (.cells #[.int .i64 (rWho si).1, .bool (rMk (rWho si).2).1, .slice ax (rList 5 rGr (rMk (rWho si).2).2).1.length kx] 53)))
        have RN := hide (Row.new w2 53 [.int .i64 (rWho si).1, .bool (rMk (rWho si).2).1, .slice ax (rList 5 rGr (rMk (rWho si).2).2).1.length kx])
        have BS : Hid (w1.heap.size ≤ (w2.alloc (.cells #[.int .i64 (rWho si).1, .bool (rMk (rWho si).2).1, .slice ax (rList 5 rGr (rMk (rWho si).2).2).1.length kx] 53)).heap.size) := Nat.le_trans (KR.out.then k2).size (Old.of_alloc w2 _).size
        have OB : Hid (∀ k, u.ownBlock = some k → w1.heap.size ≤ k ∧ k < wr.heap.size) := fun k hk => World.ownsRow.lt OW.out k hk
        have RX := hide rx
        have KRS := hide KR.out.size
        have SZ := hide k2.size
        clear C k2 r2 rx
        go_wp2_with (at_builtin; refine wp_append1 (z := .agg #[.int .i64 0, .bool false, .slice none 0 0]) (size := 3) (bytes := 40) rfl _ _ 27 rfl w1.heap.size 53 Try.underlying27 (by kernel_rfl) rfl (by omega) (by omega) _ L.length (tri3 openingC L) rfl OW2.out w2.heap.size 1 [.int .i64 (rWho si).1, .bool (rMk (rWho si).2).1, .slice ax (rList 5 rGr (rMk (rWho si).2).2).1.length kx] rfl rfl RN.out (by intro u hu; simp at hu; rcases hu with rfl | rfl | rfl <;> rfl) LS.out BS.out ?_
                     rintro v3 w3 ow gr alt
                     have OW3 : Hid (w3.ownsRow w1.heap.size 53 3 v3 (L ++ [((rOpening si).1, ax, kx)]).length (tri3 openingC (L ++ [((rOpening si).1, ax, kx)]))) := by
                       rw [Hid, List.length_append]
                       simpa [tri3, openingC, rOpening] using ow
                     have K3 : Hid (Kept (Sgb g b) w1 w3) := kept_round KR.out K2.out gr rfl (fun k hk => (OB.out k hk).1)
                     have R3 : Hid (RdrV B g b (rOpening si).2 w3) := R2.out.round gr HB.out (fun k hk => (OB.out k hk).1)
                     have X3 : Hid (∀ p ∈ L ++ [((rOpening si).1, ax, kx)], RdS (fun i => i < w1.heap.size ∨ v3.ownBlock = some i) w3 p.2.1 (nums .u64 p.1.vals)) := by
                       intro p hp
                       have step : RdS (fun i => i < w1.heap.size ∨ u.ownBlock = some i) w2 p.2.1 (nums .u64 p.1.vals) := by
                         rcases List.mem_append.1 hp with hp | hp
                         · exact (XD.out p hp).low K2.out (fun i hi => .inl (LT.out i hi))
                         · obtain rfl := List.mem_singleton.1 hp
                           refine ⟨RX.out.1, fun x hp hx hs => ?_⟩
                           rcases hs with hs | hs
                           · exact RX.out.2 x hp hx (Nat.lt_of_lt_of_le hs KRS.out)
                           · exact RX.out.2 x hp hx (OB.out _ hs).2
                       refine ⟨(step.1.mono (Old.of_alloc w2 (.cells #[.int .i64 (rWho si).1, .bool (rMk (rWho si).2).1, .slice ax (rList 5 rGr (rMk (rWho si).2).2).1.length kx] 53))).same fun x hp hx => gr.block _ (Nat.lt_of_lt_of_le (step.1.lt hx hp) (Old.of_alloc w2 _).size) (fun e => step.2 x hp hx (.inr e.symm)), fun x hp hx hs => ?_⟩
                       rcases hs with hs | hs
                       · exact step.2 x hp hx (.inl hs)
                       · rcases alt with ha | ha
                         · exact step.2 x hp hx (.inr (ha ▸ hs))
                         · rw [ha] at hs
                           have h1 := step.1.lt hx hp
                           have h2 := (Old.of_alloc w2 (.cells #[.int .i64 (rWho si).1, .bool (rMk (rWho si).2).1, .slice ax (rList 5 rGr (rMk (rWho si).2).2).1.length kx] 53)).size
                           have h3 := Option.some.inj hs
                           omega
                     clear ow gr alt OW2 RN OW)
        go_wp2_with fail
        try rw [iw]
        exact ⟨⟨i + 1, L ++ [((rOpening si).1, ax, kx)], (rOpening si).2, _, rfl, by omega, by simp, by rw [Hid, NX.out]; simp, by rw [Hid, List.length_append, LL.out]; rfl, OW3, X3, K3, R3⟩, by simp [intOf]; omega⟩
      · obtain rfl : i = n := by omega
        have t2 : decide ((i : Int) < (i : Int)) = false := by simp
        have t2' : decide (i < i) = false := by simp
        have KE := hide (K1.out.then KR.out)
        obtain ⟨aa, cc, rfl, hcc, tt, hbb⟩ := own_tri OW.out
        have RD : Hid (TriS (fun i => i < w.heap.size) wr aa (openingV (placeOf L) (roomOf L)) (L.map (·.1))) := ⟨tri_opening tt, fun x _ hx hs => by have := K1.out.size; have := hbb x hx; omega⟩
        have RE : Hid (∀ (i : Nat) (x : Opening), (L.map (·.1))[i]? = some x → RdS (fun i => i < w.heap.size) wr (placeOf L i) (nums .u64 x.vals)) := fun i x hx => by
          obtain ⟨p, hp, rfl, e1, _⟩ := of_map hx
          rw [e1]
          exact ⟨(XD.out p (List.mem_of_getElem? hp)).1, fun x hp' hx hs => (XD.out p (List.mem_of_getElem? hp)).2 x hp' hx (.inl (Nat.lt_of_lt_of_le hs K1.out.size))⟩
        have HCC : Hid ((L.map (·.1)).length ≤ cc) := by rw [Hid, List.length_map]; exact hcc
        have HLM : L.length = (L.map (·.1)).length := by rw [List.length_map]
        rw [HLM]
        clear tt hbb hcc OW XD HLM LL
        go_wp2
        go_ret
        rw [EQ.out]
        exact ⟨aa, cc, placeOf L, roomOf L, rfl, HCC.out, RD.out, RE.out, KE.out, RR.out⟩

end Go.Proofs.Ytepchjpdfmleoaa

/-
  Package words: a word is read.
-/
namespace Go.Proofs.Ytepchjpdfmleoaa
open Go.RowKit Cn Pn Wn Rn
set_option linter.unusedVariables false

/-- A word whose lists lie in blocks that are none of S, its parcels' bytes in blocks that are none of D. -/
structure WordS (S D : Nat → Prop) (w : World) (c : Wd) (m : WM) : Prop where
  caps : c.cards.length ≤ m.c1 ∧ c.parcels.length ≤ m.c2 ∧ c.vector.length ≤ m.c3 ∧ c.who.length ≤ m.c4 ∧ c.openings.length ≤ m.c5
  cards : TriS S w m.a1 cardV c.cards
  parcels : TriS S w m.a2 (parcelV m.pa m.pc) c.parcels
  datas : ∀ (i : Nat) (x : Parcel), c.parcels[i]? = some x → RdS D w (m.pa i) (nums .u8 x.data)
  vector : RdS S w m.a3 (nums .u32 c.vector)
  who : RdS S w m.a4 (ints c.who)
  openings : TriS S w m.a5 (openingV m.oa m.oc) c.openings
  vals : ∀ (i : Nat) (x : Opening), c.openings[i]? = some x → RdS S w (m.oa i) (nums .u64 x.vals)
theorem WordS.kept {S D T : Nat → Prop} {w w' : World} {c : Wd} {m : WM} (h : WordS S D w c m) (k : Kept T w w') (hT : ∀ i, T i → S i) (hD : ∀ i, T i → D i) : WordS S D w' c m :=
  ⟨h.caps, h.cards.kept k hT, h.parcels.kept k hT, fun i x hx => (h.datas i x hx).low k hD, h.vector.low k hT, h.who.low k hT, h.openings.kept k hT, fun i x hx => (h.vals i x hx).low k hT⟩
/-- What is asked of a word's numbers. -/
structure Bd15 (c : Wd) : Prop where
  nums_ : B64 c.kind ∧ B64 c.frm ∧ B64 c.why
  lens : c.cards.length ≤ 256 ∧ c.parcels.length ≤ 256 ∧ c.vector.length ≤ 256 ∧ c.who.length ≤ 256 ∧ c.openings.length ≤ 256
  cardB : ∀ x ∈ c.cards, B64 x.who ∧ x.lock < 18446744073709551616 ∧ x.key < 18446744073709551616
  parcelB : ∀ x ∈ c.parcels, B64 x.frm ∧ B64 x.to ∧ (∀ y ∈ x.data, y < 256) ∧ x.data.length ≤ 4294967295
  vectorB : ∀ x ∈ c.vector, x < 4294967296
  whoB : ∀ x ∈ c.who, B64 x
  openingB : ∀ x ∈ c.openings, B64 x.who ∧ (∀ y ∈ x.vals, y < 18446744073709551616) ∧ x.vals.length ≤ 5
theorem WordS.wordIn {S D : Nat → Prop} {w : World} {c : Wd} {m : WM} (h : WordS S D w c m) (b : Bd15 c) : WordIn w c m where
  nums_ := b.nums_
  lens := by have := b.lens; omega
  caps := h.caps
  cards := h.cards.1
  cardB := b.cardB
  parcels := fun i x hx => ⟨h.parcels.1 i x hx, (h.datas i x hx).1⟩
  parcelB := fun x hx => by have := b.parcelB x hx; exact ⟨this.1, this.2.1, this.2.2.1, by omega⟩
  vector := h.vector.1
  vectorB := b.vectorB
  who := h.who.1
  whoB := b.whoB
  openings := fun i x hx => ⟨h.openings.1 i x hx, (h.vals i x hx).1⟩
  openingB := fun x hx => by have := b.openingB x hx; exact ⟨this.1, this.2.1, by omega⟩

theorem rSm_b {s : Rs} (h : By s) : (rSm s).1 < 4294967296 := nmN_below s.er (tkS_lt h _ _)
theorem rGr_b {s : Rs} (h : By s) : (rGr s).1 < 18446744073709551616 := nmN_below s.er (tkS_lt h _ _)
theorem rWho_b {s : Rs} (h : By s) : B64 (rWho s).1 := by
  have := rSm_b h
  show B64 (((rSm s).1 : Nat) : Int)
  unfold B64
  omega
theorem rBy_b {s : Rs} (h : By s) : (∀ y ∈ (rBy s).1, y < 256) ∧ (rBy s).1.length ≤ 4294967295 := by
  have h1 : nmN s.l s.er 4 < 256 ^ 4 := nmN_below s.er (tkS_lt h _ _)
  have h2 := tkS_len (tkL s.l s.er 4) (tkE s.l s.er 4) (nmN s.l s.er 4)
  refine ⟨tkS_lt (tkL_lt h _ _) _ _, ?_⟩
  show (tkS _ _ _).length ≤ _
  omega
theorem rMany_all {α : Type} {r : Rs → α × Rs} {p : α → Prop} (hb : ∀ s, By s → By (r s).2) (hp : ∀ s, By s → p (r s).1) : ∀ (n : Nat) (s : Rs), By s → By (rMany r n s).2 ∧ ∀ x ∈ (rMany r n s).1, p x
  | 0, s, h => ⟨h, by simp [rMany]⟩
  | n + 1, s, h => by
    obtain ⟨h1, h2⟩ := rMany_all hb hp n s h
    refine ⟨hb _ h1, fun x hx => ?_⟩
    rcases List.mem_append.1 hx with hx | hx
    · exact h2 x hx
    · obtain rfl := List.mem_singleton.1 hx
      exact hp _ h1
theorem rList_all {α : Type} {r : Rs → α × Rs} {p : α → Prop} (most : Nat) (hb : ∀ s, By s → By (r s).2) (hp : ∀ s, By s → p (r s).1) (s : Rs) (h : By s) : (rList most r s).1.length ≤ most ∧ ∀ x ∈ (rList most r s).1, p x := by
  unfold rList
  split
  · exact ⟨Nat.zero_le _, by simp⟩
  · refine ⟨by rw [rMany_len]; omega, (rMany_all hb hp _ _ (got_small.by_ s h)).2⟩
theorem word_b (s : Rs) (h : By s) : Bd15 (rWord s).1 := by
  obtain ⟨y1, y2, y3, y4, y5, y6, y7, y8⟩ := word_by s h
  have l1 := rList_all (p := fun x : Card => B64 x.who ∧ x.lock < 18446744073709551616 ∧ x.key < 18446744073709551616) 64 got_card.by_ (fun s h => ⟨rWho_b h, rGr_b (got_who.by_ s h), rGr_b (got_great.by_ _ (got_who.by_ s h))⟩) (s3 s) y3
  have l2 := rList_all (p := fun x : Parcel => B64 x.frm ∧ B64 x.to ∧ (∀ y ∈ x.data, y < 256) ∧ x.data.length ≤ 4294967295) 64 got_parcel.by_ (fun s h => ⟨rWho_b h, rWho_b (got_who.by_ s h), rBy_b (got_who.by_ _ (got_who.by_ s h))⟩) (s4 s) y4
  have l3 := rList_all (p := fun x : Nat => x < 4294967296) 256 got_small.by_ (fun s h => rSm_b h) (s5 s) y5
  have l4 := rList_all (p := fun x : Int => B64 x) 64 got_who.by_ (fun s h => rWho_b h) (s6 s) y6
  have l5 := rList_all (p := fun x : Opening => B64 x.who ∧ (∀ y ∈ x.vals, y < 18446744073709551616) ∧ x.vals.length ≤ 5) 64 got_opening.by_ (fun s h => by
    have := rList_all (p := fun x : Nat => x < 18446744073709551616) 5 got_great.by_ (fun s h => rGr_b h) (rMk (rWho s).2).2 (got_mark.by_ _ (got_who.by_ s h))
    exact ⟨rWho_b h, this.2, this.1⟩) (s7 s) y7
  have h1 := l1.1
  have h2 := l2.1
  have h3 := l3.1
  have h4 := l4.1
  have h5 := l5.1
  unfold rWord
  generalize rList 64 rCard (s3 s) = g1 at *
  generalize rList 64 rParcel (s4 s) = g2 at *
  generalize rList 256 rSm (s5 s) = g3 at *
  generalize rList 64 rWho (s6 s) = g4 at *
  generalize rList 64 rOpening (s7 s) = g5 at *
  dsimp only
  exact ⟨⟨rWho_b h, rWho_b y1, rWho_b y2⟩, ⟨Nat.le_trans h1 (by omega), Nat.le_trans h2 (by omega), h3, Nat.le_trans h4 (by omega), Nat.le_trans h5 (by omega)⟩, l1.2, l2.2, l3.2, l4.2, l5.2⟩

theorem infoWd8 {a b c d e f g h : Value} : (Try.prog.info? 29).map (·.size) = some [a, b, c, d, e, f, g, h].length := by kernel_rfl
section
variable {B g b N : Nat} (hN : ∀ i, Sgb g b i → i < N)
def XCards (l : List Card) : Ssx.XP (Kept (Sgb g b)) := ⟨fun v w => ∃ a k, v = .slice a l.length k ∧ l.length ≤ k ∧ TriS (fun i => i < N) w a cardV l, fun _ _ _ ⟨a, k, e, h, t⟩ kk => ⟨a, k, e, h, t.kept kk hN⟩⟩
def XParcels (B : Nat) (l : List Parcel) : Ssx.XP (Kept (Sgb g b)) := ⟨fun v w => ∃ a k pa pc, v = .slice a l.length k ∧ l.length ≤ k ∧ TriS (fun i => i < N) w a (parcelV pa pc) l ∧ ∀ (i : Nat) (x : Parcel), l[i]? = some x → RdS (S3 B g b) w (pa i) (nums .u8 x.data), fun _ _ _ ⟨a, k, pa, pc, e, h, t, d⟩ kk => ⟨a, k, pa, pc, e, h, t.kept kk hN, fun i x hx => (d i x hx).low kk sgb_s3⟩⟩
def XNums (l : List Nat) : Ssx.XP (Kept (Sgb g b)) := ⟨fun v w => ∃ a k, v = .slice a l.length k ∧ l.length ≤ k ∧ RdS (fun i => i < N) w a (nums .u32 l), fun _ _ _ ⟨a, k, e, h, t⟩ kk => ⟨a, k, e, h, t.low kk hN⟩⟩
def XInts (l : List Int) : Ssx.XP (Kept (Sgb g b)) := ⟨fun v w => ∃ a k, v = .slice a l.length k ∧ l.length ≤ k ∧ RdS (fun i => i < N) w a (ints l), fun _ _ _ ⟨a, k, e, h, t⟩ kk => ⟨a, k, e, h, t.low kk hN⟩⟩
def XOpenings (l : List Opening) : Ssx.XP (Kept (Sgb g b)) := ⟨fun v w => ∃ a k oa oc, v = .slice a l.length k ∧ l.length ≤ k ∧ TriS (fun i => i < N) w a (openingV oa oc) l ∧ ∀ (i : Nat) (x : Opening), l[i]? = some x → RdS (fun i => i < N) w (oa i) (nums .u64 x.vals), fun _ _ _ ⟨a, k, pa, pc, e, h, t, d⟩ kk => ⟨a, k, pa, pc, e, h, t.kept kk hN, fun i x hx => (d i x hx).low kk hN⟩⟩
end
theorem TriS.weak {S T : Nat → Prop} {w : World} {a : Option Addr} {α : Type} {c : Nat → α → Value × Value × Value} {l : List α} (h : TriS S w a c l) (hs : ∀ i, T i → S i) : TriS T w a c l := ⟨h.1, fun x hp hx ht => h.2 x hp hx (hs _ ht)⟩
theorem RdS.weak {S T : Nat → Prop} {w : World} {a : Option Addr} {vs : List Value} (h : RdS S w a vs) (hs : ∀ i, T i → S i) : RdS T w a vs := ⟨h.1, fun x hp hx ht => h.2 x hp hx (hs _ ht)⟩

/-- What the reading of a word hands back. -/
def WordRR (B g b : Nat) (s : Rs) (w : World) (e : Ending) (w' : World) : Prop :=
  ∃ m, e = .returned (.agg (wdc (rWord s).1 m).toArray) ∧ WordS (fun i => i < w.heap.size + 1) (S3 B g b) w' (rWord s).1 m ∧ Kept (Sgb g b) w w' ∧ RdrV B g b (s8 s) w'

set_option maxRecDepth 100000 in
set_option maxHeartbeats 4000000 in
theorem reader_word {B g b : Nat} {s : Rs} {w : World} (h : RdrV B g b s w) :
    Calls Try.prog 27 #[.pointer (some ⟨g, 0, none⟩)] w fun e w' => WordRR B g b s w e w' := by
  have c0 := h.ptr
  have HG : Hid (¬ Sgb g b w.heap.size) := by intro hs; have h1 := h.gB; have h2 := h.bB; have h3 := h.size; rcases hs with hs | hs <;> omega
  have H0 := hide h
  have HN1 : ∀ i, Sgb g b i → i < w.heap.size + 1 := fun i hi => by have := sgb_lt h (Nat.le_refl _) i hi; omega
  have CC : Hid (Row ((w.alloc (.cells #[.int .i64 0, .int .i64 0, .int .i64 0, .slice none 0 0, .slice none 0 0, .slice none 0 0, .slice none 0 0, .slice none 0 0] 29)).drewN 1) w.heap.size 29 [.int .i64 0, .int .i64 0, .int .i64 0, .slice none 0 0, .slice none 0 0, .slice none 0 0, .slice none 0 0, .slice none 0 0] ∧ ((w.alloc (.cells #[.int .i64 0, .int .i64 0, .int .i64 0, .slice none 0 0, .slice none 0 0, .slice none 0 0, .slice none 0 0, .slice none 0 0] 29)).drewN 1).cell? ⟨g, 0, none⟩ = some (.pointer (some ⟨b, 0, none⟩))) := ⟨(Row.new w 29 [.int .i64 0, .int .i64 0, .int .i64 0, .slice none 0 0, .slice none 0 0, .slice none 0 0, .slice none 0 0, .slice none 0 0]).drewN 1, (h.mono ((Old.of_alloc w (.cells #[.int .i64 0, .int .i64 0, .int .i64 0, .slice none 0 0, .slice none 0 0, .slice none 0 0, .slice none 0 0, .slice none 0 0] 29)).drewN 1)).ptr⟩
  have DD : Hid (RdrV B g b s ((w.alloc (.cells #[.int .i64 0, .int .i64 0, .int .i64 0, .slice none 0 0, .slice none 0 0, .slice none 0 0, .slice none 0 0, .slice none 0 0] 29)).drewN 1) ∧ Kept (Sgb g b) w ((w.alloc (.cells #[.int .i64 0, .int .i64 0, .int .i64 0, .slice none 0 0, .slice none 0 0, .slice none 0 0, .slice none 0 0, .slice none 0 0] 29)).drewN 1)) := ⟨h.mono ((Old.of_alloc w (.cells #[.int .i64 0, .int .i64 0, .int .i64 0, .slice none 0 0, .slice none 0 0, .slice none 0 0, .slice none 0 0, .slice none 0 0] 29)).drewN 1), Kept.of_old ((Old.of_alloc w (.cells #[.int .i64 0, .int .i64 0, .int .i64 0, .slice none 0 0, .slice none 0 0, .slice none 0 0, .slice none 0 0, .slice none 0 0] 29)).drewN 1)⟩
  obtain ⟨St, hSt⟩ : ∃ St : Nat → Rs, St = fun j => match j with | 0 => s | 1 => s1 s | 2 => s2 s | 3 => s3 s | 4 => s4 s | 5 => s5 s | 6 => s6 s | 7 => s7 s | _ => s8 s := ⟨_, rfl⟩
  have St0 : St 0 = s := by subst hSt; rfl
  have St1 : St 1 = s1 s := by subst hSt; rfl
  have St2 : St 2 = s2 s := by subst hSt; rfl
  have St3 : St 3 = s3 s := by subst hSt; rfl
  have St4 : St 4 = s4 s := by subst hSt; rfl
  have St5 : St 5 = s5 s := by subst hSt; rfl
  have St6 : St 6 = s6 s := by subst hSt; rfl
  have St7 : St 7 = s7 s := by subst hSt; rfl
  have St8 : St 8 = s8 s := by subst hSt; rfl
  have T0 : ∀ w', RdrV B g b (St 0) w' → Calls Try.prog 69 #[.pointer (some ⟨b, 0, none⟩)] w' fun e w'' => e = .returned (.int .i64 (rWho s).1) ∧ Kept (Sgb g b) w' w'' ∧ RdrV B g b (St 1) w'' := by
    intro w' h
    rw [St0] at h
    rw [St1, ← q1]
    exact h.small
  have T1 : ∀ w', RdrV B g b (St 1) w' → Calls Try.prog 69 #[.pointer (some ⟨b, 0, none⟩)] w' fun e w'' => e = .returned (.int .i64 (rWho (s1 s)).1) ∧ Kept (Sgb g b) w' w'' ∧ RdrV B g b (St 2) w'' := by
    intro w' h
    rw [St1] at h
    rw [St2, ← q2]
    exact h.small
  have T2 : ∀ w', RdrV B g b (St 2) w' → Calls Try.prog 69 #[.pointer (some ⟨b, 0, none⟩)] w' fun e w'' => e = .returned (.int .i64 (rWho (s2 s)).1) ∧ Kept (Sgb g b) w' w'' ∧ RdrV B g b (St 3) w'' := by
    intro w' h
    rw [St2] at h
    rw [St3, ← q3]
    exact h.small
  have T3 : ∀ w', RdrV B g b (St 3) w' → w.heap.size < w'.heap.size → Calls Try.prog 70 #[.pointer (some ⟨g, 0, none⟩), .int .i64 64, .func (.func 71) #[.pointer (some ⟨g, 0, none⟩)] #[]] w' fun e w'' => ∃ v, e = .returned v ∧ (XCards HN1 (rList 64 rCard (s3 s)).1).p v w'' ∧ Kept (Sgb g b) w' w'' ∧ RdrV B g b (St 4) w'' := by
    intro w' h hz
    rw [St3] at h
    rw [St4, ← q4]
    exact (readList_card h).mono fun _ _ ⟨a, k, e, hc, t, kk, q⟩ => ⟨_, e, ⟨a, k, rfl, hc, t.weak fun i hi => Nat.lt_of_lt_of_le hi hz⟩, kk, q⟩
  have T4 : ∀ w', RdrV B g b (St 4) w' → w.heap.size < w'.heap.size → Calls Try.prog 72 #[.pointer (some ⟨g, 0, none⟩), .int .i64 64, .func (.func 73) #[.pointer (some ⟨g, 0, none⟩)] #[]] w' fun e w'' => ∃ v, e = .returned v ∧ (XParcels HN1 B (rList 64 rParcel (s4 s)).1).p v w'' ∧ Kept (Sgb g b) w' w'' ∧ RdrV B g b (St 5) w'' := by
    intro w' h hz
    rw [St4] at h
    rw [St5, ← q5]
    exact (readList_parcel h).mono fun _ _ ⟨a, k, pa, pc, e, hc, t, d, kk, q⟩ => ⟨_, e, ⟨a, k, pa, pc, rfl, hc, t.weak fun i hi => Nat.lt_of_lt_of_le hi hz, d⟩, kk, q⟩
  have T5 : ∀ w', RdrV B g b (St 5) w' → w.heap.size < w'.heap.size → Calls Try.prog 74 #[.pointer (some ⟨g, 0, none⟩), .int .i64 256, .func (.func 75) #[.pointer (some ⟨g, 0, none⟩)] #[]] w' fun e w'' => ∃ v, e = .returned v ∧ (XNums HN1 (rList 256 rSm (s5 s)).1).p v w'' ∧ Kept (Sgb g b) w' w'' ∧ RdrV B g b (St 6) w'' := by
    intro w' h hz
    rw [St5] at h
    rw [St6, ← q6]
    exact (readList_number h).mono fun _ _ ⟨a, k, e, hc, t, kk, q⟩ => ⟨_, e, ⟨a, k, rfl, hc, t.weak fun i hi => Nat.lt_of_lt_of_le hi hz⟩, kk, q⟩
  have T6 : ∀ w', RdrV B g b (St 6) w' → w.heap.size < w'.heap.size → Calls Try.prog 76 #[.pointer (some ⟨g, 0, none⟩), .int .i64 64, .func (.func 69) #[.pointer (some ⟨b, 0, none⟩)] #[]] w' fun e w'' => ∃ v, e = .returned v ∧ (XInts HN1 (rList 64 rWho (s6 s)).1).p v w'' ∧ Kept (Sgb g b) w' w'' ∧ RdrV B g b (St 7) w'' := by
    intro w' h hz
    rw [St6] at h
    rw [St7, ← q7]
    exact (readList_who h).mono fun _ _ ⟨a, k, e, hc, t, kk, q⟩ => ⟨_, e, ⟨a, k, rfl, hc, t.weak fun i hi => Nat.lt_of_lt_of_le hi hz⟩, kk, q⟩
  have T7 : ∀ w', RdrV B g b (St 7) w' → w.heap.size < w'.heap.size → Calls Try.prog 77 #[.pointer (some ⟨g, 0, none⟩), .int .i64 64, .func (.func 78) #[.pointer (some ⟨g, 0, none⟩)] #[]] w' fun e w'' => ∃ v, e = .returned v ∧ (XOpenings HN1 (rList 64 rOpening (s7 s)).1).p v w'' ∧ Kept (Sgb g b) w' w'' ∧ RdrV B g b (St 8) w'' := by
    intro w' h hz
    rw [St7] at h
    rw [St8, ← q8]
    exact (readList_opening h).mono fun _ _ ⟨a, k, pa, pc, e, hc, t, d, kk, q⟩ => ⟨_, e, ⟨a, k, pa, pc, rfl, hc, t.weak fun i hi => Nat.lt_of_lt_of_le hi hz, fun i x hx => (d i x hx).weak fun i hi => Nat.lt_of_lt_of_le hi hz⟩, kk, q⟩
  clear hSt h
  go_enter Try.func27, Try.ntmps27
  go_wp2_with fail
  refine Ssc.region (Ext := Kept (Sgb g b)) 38 [4, 9, 14, 18, 22, 26, 33, 37] (fun w' => Row w' w.heap.size 29 [.int .i64 0, .int .i64 0, .int .i64 0, .slice none 0 0, .slice none 0 0, .slice none 0 0, .slice none 0 0, .slice none 0 0] ∧ w'.cell? ⟨g, 0, none⟩ = some (.pointer (some ⟨b, 0, none⟩))) (fun j w' => RdrV B g b (St j) w' ∧ Kept (Sgb g b) w w') [3, 4, 5, 6, 7, 8, 9, 10, 11, 12, 13, 14, 15, 16, 17, 18, 19, 20, 21, 22, 23, 24, 25, 26, 27, 28, 29, 30, 31, 32, 33, 34, 35, 36, 37, 38, 39, 40]
    [(3, Ssx.cst (.pointer (some ⟨g, 0, none⟩))), (4, Ssx.cst (.pointer (some ⟨g, 0, none⟩))), (5, Ssx.cst (.pointer (some ⟨g, 0, none⟩))), (6, Ssx.cst (.pointer (some ⟨b, 0, none⟩))), (7, Ssx.cst (.int .i64 (rWho s).1)), (8, Ssx.cst (.pointer (some ⟨g, 0, none⟩))), (9, Ssx.cst (.pointer (some ⟨g, 0, none⟩))), (10, Ssx.cst (.pointer (some ⟨g, 0, none⟩))), (11, Ssx.cst (.pointer (some ⟨b, 0, none⟩))), (12, Ssx.cst (.int .i64 (rWho (s1 s)).1)), (13, Ssx.cst (.pointer (some ⟨g, 0, none⟩))), (14, Ssx.cst (.pointer (some ⟨g, 0, none⟩))), (15, Ssx.cst (.pointer (some ⟨g, 0, none⟩))), (16, Ssx.cst (.pointer (some ⟨b, 0, none⟩))), (17, Ssx.cst (.int .i64 (rWho (s2 s)).1)), (18, Ssx.cst (.pointer (some ⟨g, 0, none⟩))), (19, Ssx.cst (.pointer (some ⟨g, 0, none⟩))), (20, Ssx.cst (.func (.func 71) #[.pointer (some ⟨g, 0, none⟩)] #[])), (21, XCards HN1 (rList 64 rCard (s3 s)).1), (22, Ssx.cst (.pointer (some ⟨g, 0, none⟩))), (23, Ssx.cst (.pointer (some ⟨g, 0, none⟩))), (24, Ssx.cst (.func (.func 73) #[.pointer (some ⟨g, 0, none⟩)] #[])), (25, XParcels HN1 B (rList 64 rParcel (s4 s)).1), (26, Ssx.cst (.pointer (some ⟨g, 0, none⟩))), (27, Ssx.cst (.pointer (some ⟨g, 0, none⟩))), (28, Ssx.cst (.func (.func 75) #[.pointer (some ⟨g, 0, none⟩)] #[])), (29, XNums HN1 (rList 256 rSm (s5 s)).1), (30, Ssx.cst (.pointer (some ⟨g, 0, none⟩))), (31, Ssx.cst (.pointer (some ⟨g, 0, none⟩))), (32, Ssx.cst (.pointer (some ⟨g, 0, none⟩))), (33, Ssx.cst (.pointer (some ⟨g, 0, none⟩))), (34, Ssx.cst (.pointer (some ⟨b, 0, none⟩))), (35, Ssx.cst (.func (.func 69) #[.pointer (some ⟨b, 0, none⟩)] #[])), (36, XInts HN1 (rList 64 rWho (s6 s)).1), (37, Ssx.cst (.pointer (some ⟨g, 0, none⟩))), (38, Ssx.cst (.pointer (some ⟨g, 0, none⟩))), (39, Ssx.cst (.func (.func 78) #[.pointer (some ⟨g, 0, none⟩)] #[])), (40, XOpenings HN1 (rList 64 rOpening (s7 s)).1)]
    [] (by kernel_rfl) (by kernel_rfl) (by kernel_rfl) (by simp) (by kernel_rfl) (by kernel_rfl) (by kernel_rfl) (by intro p hp; cases hp) (by kernel_rfl) (by kernel_rfl) (fun _ => Kept.same _ _) (CC.out) ((by rw [St0]; exact DD.out)) ?good ?behind
  case good =>
    have hE : ∀ wa wb : World, (fun w' => Row w' w.heap.size 29 [.int .i64 0, .int .i64 0, .int .i64 0, .slice none 0 0, .slice none 0 0, .slice none 0 0, .slice none 0 0, .slice none 0 0] ∧ w'.cell? ⟨g, 0, none⟩ = some (.pointer (some ⟨b, 0, none⟩))) wa → Old wa wb → (Kept (Sgb g b)) wa wb := fun _ _ _ o => Kept.of_old o
    have hDo : ∀ (jj : Nat) (wa wb : World), (fun j w' => RdrV B g b (St j) w' ∧ Kept (Sgb g b) w w') jj wa → Old wa wb → (fun j w' => RdrV B g b (St j) w' ∧ Kept (Sgb g b) w w') jj wb := fun j _ _ h o => ⟨h.1.mono o, h.2.then (Kept.of_old o)⟩
    refine And.intro (Ssc.ask_free (by kernel_rfl) fun jj hjj => ⟨by kernel_rfl, Ssc.keep (Ssx.mv Old.refl rfl rfl (fun _ _ h => h)) hE (hDo jj)⟩) ?_
    refine And.intro (Ssc.ask_free (by kernel_rfl) fun jj hjj => ⟨by kernel_rfl, Ssc.keep (Ssx.val1 Old.refl (x := 3) (.pointer (some ⟨g, 0, none⟩)) (by simp [Op.operands]) rfl (fun _ _ h => h) (fun ρ h1 hc w => by unfold execOp; simp [h1, go_sem]) (fun _ => rfl)) hE (hDo jj)⟩) ?_
    refine And.intro (Ssc.ask_free (by kernel_rfl) fun jj hjj => ⟨by kernel_rfl, Ssc.keep (Ssx.val1 Old.refl (x := 4) (.pointer (some ⟨g, 0, none⟩)) (by simp [Op.operands]) rfl (fun _ _ h => h) (fun ρ h1 hc w => by unfold execOp; simp [h1, go_sem]) (fun _ => rfl)) hE (hDo jj)⟩) ?_
    refine And.intro (Ssc.ask_free (by kernel_rfl) fun jj hjj => ⟨by kernel_rfl, Ssc.keep (Ssy.cell Old.refl rfl rfl (⟨g, 0, none⟩) (.pointer (some ⟨b, 0, none⟩)) (fun _ _ h => h) (fun _ h => h.2) Try.underlying62 rfl (fun _ => rfl)) hE (hDo jj)⟩) ?_
    refine And.intro (Ssc.ask_link (by kernel_rfl) (by kernel_rfl) (by kernel_rfl) (Ssc.link (b := 0) rfl fun a' w' hC hD hop => ⟨69, #[.pointer (some ⟨b, 0, none⟩)], ?_, (T0 w' hD.1).mono fun _ _ ⟨e, kk, q⟩ => ⟨_, e, ⟨kk.row hC.1 HG.out, q.ptr⟩, kk, rfl, q, hD.2.then kk⟩⟩)) ?_
    · have h0 : a'.eval (.tmp 6) = .pointer (some ⟨b, 0, none⟩) := hop 6 (by simp [Op.operands, Call.operands])
      simp [Act.eval] at h0
      simp [h0, go_sem]
    refine And.intro (Ssc.ask_free (by kernel_rfl) fun jj hjj => ⟨by kernel_rfl, Ssc.keep (Ssx.mv Old.refl rfl rfl (fun _ _ h => h)) hE (hDo jj)⟩) ?_
    refine And.intro (Ssc.ask_free (by kernel_rfl) fun jj hjj => ⟨by kernel_rfl, Ssc.keep (Ssx.val1 Old.refl (x := 8) (.pointer (some ⟨g, 0, none⟩)) (by simp [Op.operands]) rfl (fun _ _ h => h) (fun ρ h1 hc w => by unfold execOp; simp [h1, go_sem]) (fun _ => rfl)) hE (hDo jj)⟩) ?_
    refine And.intro (Ssc.ask_free (by kernel_rfl) fun jj hjj => ⟨by kernel_rfl, Ssc.keep (Ssx.val1 Old.refl (x := 9) (.pointer (some ⟨g, 0, none⟩)) (by simp [Op.operands]) rfl (fun _ _ h => h) (fun ρ h1 hc w => by unfold execOp; simp [h1, go_sem]) (fun _ => rfl)) hE (hDo jj)⟩) ?_
    refine And.intro (Ssc.ask_free (by kernel_rfl) fun jj hjj => ⟨by kernel_rfl, Ssc.keep (Ssy.cell Old.refl rfl rfl (⟨g, 0, none⟩) (.pointer (some ⟨b, 0, none⟩)) (fun _ _ h => h) (fun _ h => h.2) Try.underlying62 rfl (fun _ => rfl)) hE (hDo jj)⟩) ?_
    refine And.intro (Ssc.ask_link (by kernel_rfl) (by kernel_rfl) (by kernel_rfl) (Ssc.link (b := 1) rfl fun a' w' hC hD hop => ⟨69, #[.pointer (some ⟨b, 0, none⟩)], ?_, (T1 w' hD.1).mono fun _ _ ⟨e, kk, q⟩ => ⟨_, e, ⟨kk.row hC.1 HG.out, q.ptr⟩, kk, rfl, q, hD.2.then kk⟩⟩)) ?_
    · have h0 : a'.eval (.tmp 11) = .pointer (some ⟨b, 0, none⟩) := hop 11 (by simp [Op.operands, Call.operands])
      simp [Act.eval] at h0
      simp [h0, go_sem]
    refine And.intro (Ssc.ask_free (by kernel_rfl) fun jj hjj => ⟨by kernel_rfl, Ssc.keep (Ssx.mv Old.refl rfl rfl (fun _ _ h => h)) hE (hDo jj)⟩) ?_
    refine And.intro (Ssc.ask_free (by kernel_rfl) fun jj hjj => ⟨by kernel_rfl, Ssc.keep (Ssx.val1 Old.refl (x := 13) (.pointer (some ⟨g, 0, none⟩)) (by simp [Op.operands]) rfl (fun _ _ h => h) (fun ρ h1 hc w => by unfold execOp; simp [h1, go_sem]) (fun _ => rfl)) hE (hDo jj)⟩) ?_
    refine And.intro (Ssc.ask_free (by kernel_rfl) fun jj hjj => ⟨by kernel_rfl, Ssc.keep (Ssx.val1 Old.refl (x := 14) (.pointer (some ⟨g, 0, none⟩)) (by simp [Op.operands]) rfl (fun _ _ h => h) (fun ρ h1 hc w => by unfold execOp; simp [h1, go_sem]) (fun _ => rfl)) hE (hDo jj)⟩) ?_
    refine And.intro (Ssc.ask_free (by kernel_rfl) fun jj hjj => ⟨by kernel_rfl, Ssc.keep (Ssy.cell Old.refl rfl rfl (⟨g, 0, none⟩) (.pointer (some ⟨b, 0, none⟩)) (fun _ _ h => h) (fun _ h => h.2) Try.underlying62 rfl (fun _ => rfl)) hE (hDo jj)⟩) ?_
    refine And.intro (Ssc.ask_link (by kernel_rfl) (by kernel_rfl) (by kernel_rfl) (Ssc.link (b := 2) rfl fun a' w' hC hD hop => ⟨69, #[.pointer (some ⟨b, 0, none⟩)], ?_, (T2 w' hD.1).mono fun _ _ ⟨e, kk, q⟩ => ⟨_, e, ⟨kk.row hC.1 HG.out, q.ptr⟩, kk, rfl, q, hD.2.then kk⟩⟩)) ?_
    · have h0 : a'.eval (.tmp 16) = .pointer (some ⟨b, 0, none⟩) := hop 16 (by simp [Op.operands, Call.operands])
      simp [Act.eval] at h0
      simp [h0, go_sem]
    refine And.intro (Ssc.ask_free (by kernel_rfl) fun jj hjj => ⟨by kernel_rfl, Ssc.keep (Ssx.mv Old.refl rfl rfl (fun _ _ h => h)) hE (hDo jj)⟩) ?_
    refine And.intro (Ssc.ask_free (by kernel_rfl) fun jj hjj => ⟨by kernel_rfl, Ssc.keep (Ssx.mv Old.refl rfl rfl (fun _ _ h => h)) hE (hDo jj)⟩) ?_
    refine And.intro (Ssc.ask_free (by kernel_rfl) fun jj hjj => ⟨by kernel_rfl, Ssc.keep (Ssx.val1 Old.refl (x := 19) (.pointer (some ⟨g, 0, none⟩)) (by simp [Op.operands]) rfl (fun _ _ h => h) (fun ρ h1 hc w => by unfold execOp; simp [h1, go_sem]) (fun _ => rfl)) hE (hDo jj)⟩) ?_
    refine And.intro (Ssc.ask_link (by kernel_rfl) (by kernel_rfl) (by kernel_rfl) (Ssc.link (b := 3) rfl fun a' w' hC hD hop => ⟨70, #[.pointer (some ⟨g, 0, none⟩), .int .i64 64, .func (.func 71) #[.pointer (some ⟨g, 0, none⟩)] #[]], ?_, (T3 w' hD.1 hC.1.lt).mono fun _ _ ⟨v, e, px, kk, q⟩ => ⟨_, e, ⟨kk.row hC.1 HG.out, q.ptr⟩, kk, px, q, hD.2.then kk⟩⟩)) ?_
    · have h0 : a'.eval (.tmp 18) = .pointer (some ⟨g, 0, none⟩) := hop 18 (by simp [Op.operands, Call.operands])
      have h1 : a'.eval (.tmp 20) = .func (.func 71) #[.pointer (some ⟨g, 0, none⟩)] #[] := hop 20 (by simp [Op.operands, Call.operands])
      simp [Act.eval] at h0 h1
      simp [h0, h1, go_sem]
    refine And.intro (Ssc.ask_free (by kernel_rfl) fun jj hjj => ⟨by kernel_rfl, Ssc.keep (Ssx.mv Old.refl rfl rfl (fun _ _ h => h)) hE (hDo jj)⟩) ?_
    refine And.intro (Ssc.ask_free (by kernel_rfl) fun jj hjj => ⟨by kernel_rfl, Ssc.keep (Ssx.mv Old.refl rfl rfl (fun _ _ h => h)) hE (hDo jj)⟩) ?_
    refine And.intro (Ssc.ask_free (by kernel_rfl) fun jj hjj => ⟨by kernel_rfl, Ssc.keep (Ssx.val1 Old.refl (x := 23) (.pointer (some ⟨g, 0, none⟩)) (by simp [Op.operands]) rfl (fun _ _ h => h) (fun ρ h1 hc w => by unfold execOp; simp [h1, go_sem]) (fun _ => rfl)) hE (hDo jj)⟩) ?_
    refine And.intro (Ssc.ask_link (by kernel_rfl) (by kernel_rfl) (by kernel_rfl) (Ssc.link (b := 4) rfl fun a' w' hC hD hop => ⟨72, #[.pointer (some ⟨g, 0, none⟩), .int .i64 64, .func (.func 73) #[.pointer (some ⟨g, 0, none⟩)] #[]], ?_, (T4 w' hD.1 hC.1.lt).mono fun _ _ ⟨v, e, px, kk, q⟩ => ⟨_, e, ⟨kk.row hC.1 HG.out, q.ptr⟩, kk, px, q, hD.2.then kk⟩⟩)) ?_
    · have h0 : a'.eval (.tmp 22) = .pointer (some ⟨g, 0, none⟩) := hop 22 (by simp [Op.operands, Call.operands])
      have h1 : a'.eval (.tmp 24) = .func (.func 73) #[.pointer (some ⟨g, 0, none⟩)] #[] := hop 24 (by simp [Op.operands, Call.operands])
      simp [Act.eval] at h0 h1
      simp [h0, h1, go_sem]
    refine And.intro (Ssc.ask_free (by kernel_rfl) fun jj hjj => ⟨by kernel_rfl, Ssc.keep (Ssx.mv Old.refl rfl rfl (fun _ _ h => h)) hE (hDo jj)⟩) ?_
    refine And.intro (Ssc.ask_free (by kernel_rfl) fun jj hjj => ⟨by kernel_rfl, Ssc.keep (Ssx.mv Old.refl rfl rfl (fun _ _ h => h)) hE (hDo jj)⟩) ?_
    refine And.intro (Ssc.ask_free (by kernel_rfl) fun jj hjj => ⟨by kernel_rfl, Ssc.keep (Ssx.val1 Old.refl (x := 27) (.pointer (some ⟨g, 0, none⟩)) (by simp [Op.operands]) rfl (fun _ _ h => h) (fun ρ h1 hc w => by unfold execOp; simp [h1, go_sem]) (fun _ => rfl)) hE (hDo jj)⟩) ?_
    refine And.intro (Ssc.ask_link (by kernel_rfl) (by kernel_rfl) (by kernel_rfl) (Ssc.link (b := 5) rfl fun a' w' hC hD hop => ⟨74, #[.pointer (some ⟨g, 0, none⟩), .int .i64 256, .func (.func 75) #[.pointer (some ⟨g, 0, none⟩)] #[]], ?_, (T5 w' hD.1 hC.1.lt).mono fun _ _ ⟨v, e, px, kk, q⟩ => ⟨_, e, ⟨kk.row hC.1 HG.out, q.ptr⟩, kk, px, q, hD.2.then kk⟩⟩)) ?_
    · have h0 : a'.eval (.tmp 26) = .pointer (some ⟨g, 0, none⟩) := hop 26 (by simp [Op.operands, Call.operands])
      have h1 : a'.eval (.tmp 28) = .func (.func 75) #[.pointer (some ⟨g, 0, none⟩)] #[] := hop 28 (by simp [Op.operands, Call.operands])
      simp [Act.eval] at h0 h1
      simp [h0, h1, go_sem]
    refine And.intro (Ssc.ask_free (by kernel_rfl) fun jj hjj => ⟨by kernel_rfl, Ssc.keep (Ssx.mv Old.refl rfl rfl (fun _ _ h => h)) hE (hDo jj)⟩) ?_
    refine And.intro (Ssc.ask_free (by kernel_rfl) fun jj hjj => ⟨by kernel_rfl, Ssc.keep (Ssx.mv Old.refl rfl rfl (fun _ _ h => h)) hE (hDo jj)⟩) ?_
    refine And.intro (Ssc.ask_free (by kernel_rfl) fun jj hjj => ⟨by kernel_rfl, Ssc.keep (Ssx.val1 Old.refl (x := 31) (.pointer (some ⟨g, 0, none⟩)) (by simp [Op.operands]) rfl (fun _ _ h => h) (fun ρ h1 hc w => by unfold execOp; simp [h1, go_sem]) (fun _ => rfl)) hE (hDo jj)⟩) ?_
    refine And.intro (Ssc.ask_free (by kernel_rfl) fun jj hjj => ⟨by kernel_rfl, Ssc.keep (Ssx.val1 Old.refl (x := 32) (.pointer (some ⟨g, 0, none⟩)) (by simp [Op.operands]) rfl (fun _ _ h => h) (fun ρ h1 hc w => by unfold execOp; simp [h1, go_sem]) (fun _ => rfl)) hE (hDo jj)⟩) ?_
    refine And.intro (Ssc.ask_free (by kernel_rfl) fun jj hjj => ⟨by kernel_rfl, Ssc.keep (Ssy.cell Old.refl rfl rfl (⟨g, 0, none⟩) (.pointer (some ⟨b, 0, none⟩)) (fun _ _ h => h) (fun _ h => h.2) Try.underlying62 rfl (fun _ => rfl)) hE (hDo jj)⟩) ?_
    refine And.intro (Ssc.ask_free (by kernel_rfl) fun jj hjj => ⟨by kernel_rfl, Ssc.keep (Ssx.val1 Old.refl (x := 34) (.pointer (some ⟨b, 0, none⟩)) (by simp [Op.operands]) rfl (fun _ _ h => h) (fun ρ h1 hc w => by unfold execOp; simp [h1, go_sem]) (fun _ => rfl)) hE (hDo jj)⟩) ?_
    refine And.intro (Ssc.ask_link (by kernel_rfl) (by kernel_rfl) (by kernel_rfl) (Ssc.link (b := 6) rfl fun a' w' hC hD hop => ⟨76, #[.pointer (some ⟨g, 0, none⟩), .int .i64 64, .func (.func 69) #[.pointer (some ⟨b, 0, none⟩)] #[]], ?_, (T6 w' hD.1 hC.1.lt).mono fun _ _ ⟨v, e, px, kk, q⟩ => ⟨_, e, ⟨kk.row hC.1 HG.out, q.ptr⟩, kk, px, q, hD.2.then kk⟩⟩)) ?_
    · have h0 : a'.eval (.tmp 30) = .pointer (some ⟨g, 0, none⟩) := hop 30 (by simp [Op.operands, Call.operands])
      have h1 : a'.eval (.tmp 35) = .func (.func 69) #[.pointer (some ⟨b, 0, none⟩)] #[] := hop 35 (by simp [Op.operands, Call.operands])
      simp [Act.eval] at h0 h1
      simp [h0, h1, go_sem]
    refine And.intro (Ssc.ask_free (by kernel_rfl) fun jj hjj => ⟨by kernel_rfl, Ssc.keep (Ssx.mv Old.refl rfl rfl (fun _ _ h => h)) hE (hDo jj)⟩) ?_
    refine And.intro (Ssc.ask_free (by kernel_rfl) fun jj hjj => ⟨by kernel_rfl, Ssc.keep (Ssx.mv Old.refl rfl rfl (fun _ _ h => h)) hE (hDo jj)⟩) ?_
    refine And.intro (Ssc.ask_free (by kernel_rfl) fun jj hjj => ⟨by kernel_rfl, Ssc.keep (Ssx.val1 Old.refl (x := 38) (.pointer (some ⟨g, 0, none⟩)) (by simp [Op.operands]) rfl (fun _ _ h => h) (fun ρ h1 hc w => by unfold execOp; simp [h1, go_sem]) (fun _ => rfl)) hE (hDo jj)⟩) ?_
    refine And.intro (Ssc.ask_link (by kernel_rfl) (by kernel_rfl) (by kernel_rfl) (Ssc.link (b := 7) rfl fun a' w' hC hD hop => ⟨77, #[.pointer (some ⟨g, 0, none⟩), .int .i64 64, .func (.func 78) #[.pointer (some ⟨g, 0, none⟩)] #[]], ?_, (T7 w' hD.1 hC.1.lt).mono fun _ _ ⟨v, e, px, kk, q⟩ => ⟨_, e, ⟨kk.row hC.1 HG.out, q.ptr⟩, kk, px, q, hD.2.then kk⟩⟩)) ?_
    · have h0 : a'.eval (.tmp 37) = .pointer (some ⟨g, 0, none⟩) := hop 37 (by simp [Op.operands, Call.operands])
      have h1 : a'.eval (.tmp 39) = .func (.func 78) #[.pointer (some ⟨g, 0, none⟩)] #[] := hop 39 (by simp [Op.operands, Call.operands])
      simp [Act.eval] at h0 h1
      simp [h0, h1, go_sem]
    exact trivial
  case behind =>
    intro vals wb hC hD hv
    have v3 : vals 3 = _ := hv _ (.head _)
    have v4 : vals 4 = _ := hv _ (.tail _ (.head _))
    have v5 : vals 5 = _ := hv _ (.tail _ (.tail _ (.head _)))
    have v6 : vals 6 = _ := hv _ (.tail _ (.tail _ (.tail _ (.head _))))
    have v7 : vals 7 = _ := hv _ (.tail _ (.tail _ (.tail _ (.tail _ (.head _)))))
    have v8 : vals 8 = _ := hv _ (.tail _ (.tail _ (.tail _ (.tail _ (.tail _ (.head _))))))
    have v9 : vals 9 = _ := hv _ (.tail _ (.tail _ (.tail _ (.tail _ (.tail _ (.tail _ (.head _)))))))
    have v10 : vals 10 = _ := hv _ (.tail _ (.tail _ (.tail _ (.tail _ (.tail _ (.tail _ (.tail _ (.head _))))))))
    have v11 : vals 11 = _ := hv _ (.tail _ (.tail _ (.tail _ (.tail _ (.tail _ (.tail _ (.tail _ (.tail _ (.head _)))))))))
    have v12 : vals 12 = _ := hv _ (.tail _ (.tail _ (.tail _ (.tail _ (.tail _ (.tail _ (.tail _ (.tail _ (.tail _ (.head _))))))))))
    have v13 : vals 13 = _ := hv _ (.tail _ (.tail _ (.tail _ (.tail _ (.tail _ (.tail _ (.tail _ (.tail _ (.tail _ (.tail _ (.head _)))))))))))
    have v14 : vals 14 = _ := hv _ (.tail _ (.tail _ (.tail _ (.tail _ (.tail _ (.tail _ (.tail _ (.tail _ (.tail _ (.tail _ (.tail _ (.head _))))))))))))
    have v15 : vals 15 = _ := hv _ (.tail _ (.tail _ (.tail _ (.tail _ (.tail _ (.tail _ (.tail _ (.tail _ (.tail _ (.tail _ (.tail _ (.tail _ (.head _)))))))))))))
    have v16 : vals 16 = _ := hv _ (.tail _ (.tail _ (.tail _ (.tail _ (.tail _ (.tail _ (.tail _ (.tail _ (.tail _ (.tail _ (.tail _ (.tail _ (.tail _ (.head _))))))))))))))
    have v17 : vals 17 = _ := hv _ (.tail _ (.tail _ (.tail _ (.tail _ (.tail _ (.tail _ (.tail _ (.tail _ (.tail _ (.tail _ (.tail _ (.tail _ (.tail _ (.tail _ (.head _)))))))))))))))
    have v18 : vals 18 = _ := hv _ (.tail _ (.tail _ (.tail _ (.tail _ (.tail _ (.tail _ (.tail _ (.tail _ (.tail _ (.tail _ (.tail _ (.tail _ (.tail _ (.tail _ (.tail _ (.head _))))))))))))))))
    have v19 : vals 19 = _ := hv _ (.tail _ (.tail _ (.tail _ (.tail _ (.tail _ (.tail _ (.tail _ (.tail _ (.tail _ (.tail _ (.tail _ (.tail _ (.tail _ (.tail _ (.tail _ (.tail _ (.head _)))))))))))))))))
    have v20 : vals 20 = _ := hv _ (.tail _ (.tail _ (.tail _ (.tail _ (.tail _ (.tail _ (.tail _ (.tail _ (.tail _ (.tail _ (.tail _ (.tail _ (.tail _ (.tail _ (.tail _ (.tail _ (.tail _ (.head _))))))))))))))))))
    have v21 := hv _ (.tail _ (.tail _ (.tail _ (.tail _ (.tail _ (.tail _ (.tail _ (.tail _ (.tail _ (.tail _ (.tail _ (.tail _ (.tail _ (.tail _ (.tail _ (.tail _ (.tail _ (.tail _ (.head _)))))))))))))))))))
    have v22 : vals 22 = _ := hv _ (.tail _ (.tail _ (.tail _ (.tail _ (.tail _ (.tail _ (.tail _ (.tail _ (.tail _ (.tail _ (.tail _ (.tail _ (.tail _ (.tail _ (.tail _ (.tail _ (.tail _ (.tail _ (.tail _ (.head _))))))))))))))))))))
    have v23 : vals 23 = _ := hv _ (.tail _ (.tail _ (.tail _ (.tail _ (.tail _ (.tail _ (.tail _ (.tail _ (.tail _ (.tail _ (.tail _ (.tail _ (.tail _ (.tail _ (.tail _ (.tail _ (.tail _ (.tail _ (.tail _ (.tail _ (.head _)))))))))))))))))))))
    have v24 : vals 24 = _ := hv _ (.tail _ (.tail _ (.tail _ (.tail _ (.tail _ (.tail _ (.tail _ (.tail _ (.tail _ (.tail _ (.tail _ (.tail _ (.tail _ (.tail _ (.tail _ (.tail _ (.tail _ (.tail _ (.tail _ (.tail _ (.tail _ (.head _))))))))))))))))))))))
    have v25 := hv _ (.tail _ (.tail _ (.tail _ (.tail _ (.tail _ (.tail _ (.tail _ (.tail _ (.tail _ (.tail _ (.tail _ (.tail _ (.tail _ (.tail _ (.tail _ (.tail _ (.tail _ (.tail _ (.tail _ (.tail _ (.tail _ (.tail _ (.head _)))))))))))))))))))))))
    have v26 : vals 26 = _ := hv _ (.tail _ (.tail _ (.tail _ (.tail _ (.tail _ (.tail _ (.tail _ (.tail _ (.tail _ (.tail _ (.tail _ (.tail _ (.tail _ (.tail _ (.tail _ (.tail _ (.tail _ (.tail _ (.tail _ (.tail _ (.tail _ (.tail _ (.tail _ (.head _))))))))))))))))))))))))
    have v27 : vals 27 = _ := hv _ (.tail _ (.tail _ (.tail _ (.tail _ (.tail _ (.tail _ (.tail _ (.tail _ (.tail _ (.tail _ (.tail _ (.tail _ (.tail _ (.tail _ (.tail _ (.tail _ (.tail _ (.tail _ (.tail _ (.tail _ (.tail _ (.tail _ (.tail _ (.tail _ (.head _)))))))))))))))))))))))))
    have v28 : vals 28 = _ := hv _ (.tail _ (.tail _ (.tail _ (.tail _ (.tail _ (.tail _ (.tail _ (.tail _ (.tail _ (.tail _ (.tail _ (.tail _ (.tail _ (.tail _ (.tail _ (.tail _ (.tail _ (.tail _ (.tail _ (.tail _ (.tail _ (.tail _ (.tail _ (.tail _ (.tail _ (.head _))))))))))))))))))))))))))
    have v29 := hv _ (.tail _ (.tail _ (.tail _ (.tail _ (.tail _ (.tail _ (.tail _ (.tail _ (.tail _ (.tail _ (.tail _ (.tail _ (.tail _ (.tail _ (.tail _ (.tail _ (.tail _ (.tail _ (.tail _ (.tail _ (.tail _ (.tail _ (.tail _ (.tail _ (.tail _ (.tail _ (.head _)))))))))))))))))))))))))))
    have v30 : vals 30 = _ := hv _ (.tail _ (.tail _ (.tail _ (.tail _ (.tail _ (.tail _ (.tail _ (.tail _ (.tail _ (.tail _ (.tail _ (.tail _ (.tail _ (.tail _ (.tail _ (.tail _ (.tail _ (.tail _ (.tail _ (.tail _ (.tail _ (.tail _ (.tail _ (.tail _ (.tail _ (.tail _ (.tail _ (.head _))))))))))))))))))))))))))))
    have v31 : vals 31 = _ := hv _ (.tail _ (.tail _ (.tail _ (.tail _ (.tail _ (.tail _ (.tail _ (.tail _ (.tail _ (.tail _ (.tail _ (.tail _ (.tail _ (.tail _ (.tail _ (.tail _ (.tail _ (.tail _ (.tail _ (.tail _ (.tail _ (.tail _ (.tail _ (.tail _ (.tail _ (.tail _ (.tail _ (.tail _ (.head _)))))))))))))))))))))))))))))
    have v32 : vals 32 = _ := hv _ (.tail _ (.tail _ (.tail _ (.tail _ (.tail _ (.tail _ (.tail _ (.tail _ (.tail _ (.tail _ (.tail _ (.tail _ (.tail _ (.tail _ (.tail _ (.tail _ (.tail _ (.tail _ (.tail _ (.tail _ (.tail _ (.tail _ (.tail _ (.tail _ (.tail _ (.tail _ (.tail _ (.tail _ (.tail _ (.head _))))))))))))))))))))))))))))))
    have v33 : vals 33 = _ := hv _ (.tail _ (.tail _ (.tail _ (.tail _ (.tail _ (.tail _ (.tail _ (.tail _ (.tail _ (.tail _ (.tail _ (.tail _ (.tail _ (.tail _ (.tail _ (.tail _ (.tail _ (.tail _ (.tail _ (.tail _ (.tail _ (.tail _ (.tail _ (.tail _ (.tail _ (.tail _ (.tail _ (.tail _ (.tail _ (.tail _ (.head _)))))))))))))))))))))))))))))))
    have v34 : vals 34 = _ := hv _ (.tail _ (.tail _ (.tail _ (.tail _ (.tail _ (.tail _ (.tail _ (.tail _ (.tail _ (.tail _ (.tail _ (.tail _ (.tail _ (.tail _ (.tail _ (.tail _ (.tail _ (.tail _ (.tail _ (.tail _ (.tail _ (.tail _ (.tail _ (.tail _ (.tail _ (.tail _ (.tail _ (.tail _ (.tail _ (.tail _ (.tail _ (.head _))))))))))))))))))))))))))))))))
    have v35 : vals 35 = _ := hv _ (.tail _ (.tail _ (.tail _ (.tail _ (.tail _ (.tail _ (.tail _ (.tail _ (.tail _ (.tail _ (.tail _ (.tail _ (.tail _ (.tail _ (.tail _ (.tail _ (.tail _ (.tail _ (.tail _ (.tail _ (.tail _ (.tail _ (.tail _ (.tail _ (.tail _ (.tail _ (.tail _ (.tail _ (.tail _ (.tail _ (.tail _ (.tail _ (.head _)))))))))))))))))))))))))))))))))
    have v36 := hv _ (.tail _ (.tail _ (.tail _ (.tail _ (.tail _ (.tail _ (.tail _ (.tail _ (.tail _ (.tail _ (.tail _ (.tail _ (.tail _ (.tail _ (.tail _ (.tail _ (.tail _ (.tail _ (.tail _ (.tail _ (.tail _ (.tail _ (.tail _ (.tail _ (.tail _ (.tail _ (.tail _ (.tail _ (.tail _ (.tail _ (.tail _ (.tail _ (.tail _ (.head _))))))))))))))))))))))))))))))))))
    have v37 : vals 37 = _ := hv _ (.tail _ (.tail _ (.tail _ (.tail _ (.tail _ (.tail _ (.tail _ (.tail _ (.tail _ (.tail _ (.tail _ (.tail _ (.tail _ (.tail _ (.tail _ (.tail _ (.tail _ (.tail _ (.tail _ (.tail _ (.tail _ (.tail _ (.tail _ (.tail _ (.tail _ (.tail _ (.tail _ (.tail _ (.tail _ (.tail _ (.tail _ (.tail _ (.tail _ (.tail _ (.head _)))))))))))))))))))))))))))))))))))
    have v38 : vals 38 = _ := hv _ (.tail _ (.tail _ (.tail _ (.tail _ (.tail _ (.tail _ (.tail _ (.tail _ (.tail _ (.tail _ (.tail _ (.tail _ (.tail _ (.tail _ (.tail _ (.tail _ (.tail _ (.tail _ (.tail _ (.tail _ (.tail _ (.tail _ (.tail _ (.tail _ (.tail _ (.tail _ (.tail _ (.tail _ (.tail _ (.tail _ (.tail _ (.tail _ (.tail _ (.tail _ (.tail _ (.head _))))))))))))))))))))))))))))))))))))
    have v39 : vals 39 = _ := hv _ (.tail _ (.tail _ (.tail _ (.tail _ (.tail _ (.tail _ (.tail _ (.tail _ (.tail _ (.tail _ (.tail _ (.tail _ (.tail _ (.tail _ (.tail _ (.tail _ (.tail _ (.tail _ (.tail _ (.tail _ (.tail _ (.tail _ (.tail _ (.tail _ (.tail _ (.tail _ (.tail _ (.tail _ (.tail _ (.tail _ (.tail _ (.tail _ (.tail _ (.tail _ (.tail _ (.tail _ (.head _)))))))))))))))))))))))))))))))))))))
    have v40 := hv _ (.tail _ (.tail _ (.tail _ (.tail _ (.tail _ (.tail _ (.tail _ (.tail _ (.tail _ (.tail _ (.tail _ (.tail _ (.tail _ (.tail _ (.tail _ (.tail _ (.tail _ (.tail _ (.tail _ (.tail _ (.tail _ (.tail _ (.tail _ (.tail _ (.tail _ (.tail _ (.tail _ (.tail _ (.tail _ (.tail _ (.tail _ (.tail _ (.tail _ (.tail _ (.tail _ (.tail _ (.tail _ (.head _))))))))))))))))))))))))))))))))))))))
    simp only [List.length_cons, List.length_nil, Nat.zero_add, Nat.reduceAdd, St8] at hD
    obtain ⟨a21, k21, e21, h21, r21⟩ := v21
    obtain ⟨a25, k25, pa, pc, e25, h25, r25, d25⟩ := v25
    obtain ⟨a29, k29, e29, h29, r29⟩ := v29
    obtain ⟨a36, k36, e36, h36, r36⟩ := v36
    obtain ⟨a40, k40, oa, oc, e40, h40, r40, d40⟩ := v40
    have HD := hide hD
    have HR := hide hC.1
    have WS : Hid (WordS (fun i => i < w.heap.size + 1) (S3 B g b) wb (rWord s).1 ⟨a21, k21, a25, k25, a29, k29, a36, k36, a40, k40, pa, pc, oa, oc⟩) := ⟨⟨h21, h25, h29, h36, h40⟩, r21, r25, d25, r29, r36, r40, d40⟩
    simp only [Ssa.putAll, List.map_cons, List.map_nil, List.foldl_cons, List.foldl_nil, List.setIfInBounds_toArray, List.set_cons_succ, List.set_cons_zero, v3, v4, v5, v6, v7, v8, v9, v10, v11, v12, v13, v14, v15, v16, v17, v18, v19, v20, v22, v23, v24, v26, v27, v28, v30, v31, v32, v33, v34, v35, v37, v38, v39, e21, e25, e29, e36, e40, List.drop_succ_cons, List.drop_zero]
    clear hC hD hv h21 r21 h25 r25 d25 h29 r29 h36 r36 h40 r40 d40 T0 T1 T2 T3 T4 T5 T6 T7 St0 St1 St2 St3 St4 St5 St6 St7 St8 CC DD v3 v4 v5 v6 v7 v8 v9 v10 v11 v12 v13 v14 v15 v16 v17 v18 v19 v20 v22 v23 v24 v26 v27 v28 v30 v31 v32 v33 v34 v35 v37 v38 v39 e21 e25 e29 e36 e40
    go_wp2_with (refine wp_store_whole rfl 29 _ _ rfl w.heap.size rfl [.int .i64 (rWho s).1, .int .i64 (rWho (s1 s)).1, .int .i64 (rWho (s2 s)).1, .slice a21 (rList 64 rCard (s3 s)).1.length k21, .slice a25 (rList 64 rParcel (s4 s)).1.length k25, .slice a29 (rList 256 rSm (s5 s)).1.length k29, .slice a36 (rList 64 rWho (s6 s)).1.length k36, .slice a40 (rList 64 rOpening (s7 s)).1.length k40] rfl HR.out infoWd8 rfl (by intro u hu; simp at hu; rcases hu with rfl | rfl | rfl | rfl | rfl | rfl | rfl | rfl <;> rfl) ?_; rintro w9 h9
                 have E9 : Hid (Row w9 w.heap.size 29 [.int .i64 (rWho s).1, .int .i64 (rWho (s1 s)).1, .int .i64 (rWho (s2 s)).1, .slice a21 (rList 64 rCard (s3 s)).1.length k21, .slice a25 (rList 64 rParcel (s4 s)).1.length k25, .slice a29 (rList 256 rSm (s5 s)).1.length k29, .slice a36 (rList 64 rWho (s6 s)).1.length k36, .slice a40 (rList 64 rOpening (s7 s)).1.length k40] ∧ Kept (fun i => i = w.heap.size) wb w9) := by subst h9; exact ⟨HR.out.whole _, Kept.of_grown (grown_setRow _ _ _) rfl⟩
                 clear h9 HR)
    have K9 : Kept (Sgb g b) w w9 := ⟨E9.out.2.os.trans HD.out.2.os, E9.out.2.tape.trans HD.out.2.tape, E9.out.2.output.trans HD.out.2.output, Nat.le_trans HD.out.2.size E9.out.2.size, fun i hi hn => (E9.out.2.block i (Nat.lt_of_lt_of_le hi HD.out.2.size) (by omega)).trans (HD.out.2.block i hi hn)⟩
    have R9 := HD.out.1.low (w' := w9) (fun k hk => E9.out.2.block k (Nat.lt_of_lt_of_le hk HD.out.1.size) (by have := H0.out.size; omega)) E9.out.2.size
    have W9 := WS.out.kept E9.out.2 (fun i hi => by omega) (fun i hi => .inr (.inr (by have := H0.out.size; omega)))
    exact bodyPost_ret (v := .agg #[.int .i64 (rWho s).1, .int .i64 (rWho (s1 s)).1, .int .i64 (rWho (s2 s)).1, .slice a21 (rList 64 rCard (s3 s)).1.length k21, .slice a25 (rList 64 rParcel (s4 s)).1.length k25, .slice a29 (rList 256 rSm (s5 s)).1.length k29, .slice a36 (rList 64 rWho (s6 s)).1.length k36, .slice a40 (rList 64 rOpening (s7 s)).1.length k40]) (results_whole rfl rfl E9.out.1 Try.underlying29 rfl infoWd8) rfl ⟨_, rfl, W9, K9, R9⟩

end Go.Proofs.Ytepchjpdfmleoaa
