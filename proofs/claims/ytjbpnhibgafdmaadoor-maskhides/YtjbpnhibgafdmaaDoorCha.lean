/-
  ChaCha20 over natural numbers, in plain words: quarter rounds, the state, a block, bytes under a stream; that a quarter round can be turned back.
-/
import Derived.Laws.BitsAllLaws
namespace Go.Proofs.YtjbpnhibgafdmaaDoor
set_option linter.unusedVariables false
namespace Cha

def add (a b : Nat) : Nat := (a + b) % 4294967296
def rot (n x : Nat) : Nat := x * 2 ^ n % 4294967296 + x / 2 ^ (32 - n)

theorem add_lt (a b : Nat) : add a b < 4294967296 := Nat.mod_lt _ (by omega)
theorem xor_lt {a b : Nat} (ha : a < 4294967296) (hb : b < 4294967296) : a ^^^ b < 4294967296 := Nat.xor_lt_two_pow (n := 32) ha hb
theorem xor8_lt {a b : Nat} (ha : a < 256) (hb : b < 256) : a ^^^ b < 256 := Nat.xor_lt_two_pow (n := 8) ha hb

theorem rot16_lt {x : Nat} (h : x < 4294967296) : rot 16 x < 4294967296 := by simp only [rot]; omega
theorem rot12_lt {x : Nat} (h : x < 4294967296) : rot 12 x < 4294967296 := by simp only [rot]; omega
theorem rot8_lt {x : Nat} (h : x < 4294967296) : rot 8 x < 4294967296 := by simp only [rot]; omega
theorem rot7_lt {x : Nat} (h : x < 4294967296) : rot 7 x < 4294967296 := by simp only [rot]; omega

theorem rot_or (n x : Nat) (hn : n ≤ 32) (h : x < 4294967296) : (x * 2 ^ n % 4294967296) ||| (x / 2 ^ (32 - n)) = rot n x := by
  unfold rot
  refine nat_join n _ _ ?_ ?_
  · have e : (4294967296 : Nat) = 2 ^ n * 2 ^ (32 - n) := by
      rw [← Nat.pow_add, show n + (32 - n) = 32 by omega]
    rw [e, Nat.mul_comm x, Nat.mul_mod_mul_left, Nat.mul_mod_right]
  · have e : (4294967296 : Nat) = 2 ^ n * 2 ^ (32 - n) := by
      rw [← Nat.pow_add, show n + (32 - n) = 32 by omega]
    rw [Nat.div_lt_iff_lt_mul (Nat.two_pow_pos _), ← e]
    exact h

/-- A quarter round's four numbers. -/
structure Four where
  a : Nat
  b : Nat
  c : Nat
  d : Nat

def a1 (a b : Nat) : Nat := add a b
def d1 (a b d : Nat) : Nat := rot 16 (d ^^^ a1 a b)
def c1 (a b c d : Nat) : Nat := add c (d1 a b d)
def b1 (a b c d : Nat) : Nat := rot 12 (b ^^^ c1 a b c d)
def qA (a b c d : Nat) : Nat := add (a1 a b) (b1 a b c d)
def qD (a b c d : Nat) : Nat := rot 8 (d1 a b d ^^^ qA a b c d)
def qC (a b c d : Nat) : Nat := add (c1 a b c d) (qD a b c d)
def qB (a b c d : Nat) : Nat := rot 7 (b1 a b c d ^^^ qC a b c d)

theorem a1_lt (a b : Nat) : a1 a b < 4294967296 := add_lt _ _
theorem d1_lt {a b d : Nat} (hd : d < 4294967296) : d1 a b d < 4294967296 := rot16_lt (xor_lt hd (a1_lt _ _))
theorem c1_lt (a b c d : Nat) : c1 a b c d < 4294967296 := add_lt _ _
theorem b1_lt {a b c d : Nat} (hb : b < 4294967296) : b1 a b c d < 4294967296 := rot12_lt (xor_lt hb (c1_lt _ _ _ _))
theorem qA_lt (a b c d : Nat) : qA a b c d < 4294967296 := add_lt _ _
theorem qD_lt {a b c d : Nat} (hd : d < 4294967296) : qD a b c d < 4294967296 := rot8_lt (xor_lt (d1_lt hd) (qA_lt _ _ _ _))
theorem qC_lt (a b c d : Nat) : qC a b c d < 4294967296 := add_lt _ _
theorem qB_lt {a b c d : Nat} (hb : b < 4294967296) : qB a b c d < 4294967296 := rot7_lt (xor_lt (b1_lt hb) (qC_lt _ _ _ _))

/-- Turned to the right. -/
def ror (n x : Nat) : Nat := x / 2 ^ n + x * 2 ^ (32 - n) % 4294967296
theorem ror_or (n x : Nat) (hn : n ≤ 32) (h : x < 4294967296) : (x / 2 ^ n) ||| (x * 2 ^ (32 - n) % 4294967296) = ror n x := by
  have := rot_or (32 - n) x (by omega) h
  rw [show 32 - (32 - n) = n by omega] at this
  unfold rot at this
  rw [show 32 - (32 - n) = n by omega] at this
  rw [Nat.or_comm, this, ror, Nat.add_comm]
theorem ror_rot (n x : Nat) (hn : n ≤ 32) (h : x < 4294967296) : ror n (rot n x) = x := by
  have e : (4294967296 : Nat) = 2 ^ n * 2 ^ (32 - n) := by
    rw [← Nat.pow_add, show n + (32 - n) = 32 by omega]
  unfold ror rot
  rw [e] at h ⊢
  have hM : 0 < 2 ^ n := Nat.two_pow_pos _
  have hN : 0 < 2 ^ (32 - n) := Nat.two_pow_pos _
  generalize 2 ^ n = m at *
  generalize 2 ^ (32 - n) = k at *
  have hh : x / k < m := by rw [Nat.div_lt_iff_lt_mul hN]; exact h
  have hx := Nat.div_add_mod x k
  rw [Nat.mul_comm x m, Nat.mul_mod_mul_left]
  generalize x / k = u at *
  generalize x % k = v at *
  rw [Nat.mul_add_div hM, Nat.div_eq_of_lt hh, Nat.mul_mod_mul_right, Nat.mul_add_mod, Nat.mod_eq_of_lt hh, Nat.mul_comm u k]
  omega
theorem ror7 {x : Nat} (h : x < 4294967296) : ror 7 (rot 7 x) = x := ror_rot 7 x (by omega) h
theorem ror8 {x : Nat} (h : x < 4294967296) : ror 8 (rot 8 x) = x := ror_rot 8 x (by omega) h
theorem ror12 {x : Nat} (h : x < 4294967296) : ror 12 (rot 12 x) = x := ror_rot 12 x (by omega) h
theorem ror16 {x : Nat} (h : x < 4294967296) : ror 16 (rot 16 x) = x := ror_rot 16 x (by omega) h
theorem xor_back (x y : Nat) : (x ^^^ y) ^^^ y = x := by rw [Nat.xor_assoc, Nat.xor_self, Nat.xor_zero]
theorem add_back {x y : Nat} (hx : x < 4294967296) (hy : y < 4294967296) : (add x y + 4294967296 - y) % 4294967296 = x := by unfold add; omega

/-- The state. -/
def at_ (s : List Nat) (i : Nat) : Nat := s.getD i 0
def quart (s : List Nat) (a b c d : Nat) : List Nat :=
  (((s.set a (qA (at_ s a) (at_ s b) (at_ s c) (at_ s d))).set b (qB (at_ s a) (at_ s b) (at_ s c) (at_ s d))).set c (qC (at_ s a) (at_ s b) (at_ s c) (at_ s d))).set d (qD (at_ s a) (at_ s b) (at_ s c) (at_ s d))
theorem quart_length (s : List Nat) (a b c d : Nat) : (quart s a b c d).length = s.length := by simp [quart]
theorem at_lt {s : List Nat} (h : ∀ x ∈ s, x < 4294967296) (i : Nat) : at_ s i < 4294967296 := by
  unfold at_
  by_cases hi : i < s.length
  · simp [hi]; exact h _ (List.getElem_mem hi)
  · simp [List.getElem?_eq_none (Nat.le_of_not_lt hi)]
theorem mem_set_lt {s : List Nat} (h : ∀ x ∈ s, x < 4294967296) {i v : Nat} (hv : v < 4294967296) : ∀ x ∈ s.set i v, x < 4294967296 := by
  intro x hx
  rcases List.mem_or_eq_of_mem_set hx with h' | rfl
  · exact h x h'
  · exact hv
theorem quart_lt {s : List Nat} (h : ∀ x ∈ s, x < 4294967296) (a b c d : Nat) : ∀ x ∈ quart s a b c d, x < 4294967296 :=
  mem_set_lt (mem_set_lt (mem_set_lt (mem_set_lt h (qA_lt _ _ _ _)) (qB_lt (at_lt h _))) (qC_lt _ _ _ _)) (qD_lt (at_lt h _))

/-- The places of a double round. -/
def places : List (Nat × Nat × Nat × Nat) := [(0, 4, 8, 12), (1, 5, 9, 13), (2, 6, 10, 14), (3, 7, 11, 15), (0, 5, 10, 15), (1, 6, 11, 12), (2, 7, 8, 13), (3, 4, 9, 14)]
def rounds (ps : List (Nat × Nat × Nat × Nat)) (s : List Nat) : List Nat := ps.foldl (fun s p => quart s p.1 p.2.1 p.2.2.1 p.2.2.2) s
def double (s : List Nat) : List Nat := rounds places s
theorem rounds_length : ∀ (ps : List (Nat × Nat × Nat × Nat)) (s : List Nat), (rounds ps s).length = s.length
  | [], _ => rfl
  | p :: ps, s => by
    show (rounds ps (quart s p.1 p.2.1 p.2.2.1 p.2.2.2)).length = _
    rw [rounds_length, quart_length]
theorem rounds_lt : ∀ (ps : List (Nat × Nat × Nat × Nat)) {s : List Nat}, (∀ x ∈ s, x < 4294967296) → ∀ x ∈ rounds ps s, x < 4294967296
  | [], _, h => h
  | p :: ps, s, h => rounds_lt ps (quart_lt h _ _ _ _)
theorem rounds_take (k : Nat) (s : List Nat) {p : Nat × Nat × Nat × Nat} (h : places[k]? = some p) : rounds (places.take (k + 1)) s = quart (rounds (places.take k) s) p.1 p.2.1 p.2.2.1 p.2.2.2 := by
  unfold rounds
  rw [List.take_add_one, h]
  simp
def doubles : Nat → List Nat → List Nat
  | 0, s => s
  | n + 1, s => double (doubles n s)
theorem doubles_length : ∀ (n : Nat) (s : List Nat), (doubles n s).length = s.length
  | 0, _ => rfl
  | n + 1, s => by rw [doubles, double, rounds_length, doubles_length]
theorem doubles_lt : ∀ (n : Nat) {s : List Nat}, (∀ x ∈ s, x < 4294967296) → ∀ x ∈ doubles n s, x < 4294967296
  | 0, _, h => h
  | n + 1, s, h => by
    have := rounds_lt places (doubles_lt n h)
    rw [doubles, double]
    exact this

/-- Four bytes as a number, the lowest first. -/
def le (b : List Nat) (i : Nat) : Nat := at_ b i + at_ b (i + 1) * 256 + at_ b (i + 2) * 65536 + at_ b (i + 3) * 16777216
def byte (s : List Nat) (i : Nat) : Nat := at_ s (i / 4) / 2 ^ (8 * (i % 4)) % 256
def bytes (s : List Nat) : List Nat := (List.range 64).map (byte s)
def first (key : List Nat) (n : Nat) (nonce : List Nat) : List Nat :=
  [1634760805, 857760878, 2036477234, 1797285236, le key 0, le key 4, le key 8, le key 12, le key 16, le key 20, le key 24, le key 28, n, le nonce 0, le nonce 4, le nonce 8]
def block (key : List Nat) (n : Nat) (nonce : List Nat) : List Nat := bytes (List.zipWith add (doubles 10 (first key n nonce)) (first key n nonce))
def xor (key : List Nat) (n : Nat) (nonce b : List Nat) : List Nat := (List.range b.length).map fun i => at_ b i ^^^ at_ (block key (add n (i / 64)) nonce) (i % 64)

theorem bytes_length (s : List Nat) : (bytes s).length = 64 := by simp [bytes]
theorem block_length (key : List Nat) (n : Nat) (nonce : List Nat) : (block key n nonce).length = 64 := bytes_length _
theorem bytes_lt (s : List Nat) : ∀ x ∈ bytes s, x < 256 := by
  intro x hx
  obtain ⟨i, _, rfl⟩ := List.mem_map.1 hx
  exact Nat.mod_lt _ (by omega)
theorem block_lt (key : List Nat) (n : Nat) (nonce : List Nat) : ∀ x ∈ block key n nonce, x < 256 := bytes_lt _
theorem first_length (key : List Nat) (n : Nat) (nonce : List Nat) : (first key n nonce).length = 16 := rfl
theorem at8_lt {b : List Nat} (h : ∀ x ∈ b, x < 256) (i : Nat) : at_ b i < 256 := by
  unfold at_
  by_cases hi : i < b.length
  · simp [hi]; exact h _ (List.getElem_mem hi)
  · simp [List.getElem?_eq_none (Nat.le_of_not_lt hi)]
theorem le_lt {b : List Nat} (h : ∀ x ∈ b, x < 256) (i : Nat) : le b i < 4294967296 := by
  have h0 := at8_lt h i
  have h1 := at8_lt h (i + 1)
  have h2 := at8_lt h (i + 2)
  have h3 := at8_lt h (i + 3)
  unfold le; omega
theorem first_lt {key nonce : List Nat} {n : Nat} (hk : ∀ x ∈ key, x < 256) (hn : n < 4294967296) (ho : ∀ x ∈ nonce, x < 256) : ∀ x ∈ first key n nonce, x < 4294967296 := by
  intro x hx
  simp only [first, List.mem_cons, List.not_mem_nil, or_false] at hx
  rcases hx with rfl | rfl | rfl | rfl | rfl | rfl | rfl | rfl | rfl | rfl | rfl | rfl | rfl | rfl | rfl | rfl <;> first | omega | exact le_lt hk _ | exact le_lt ho _
end Cha
end Go.Proofs.YtjbpnhibgafdmaaDoor
