/-
  Plain lists of numbers: sums and differences place by place, as a loop makes them.
-/
namespace Go.Proofs.YtjbpnhibgafdmaaDoor.Vec

def add32 (x y : Nat) : Nat := (x + y) % 4294967296
def sub32 (x y : Nat) : Nat := (x + 4294967296 - y) % 4294967296
theorem add32_lt (x y : Nat) : add32 x y < 4294967296 := Nat.mod_lt _ (by decide)
theorem sub32_lt (x y : Nat) : sub32 x y < 4294967296 := Nat.mod_lt _ (by decide)

/-- The first k places worked on, the others as they were. -/
def vpart (f : Nat → Nat → Nat) (k : Nat) (xs ys : List Nat) : List Nat := List.zipWith f (xs.take k) (ys.take k) ++ xs.drop k

theorem vpart_zero (f : Nat → Nat → Nat) (xs ys : List Nat) : vpart f 0 xs ys = xs := by simp [vpart]
theorem vpart_all (f : Nat → Nat → Nat) (n : Nat) (xs ys : List Nat) (hx : xs.length = n) (hy : ys.length = n) : vpart f n xs ys = List.zipWith f xs ys := by
  rw [vpart, List.take_of_length_le (by omega), List.take_of_length_le (by omega), List.drop_eq_nil_of_le (by omega), List.append_nil]
theorem vpart_length (f : Nat → Nat → Nat) (k : Nat) (xs ys : List Nat) (h : xs.length = ys.length) : (vpart f k xs ys).length = xs.length := by
  simp [vpart]; omega
theorem vpart_get (f : Nat → Nat → Nat) (k : Nat) (xs ys : List Nat) (h : xs.length = ys.length) (hk : k < xs.length) : (vpart f k xs ys)[k]? = xs[k]? := by
  rw [vpart, List.getElem?_append_right (by simp; omega)]
  simp only [List.length_zipWith, List.length_take, List.getElem?_drop]
  congr 1
  omega
theorem vpart_step (f : Nat → Nat → Nat) (k : Nat) (xs ys : List Nat) (h : xs.length = ys.length) (x y : Nat) (hx : xs[k]? = some x) (hy : ys[k]? = some y) :
    (vpart f k xs ys).set k (f x y) = vpart f (k + 1) xs ys := by
  have hk := (List.getElem?_eq_some_iff.1 hx).1
  have hk' := (List.getElem?_eq_some_iff.1 hy).1
  have hl : (List.zipWith f (xs.take k) (ys.take k)).length = k := by simp; omega
  have e1 : xs.drop k = x :: xs.drop (k + 1) := by
    rw [List.drop_eq_getElem_cons hk]
    rw [List.getElem?_eq_getElem hk] at hx
    simp at hx
    rw [hx]
  rw [vpart, vpart, List.set_append, if_neg (by omega), hl, Nat.sub_self, e1, List.set_cons_zero]
  rw [List.take_succ_eq_append_getElem hk, List.take_succ_eq_append_getElem hk']
  rw [List.getElem?_eq_getElem hk] at hx
  rw [List.getElem?_eq_getElem hk'] at hy
  simp at hx hy
  rw [hx, hy, List.zipWith_append (by simp; omega)]
  simp

theorem zip_lt (f : Nat → Nat → Nat) (hf : ∀ x y, f x y < 4294967296) (xs ys : List Nat) : ∀ z ∈ List.zipWith f xs ys, z < 4294967296 := by
  intro z hz
  obtain ⟨i, hi, rfl⟩ := List.getElem_of_mem hz
  simp
  exact hf _ _

theorem add_neg (x : Nat) (h : x < 4294967296) : add32 x (sub32 0 x) = 0 := by unfold add32 sub32; omega
theorem neg_neg (x : Nat) (h : x < 4294967296) : sub32 0 (sub32 0 x) = x := by unfold sub32; omega
theorem add_sub (x y : Nat) (h : x < 4294967296) (k : y < 4294967296) : sub32 (add32 x y) y = x := by unfold add32 sub32; omega

def negv (xs : List Nat) : List Nat := List.zipWith sub32 (List.replicate xs.length 0) xs
theorem negv_eq (xs : List Nat) : negv xs = xs.map (sub32 0) := by
  unfold negv
  induction xs with
  | nil => rfl
  | cons x r ih => simp only [List.length_cons, List.replicate_succ, List.zipWith_cons_cons, List.map_cons, ih]
theorem negv_of (n : Nat) (xs : List Nat) (h : xs.length = n) : List.zipWith sub32 (List.replicate n 0) xs = negv xs := by subst h; rfl
theorem negv_length (xs : List Nat) : (negv xs).length = xs.length := by rw [negv_eq]; simp
theorem negv_lt (xs : List Nat) : ∀ x ∈ negv xs, x < 4294967296 := zip_lt sub32 sub32_lt _ _
theorem negv_negv (xs : List Nat) (h : ∀ x ∈ xs, x < 4294967296) : negv (negv xs) = xs := by
  rw [negv_eq, negv_eq, List.map_map]
  refine (List.map_congr_left fun x hx => ?_).trans (List.map_id xs)
  exact neg_neg x (h x hx)
theorem add_negv (xs : List Nat) (h : ∀ x ∈ xs, x < 4294967296) : List.zipWith add32 xs (negv xs) = List.replicate xs.length 0 := by
  rw [negv_eq]
  induction xs with
  | nil => rfl
  | cons x r ih =>
    simp only [List.map_cons, List.zipWith_cons_cons, List.length_cons, List.replicate_succ]
    rw [ih (fun y hy => h y (by simp [hy])), add_neg x (h x (by simp))]
theorem add_subv : ∀ (xs ys : List Nat), xs.length = ys.length → (∀ x ∈ xs, x < 4294967296) → (∀ y ∈ ys, y < 4294967296) → List.zipWith sub32 (List.zipWith add32 xs ys) ys = xs
  | [], [], _, _, _ => rfl
  | x :: r, y :: s, h, hx, hy => by
    simp only [List.zipWith_cons_cons]
    rw [add_sub x y (hx x (by simp)) (hy y (by simp)), add_subv r s (by simpa using h) (fun z hz => hx z (by simp [hz])) (fun z hz => hy z (by simp [hz]))]

def sumv (n : Nat) (xss : List (List Nat)) : List Nat := xss.foldl (List.zipWith add32) (List.replicate n 0)
theorem sumv_length (n : Nat) : ∀ (xss : List (List Nat)), (∀ xs ∈ xss, xs.length = n) → (sumv n xss).length = n := by
  have key : ∀ (xss : List (List Nat)) (z : List Nat), z.length = n → (∀ xs ∈ xss, xs.length = n) → (xss.foldl (List.zipWith add32) z).length = n := by
    intro xss
    induction xss with
    | nil => intro z hz _; exact hz
    | cons x r ih => intro z hz h; exact ih _ (by have := h x (by simp); simp; omega) (fun y hy => h y (by simp [hy]))
  exact fun xss h => key xss _ (by simp) h
/-- The sum of column i, without going round. -/
def col (xss : List (List Nat)) (i : Nat) : Nat := (xss.map fun xs => xs.getD i 0).sum
theorem col_snoc (xss : List (List Nat)) (xs : List Nat) (i : Nat) : col (xss ++ [xs]) i = col xss i + xs.getD i 0 := by simp [col]
theorem sumv_get (n i : Nat) (hi : i < n) : ∀ (xss : List (List Nat)), (∀ xs ∈ xss, xs.length = n) → (sumv n xss)[i]? = some (col xss i % 4294967296) := by
  have key : ∀ (xss : List (List Nat)) (z : List Nat) (c : Nat), z[i]? = some (c % 4294967296) → (∀ xs ∈ xss, xs.length = n) → (xss.foldl (List.zipWith add32) z)[i]? = some ((c + col xss i) % 4294967296) := by
    intro xss
    induction xss with
    | nil => intro z c hz _; simpa [col] using hz
    | cons x r ih =>
      intro z c hz h
      have hx : i < x.length := by rw [h x (by simp)]; exact hi
      have := ih (List.zipWith add32 z x) (c + x.getD i 0) (by
        rw [List.getElem?_zipWith, hz, List.getElem?_eq_getElem hx]
        simp [add32, hx]) (fun y hy => h y (by simp [hy]))
      rw [List.foldl_cons, this]
      simp [col, Nat.add_assoc]
  intro xss h
  have := key xss (List.replicate n 0) 0 (by simp [hi]) h
  simpa [sumv] using this
theorem col_le (xss : List (List Nat)) (i : Nat) (h : ∀ xs ∈ xss, ∀ x ∈ xs, x < 4294967296) : col xss i ≤ xss.length * 4294967295 := by
  induction xss with
  | nil => simp [col]
  | cons x r ih =>
    have h1 := ih (fun y hy => h y (by simp [hy]))
    have h2 : x.getD i 0 ≤ 4294967295 := by
      by_cases hi : i < x.length
      · have := h x (by simp) x[i] (List.getElem_mem hi)
        simp [hi]; omega
      · simp [hi]
    simp only [col, List.map_cons, List.sum_cons, List.length_cons] at *
    omega
theorem sumv_ext (n : Nat) (xss yss : List (List Nat)) (hx : ∀ xs ∈ xss, xs.length = n) (hy : ∀ xs ∈ yss, xs.length = n) (h : ∀ i, i < n → col xss i = col yss i) : sumv n xss = sumv n yss := by
  apply List.ext_getElem?
  intro i
  by_cases hi : i < n
  · rw [sumv_get n i hi xss hx, sumv_get n i hi yss hy, h i hi]
  · rw [List.getElem?_eq_none (by rw [sumv_length n xss hx]; omega), List.getElem?_eq_none (by rw [sumv_length n yss hy]; omega)]
theorem sumv_turn (n : Nat) (xs ys zs : List Nat) (hx : xs.length = n) (hy : ys.length = n) (hz : zs.length = n) : sumv n [xs, ys, zs] = sumv n [zs, xs, ys] := by
  apply sumv_ext
  · simp [hx, hy, hz]
  · simp [hx, hy, hz]
  · intro i _; simp [col]; omega
theorem zero_addv : ∀ (xs : List Nat), (∀ x ∈ xs, x < 4294967296) → List.zipWith add32 (List.replicate xs.length 0) xs = xs
  | [], _ => rfl
  | x :: r, h => by
    simp only [List.length_cons, List.replicate_succ, List.zipWith_cons_cons]
    rw [zero_addv r (fun y hy => h y (by simp [hy]))]
    congr 1
    have := h x (by simp)
    unfold add32; omega
theorem sumv_three (n : Nat) (xs ys zs : List Nat) (hx : xs.length = n) (hb : ∀ x ∈ xs, x < 4294967296) : sumv n [xs, ys, zs] = List.zipWith add32 (List.zipWith add32 xs ys) zs := by
  subst hx
  simp only [sumv, List.foldl_cons, List.foldl_nil, zero_addv xs hb]
end Go.Proofs.YtjbpnhibgafdmaaDoor.Vec
