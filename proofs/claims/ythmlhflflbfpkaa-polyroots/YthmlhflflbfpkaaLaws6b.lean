/-
  The walk of PolyBack: a polynomial is found again by its points, if layer 6's calls are what they owe.
-/
import Derived.Test.YthmlhflflbfpkaaLaws6t
namespace Go.Proofs.Ythmlhflflbfpkaa
open Go.RowKit M Pm
set_option linter.unusedVariables false

theorem map_F_inj : ∀ a b : List Nat, (∀ x ∈ a, x < 2305843009213693951) → (∀ x ∈ b, x < 2305843009213693951) → a.map F = b.map F → a = b
  | [], [], _, _, _ => rfl
  | [], _ :: _, _, _, h => by simp at h
  | _ :: _, [], _, _, h => by simp at h
  | c :: r, d :: s, ha, hb, h => by
    simp only [List.map_cons, List.cons.injEq] at h
    rw [F_inj (ha c (by simp)) (hb d (by simp)) h.1, map_F_inj r s (fun x hx => ha x (by simp [hx])) (fun x hx => hb x (by simp [hx])) h.2]

/-- The points of a polynomial at 1, 2 and so on. -/
def ptsTo (c : List Nat) (k : Nat) : List Pt := (List.range k).map fun (j : Nat) => (((j + 1 : Nat) : Int), evN c (j + 1))
theorem ptsTo_length (c : List Nat) (k : Nat) : (ptsTo c k).length = k := by simp [ptsTo]
theorem ptsTo_step (c : List Nat) (k : Nat) : ptsTo c (k + 1) = ptsTo c k ++ [(((k + 1 : Nat) : Int), evN c (k + 1))] := by
  simp [ptsTo, List.range_succ]
theorem ptsTo_get (c : List Nat) {k j : Nat} (h : j < k) : (ptsTo c k)[j]? = some (((j + 1 : Nat) : Int), evN c (j + 1)) := by
  simp [ptsTo, h]
theorem anyTwice_of {ps : List Pt} : ∀ {n : Nat}, (∀ i j, i < n → j < n → i ≠ j → at1 ps i ≠ at1 ps j) → anyTwice ps n = false
  | 0, _ => rfl
  | n + 1, h => by
    rw [anyTwice, anyTwice_of (fun i j hi hj => h i j (by omega) (by omega))]
    have key : ∀ k, k ≤ n → twice ps n k = false := by
      intro k
      induction k with
      | zero => intro _; rfl
      | succ k ih =>
        intro hk
        rw [twice, ih (by omega)]
        have := h n k (by omega) (by omega) (by omega)
        simpa using this
    rw [key n (Nat.le_refl _)]; rfl
theorem anyWide_of {ps : List Pt} : ∀ {n : Nat}, (∀ i, i < n → 1 ≤ at1 ps i ∧ at1 ps i ≤ 64 ∧ at2 ps i < 2305843009213693951) → anyWide ps n = false
  | 0, _ => rfl
  | n + 1, h => by
    rw [anyWide, anyWide_of (fun i hi => h i (by omega))]
    have := h n (by omega)
    simp [wide]
    omega
theorem ptsTo_err (c : List Nat) {k : Nat} (h1 : 1 ≤ k) (h2 : k ≤ 64) : errOf (ptsTo c k) = 0 := by
  unfold errOf
  rw [ptsTo_length, if_neg (by omega), anyTwice_of, anyWide_of]
  · rfl
  · intro i hi
    obtain ⟨e1, e2⟩ := at_of (ptsTo_get c hi)
    rw [e1, e2]
    exact ⟨by omega, by omega, evN_lt _ _⟩
  · intro i j hi hj hij
    rw [(at_of (ptsTo_get c hi)).1, (at_of (ptsTo_get c hj)).1]
    omega
theorem ptsTo_none (c : List Nat) : errOf (ptsTo c 0) = 1 := rfl
/-- What goes through as many points as it has numbers, or more, is what was there. -/
theorem back_same {c s t : List Nat} {n k m : Nat} (hn : 1 ≤ n) (h64 : n ≤ 64) (hc : c.length ≤ n) (sl : s.length ≤ n) (slt : ∀ y ∈ s, y < 2305843009213693951) (sti : Tight (s.map F))
    (sev : ∀ j, j < n → ev (s.map F) (ptX (ptsTo c n) j) = ptY (ptsTo c n) j) (T : PolyOf t k m (fun x => ev (c.map F) x + ev (([] : List Nat).map F) x)) (hm : m ≤ n) : s = t := by
  refine map_F_inj s t slt T.lt ?_
  have S := sound_of (ptsTo_err c hn h64)
  have hnd : ((List.range n).map (ptX (ptsTo c n))).Nodup := by
    rw [List.nodup_iff_pairwise_ne, List.pairwise_map]
    refine List.Pairwise.imp_of_mem ?_ (List.nodup_range (n := n))
    intro a b ha hb hne
    exact apart_X S a b (by rw [ptsTo_length]; exact List.mem_range.1 ha) (by rw [ptsTo_length]; exact List.mem_range.1 hb) hne
  refine same_list hnd (by simpa using sl) (by have := T.len; have := T.le; simp; omega) ?_ sti T.tight
  intro y hy
  obtain ⟨j, hj, rfl⟩ := List.mem_map.1 hy
  have hj' := List.mem_range.1 hj
  rw [sev j hj', T.val]
  unfold ptX ptY
  rw [(at_of (ptsTo_get c hj')).1, (at_of (ptsTo_get c hj')).2, F_evN]
  show ev (c.map F) (F (j + 1)) = ev (c.map F) (F (j + 1)) + 0
  grind

/-- Points as cells; a slice of the call's own, that may be appended to. -/
def cellsP (ps : List Pt) : List Value := ps.flatMap fun p => [.int .i64 p.1, .int .u64 (p.2 : Nat)]
theorem cellsP_length (ps : List Pt) : (cellsP ps).length = ps.length * 2 := by
  induction ps with
  | nil => rfl
  | cons p r ih =>
    simp only [cellsP, List.flatMap_cons, List.length_append, List.length_cons, List.length_nil] at ih ⊢
    omega
theorem cellsP_get : ∀ (ps : List Pt) (i : Nat) (p : Pt), ps[i]? = some p → (cellsP ps)[i * 2]? = some (.int .i64 p.1) ∧ (cellsP ps)[i * 2 + 1]? = some (.int .u64 (p.2 : Nat))
  | [], i, p, h => by simp at h
  | q :: r, 0, p, h => by
    simp at h; subst h
    simp [cellsP]
  | q :: r, i + 1, p, h => by
    have ih := cellsP_get r i p (by simpa using h)
    have e : cellsP (q :: r) = .int .i64 q.1 :: .int .u64 (q.2 : Nat) :: cellsP r := rfl
    rw [e, show (i + 1) * 2 = i * 2 + 1 + 1 by omega, show (i * 2 + 1 + 1 + 1) = (i * 2 + 1) + 1 + 1 by omega]
    simpa using ih
def OwnsP (w : World) (base : Nat) (e : TypeId) (v : Value) (ps : List Pt) : Prop := w.ownsRow base e 2 v ps.length (cellsP ps)
theorem OwnsP.mono {w w' : World} {base : Nat} {e : TypeId} {v : Value} {ps : List Pt} (h : OwnsP w base e v ps) (o : Old w w') : OwnsP w' base e v ps := by
  obtain ⟨h1, h2⟩ := h
  refine ⟨h1, ?_⟩
  rcases h2 with h2 | ⟨g, cap, cur, h3, h4, h5, h6⟩
  · exact .inl h2
  · exact .inr ⟨g, cap, cur, h3, h4, (o.block g (Array.getElem?_eq_some_iff.1 h5).1).trans h5, h6⟩
theorem OwnsP.lt {w : World} {base : Nat} {e : TypeId} {v : Value} {ps : List Pt} (h : OwnsP w base e v ps) {g : Nat} (hg : v.ownBlock = some g) : base ≤ g ∧ g < w.heap.size := World.ownsRow.lt h g hg
theorem OwnsP.empty (w : World) (base : Nat) (e : TypeId) (hb : base ≤ w.heap.size) : OwnsP (w.alloc (.cells #[] e)) base e (.slice (some ⟨w.heap.size, 0, Option.none⟩) 0 0) [] :=
  World.ownsRow_made w #[] 0 hb (Nat.zero_le _) rfl
theorem OwnsP.pts {w : World} {base : Nat} {e : TypeId} {v : Value} {ps : List Pt} (h : OwnsP w base e v ps) (hb : ∀ p ∈ ps, -9223372036854775808 ≤ p.1 ∧ p.1 ≤ 9223372036854775807 ∧ p.2 < 18446744073709551616) : ∃ a cap, v = .slice a ps.length cap ∧ PtsOf w a ps.length cap ps := by
  obtain ⟨h1, h2⟩ := h
  rcases h2 with ⟨rfl, h3⟩ | ⟨g, cap, cur, rfl, h4, h5, h6, h7, h8, h9⟩
  · have : ps = [] := List.eq_nil_of_length_eq_zero h3
    subst this
    exact ⟨none, 0, rfl, rfl, Nat.le_refl _, hb, by intro i p hp; simp at hp⟩
  · refine ⟨_, cap, rfl, rfl, h6, hb, ?_⟩
    intro i p hp
    obtain ⟨c1, c2⟩ := cellsP_get ps i p hp
    have key : ∀ j v, (cellsP ps)[j]? = some v → w.cell? ⟨g, j, none⟩ = some v := by
      intro j v hv
      rw [← h9, List.getElem?_take] at hv
      split at hv
      · simp [World.cell?, h5] at hv ⊢
        exact hv
      · cases hv
    exact ⟨g, 0, rfl, by rw [Nat.zero_add]; exact key _ _ c1, by rw [Nat.zero_add]; exact key _ _ c2⟩

section
variable {P : Program} {ops : Array Oper} {rest : List Oper} {o : Oper} {a : Act} {w : World} {Q : Exit → Act → World → Prop}
/-- One point more. -/
theorem wp_appendP (hgd : o.guard = none) (s x : Operand) (t : TypeId) (ho : o.op = .call { callee := .builtin .append, args := #[s, x], argTypes := #[t, t] })
    (base : Nat) (e : TypeId) (ht : P.underlying t = some (.slice e)) (hi : (P.info? e).map (fun i => (i.zero, i.size, i.bytes)) = some (some (.agg #[.int .i64 0, .int .u64 0]), 2, 16))
    (v : Value) (ps : List Pt) (hs : a.eval s = v) (hown : OwnsP w base e v ps) (g c : Nat) (p : Pt) (hx : a.eval x = .slice (some ⟨g, 0, none⟩) 1 c) (hy : Row w g e [.int .i64 p.1, .int .u64 (p.2 : Nat)])
    (hn : ps.length < 1099511627776) (hbase : base ≤ w.heap.size)
    (h : ∀ v' w', OwnsP w' base e v' (ps ++ [p]) → w.grownBy w' v.ownBlock → wpList P ops Q rest (a.put o.dst v') w') : wpList P ops Q (o :: rest) a w := by
  obtain ⟨i0, h1, h2, h3, h4⟩ := info_parts hi
  refine wpList_append_own w hgd s x t ho base e i0 (.agg #[.int .i64 0, .int .u64 0]) 2 16 ht h1 h2 h3 h4 rfl (by omega) v ps.length (cellsP ps) hs hown ⟨g, 0, none⟩ 1 c [.int .i64 p.1, .int .u64 (p.2 : Nat)] hx rfl ?_ ?_ ?_ ?_ hbase ?_
  · intro j u hj
    rw [Addr.add_lit, Nat.zero_add]
    exact hy.cell hj
  · intro u hu
    simp at hu
    rcases hu with rfl | rfl <;> rfl
  · show ps.length + 1 ≤ 9223372036854775807
    omega
  · omega
  · intro v' w' h5 h6 _
    refine h v' w' ?_ h6
    unfold OwnsP
    rw [List.length_append]
    simpa [cellsP] using h5
end

theorem isU8 {v : Value} (h : IsInt .u8 v) : ∃ n : Nat, n < 256 ∧ v = .int .u8 (n : Int) := by
  obtain ⟨a, rfl, h⟩ := h
  have := bounds_u8 h
  exact ⟨a.toNat, by omega, by congr; omega⟩

set_option maxHeartbeats 4000000 in
theorem walkK_PolyBack (K : PolyK) (v0 v1 : Value) (w : World) (w0 : IsNums .u64 18446744073709551616 17592186043904 w v0) (w1 : IsInt .u8 v1) :
    Calls Try.prog 7 #[v0, v1] w fun e w' => e = .returned (.bool true) ∧ Old w w' := by
  obtain ⟨a, len, cap, l, rfl, hl, hb, rd, hM, hcap⟩ := w0
  obtain ⟨q, hq, rfl⟩ := isU8 w1
  have KK := hide K
  have C1 := hide (few_nums hl hb hcap rd)
  clear w1 K rd hl hb
  go_enter Try.func7, Try.ntmps7
  go_wp2_with fail
  refine C1.out.mono ?_
  rintro e w' ⟨c, n, rfl, N, hn, rfl⟩
  clear C1
  obtain ⟨r, hr⟩ : ∃ r : Nat, (q : Int) % 4 = r := ⟨q % 4, by omega⟩
  have hr4 : r < 4 := by omega
  obtain ⟨m, HM⟩ : ∃ m : Nat, Hid (m = n + r) := ⟨_, rfl⟩
  have hm : (n : Int) + (r : Int) = (m : Int) := by have := HM.out; omega
  have hm15 : m ≤ 15 := by have := HM.out; omega
  have hnm : n ≤ m := by have := HM.out; omega
  have E0 := hide (OwnsP.empty w' w'.heap.size 39 (Nat.le_refl _))
  go_wp2_with fail
  clear hr hm
  go_loopw [6, 7] (fun vo vi wr => ∃ i : Nat, 1 ≤ i ∧ i ≤ m + 1 ∧ vi = .int .i64 (i : Nat) ∧ OwnsP wr w'.heap.size 39 vo (ptsTo c (i - 1)) ∧ Old w' wr) (fun _ vi _ => (m + 1 - intOf vi).toNat)
  case atStart => exact ⟨1, by omega, by omega, rfl, E0.out, Old.of_alloc _ _⟩
  case round =>
    clear E0
    obtain ⟨i, hi1, hi2, rfl, ow, hol⟩ := hrel
    by_cases him : i = m + 1
    · subst him
      rw [Nat.add_sub_cancel] at ow
      obtain ⟨ra, rc, rfl, PT⟩ := ow.pts (by
        intro p hp
        obtain ⟨j, hj, rfl⟩ := List.mem_map.1 hp
        have := List.mem_range.1 hj
        have := evN_lt c (j + 1)
        exact ⟨by omega, by omega, by omega⟩)
      rw [ptsTo_length] at PT ⊢
      have hd : decide (((m + 1 : Nat) : Int) ≤ m) = false := decide_eq_false (by omega)
      have N1 := N.mono hol
      go_wp2_with fail
      refine (KK.out.through (ptsTo c m) m _ _ _ PT (by omega)).mono ?_
      rintro e w1 ⟨o1, s, r1, k, cr, rfl, hcr, hk0, hs⟩
      have N2 := N1.mono o1
      have O2 := hol.trans o1
      clear PT ow N1 hol o1
      by_cases h0 : m = 0
      · subst h0
        rw [ptsTo_none]
        clear hs hk0
        go_wp2_with fail
        refine (awake6 KK.out _).mono ?_
        rintro e w2 ⟨rfl, o2⟩
        have O3 := O2.trans o2
        go_wp2_with fail
        refine (awake6 KK.out _).mono ?_
        rintro e w3 ⟨rfl, o3⟩
        go_wp2
        go_ret
        exact ⟨rfl, O3.trans o3⟩
      · have he := ptsTo_err c (k := m) (by omega) (by omega)
        obtain ⟨sl, sk, slt, sti, sev, srd⟩ := hs he
        rw [he]
        have hz : ((m : Int) == 0) = false := by rw [beq_eq_false_iff_ne]; omega
        have SS := hide (And.intro slt (And.intro sti sev))
        have SL := hide sl
        clear hs hk0 slt sti sev he
        go_wp2_with fail
        refine (awake6 KK.out _).mono ?_
        rintro e w2 ⟨rfl, o2⟩
        have N3 := N2.mono o2
        have O3 := O2.trans o2
        have R3 := srd.mono o2
        clear N2 O2 o2 srd
        go_wp2_with fail
        refine (KK.out.add c [] n 0 _ _ _ _ _ N3 ⟨rfl, Nat.le_refl _, by simp, Rd.nil _⟩ (by omega) (by omega)).mono ?_
        rintro e w3 ⟨t, rt, kt, ct, rfl, T, hct, RT, o3⟩
        have R4 := R3.mono o3
        have O4 := O3.trans o3
        have nl := N3.1
        have est : s = t := back_same (by omega) (by omega) (by omega) (by rw [SL.out]; exact sk) SS.out.1 SS.out.2.1 SS.out.2.2 T (by omega)
        subst est
        obtain rfl : kt = k := T.len.symm.trans SL.out
        clear N3 R3 O3 o3 SS
        go_wp2_with fail
        refine (R1.Same_any kt kt s s _ _ _ _ _ (by omega) SL.out SL.out R4 RT).mono ?_
        rintro e w4 ⟨rfl, o4⟩
        rw [decide_eq_true rfl]
        go_wp2
        go_ret
        exact ⟨rfl, O4.trans o4⟩
    · have hil : i ≤ m := by omega
      have hd : decide ((i : Int) ≤ m) = true := decide_eq_true (by omega)
      have N1 := N.mono hol
      have b1 := evN_lt c i
      go_wp2_with fail
      refine (KK.out.at_ c n i _ _ _ N1 (by omega) (by omega)).mono ?_
      rintro e w1 ⟨rfl, o1⟩
      have ow1 := ow.mono o1
      have hol1 := hol.trans o1
      have SL := hide hol1.size
      have HN : Hid ((ptsTo c (i - 1)).length < 1099511627776) := by show _ < _; rw [ptsTo_length]; omega
      have OW := hide ow1
      clear ow N1 hol o1
      go_wp2_with (refine wp_appendP rfl _ _ 32 rfl w'.heap.size 39 Try.underlying32 (by kernel_rfl) _ (ptsTo c (i - 1)) rfl (OW.out.mono (Old.of_alloc _ _)) _ _ ((i : Int), evN c i) rfl (Row.new _ 39 [.int .i64 (i : Int), .int .u64 (evN c i : Nat)]) HN.out (Nat.le_trans SL.out (Old.of_alloc _ _).size) ?_; rintro v2 w2 ow2 gr2)
      go_roundw
      case rel =>
        refine ⟨i + 1, by omega, by omega, by go_num, ?_, ?_⟩
        · have e : i + 1 - 1 = (i - 1) + 1 := by omega
          rw [e, ptsTo_step, show i - 1 + 1 = i by omega]
          exact ow2
        · exact (hol1.alloc _).grown' gr2 fun g hg => (ow1.lt hg).1
      case measure => simp [intOf]; omega
end Go.Proofs.Ythmlhflflbfpkaa
