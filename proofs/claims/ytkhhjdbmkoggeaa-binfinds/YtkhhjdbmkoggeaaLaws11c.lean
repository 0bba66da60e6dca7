/-
  The walk of layer 11's statement BinAll, if the layer's calls are what they owe.
-/
import Derived.Test.YtkhhjdbmkoggeaaLaws11b
import Derived.Test.YtkhhjdbmkoggeaaGrow
import Derived.Test.YtkhhjdbmkoggeaaSsq
namespace Go.Proofs.Ytkhhjdbmkoggeaa
open Go.RowKit Pn
set_option linter.unusedVariables false

/-- What lies in the world while all bins are summed: the plan, the samples, the counts in a block of the call's own. -/
structure Al (w : World) (lo hi mo : Int) (a : Option Addr) (n cap : Nat) (es : List Int) (b : Option Addr) (k : Nat) (xs : List Int) (g : Nat) (t : TypeId) (cs : List Int) (rest : List Value) (wr : World) : Prop where
  bx : Bx w w.heap.size lo hi mo a n cap es wr
  sam : Sam wr b k xs
  row : Row wr g t (ints cs ++ rest)
  gl : w.heap.size < g
section
variable {w : World} {lo hi mo : Int} {a : Option Addr} {n cap : Nat} {es : List Int} {b : Option Addr} {k : Nat} {xs : List Int} {g : Nat} {t : TypeId} {cs : List Int} {rest : List Value} {wr w' : World}
theorem Al.mono (h : Al w lo hi mo a n cap es b k xs g t cs rest wr) (o : Old wr w') : Al w lo hi mo a n cap es b k xs g t cs rest w' := ⟨h.bx.mono o, h.sam.mono o, h.row.mono o, h.gl⟩
theorem Al.at (h : Al w lo hi mo a n cap es b k xs g t cs rest wr) {i : Nat} (hi' : i < cs.length) : wr.cell? ⟨g, i, none⟩ = some (.int .i64 (cs.getD i 0)) :=
  h.row.cell (by rw [List.getElem?_append_left (by rw [ints_length]; exact hi')]; simp [ints, hi', List.getD])
end
/-- What Count hands back of one sample more. -/
def Rs (B n : Nat) (f : Int) (cs : List Int) (v : Value) (w : World) : Prop := (f = 0 → ∃ g c t rest, v = .slice (some ⟨g, 0, none⟩) (n + 1) c ∧ B ≤ g ∧ Row w g t (ints cs ++ rest)) ∧ (f ≠ 0 → ∃ a c, v = .slice a 0 c)
theorem Rs.mono {B n : Nat} {f : Int} {cs : List Int} {v : Value} {w w' : World} (h : Rs B n f cs v w) (o : Old w w') : Rs B n f cs v w' :=
  ⟨fun h0 => by obtain ⟨g, c, t, rest, h1, h2, h3⟩ := h.1 h0; exact ⟨g, c, t, rest, h1, h2, h3.mono o⟩, h.2⟩
def RsX (B n : Nat) (f : Int) (cs : List Int) : Ssx.XP Old := ⟨fun v w => Rs B n f cs v w, fun _ _ _ h o => h.mono o⟩
def RtX (B n : Nat) (f : Int) (cs : List Int) : Ssx.XP Old := ⟨fun u w => ∃ v, u = .tuple #[v, .int .i64 f] ∧ Rs B n f cs v w, fun _ _ _ ⟨v, h1, h2⟩ o => ⟨v, h1, h2.mono o⟩⟩
theorem sum_bounds (lo hi : Int) (es xs : List Int) : ∀ i, 0 ≤ sumI ((cntL lo hi es xs).take i) ∧ sumI ((cntL lo hi es xs).take i) ≤ xs.length := by
  intro i
  have nn : ∀ l : List Int, (∀ z ∈ l, 0 ≤ z) → 0 ≤ sumI l := by
    intro l
    induction l with
    | nil => intro _; simp [sumI]
    | cons z r ih => intro h; have h1 := h z (by simp); have h2 := ih (fun y hy => h y (by simp [hy])); rw [sumI]; omega
  have pos : ∀ z ∈ cntL lo hi es xs, 0 ≤ z := by
    intro z hz
    obtain ⟨j, _, rfl⟩ := List.mem_map.1 hz
    exact Int.natCast_nonneg _
  have h1 := nn ((cntL lo hi es xs).take i) (fun z hz => pos z (List.mem_of_mem_take hz))
  have h2 := nn ((cntL lo hi es xs).drop i) (fun z hz => pos z (List.mem_of_mem_drop hz))
  have h3 := sumI_append ((cntL lo hi es xs).take i) ((cntL lo hi es xs).drop i)
  rw [List.take_append_drop, cntL_sum] at h3
  omega

set_option maxRecDepth 100000 in
set_option maxHeartbeats 8000000 in
theorem walkK_BinAll (K : BinK) (v0 v1 v2 : Value) (w : World) (w0 : IsPlan w v0) (w1 : IsSam w v1) (w2 : IsInt .i64 v2) :
    Calls Try.prog 6 #[v0, v1, v2] w fun e w' => e = .returned (.bool true) ∧ Old w w' := by
  obtain ⟨lo, hi, mo, a, n, cap, es, rfl, F⟩ := w0
  obtain ⟨b, k0, ck, xs0, rfl, hkc, S0⟩ := w1
  obtain ⟨x, hx, rfl⟩ := isI64 w2
  have B := hide (Bx.start cap F)
  have HS := hide S0
  have C0 := hide (awake11 K)
  have C1 := hide (fun (k : Nat) (b : Option Addr) (ck : Nat) (xs : List Int) (wr : World) (h : Fit wr lo hi mo a n es) (h2 : Sam wr b k xs) => K.count lo hi mo a n cap es b k ck xs wr h h2)
  have C2 := hide (fun (wr : World) (h : Fit wr lo hi mo a n es) => K.find lo hi mo x a n cap es wr hx h)
  have HN := hide (And.intro F.len F.small)
  have HX := hide hx
  unfold binS at C2
  unfold pv at C1 C2 ⊢
  clear K F S0 hx w2
  go_enter Try.func6, Try.ntmps6
  go_upto_if 17 with fail
  go_cut [1] (fun v wc => wc = w.alloc (.cells #[.int .i64 lo, .int .i64 hi, .int .i64 mo, .slice a n cap] 24) ∧ ∃ (k : Nat) (xs : List Int), v = .slice b k ck ∧ Hid (Sam w b k xs) ∧ k ≤ 500)
  case first =>
    by_cases h : 500 < k0
    · have d : decide ((500 : Int) < k0) = true := decide_eq_true (by omega)
      have d2 : (500 : Int) ≤ ck := by omega
      go_wp2_with fail
      go_meet
      exact ⟨rfl, 500, xs0.take 500, rfl, HS.out.cut (by omega), Nat.le_refl _⟩
    · have d : decide ((500 : Int) < k0) = false := decide_eq_false (by omega)
      go_wp2_with fail
      go_meet
      exact ⟨rfl, k0, xs0, rfl, HS.out, by omega⟩
  case rest =>
    obtain ⟨rfl, k, xs, rfl, S, hk⟩ := hcut
    clear HS hkc
    have C4 := hide (C1.out k b ck xs _ B.out.fit (S.out.mono (Old.of_alloc _ _)))
    by_cases hE : capZ (soundZ lo hi mo es) mo k = 0
    · obtain ⟨hs, hm⟩ : soundZ lo hi mo es = 0 ∧ ¬ mo < (k : Int) := by
        unfold capZ at hE
        split at hE
        · rename_i h
          refine ⟨h, fun h' => ?_⟩
          rw [if_pos h'] at hE
          cases hE
        · contradiction
      rw [hE] at C4
      simp only [hs, if_true] at C2
      have n64 : n ≤ 64 := by
        obtain ⟨_, _, h3⟩ := sound_of hs
        have := HN.out.1
        unfold bad3 at h3
        omega
      have HK := hide S.out.len
      go_wp2_with fail
      refine C4.out.mono ?_
      rintro e w1 ⟨v, rfl, o1, h1, _⟩
      obtain ⟨g, c', t, rest, rfl, hg, RO⟩ := h1 rfl
      rw [ints_length, cntL_length]
      have A1 : Hid (Al w lo hi mo a n cap es b k xs g t (cntL lo hi es xs) rest w1) := ⟨B.out.mono o1, (S.out.mono (Old.of_alloc _ _)).mono o1, RO, by rw [World.size_alloc] at hg; exact hg⟩
      clear B S o1 h1 hg RO C4 hE
      go_wp2_with fail
      refine (C0.out _).mono ?_
      rintro e w2 ⟨rfl, o2⟩
      have A2 := hide (A1.out.mono o2)
      clear A1 o2 C0
      go_wp2_with fail
      have HE := hide (show es.length = n from HN.out.1)
      rw [HE.out]
      have HC := hide (show (cntL lo hi es xs).length = n + 1 by rw [cntL_length, HE.out])
      have SB := hide (sum_bounds lo hi es xs)
      go_loop [9, 10] (fun va vi => ∃ i : Nat, i ≤ n + 1 ∧ vi = .int .i64 (i : Int) ∧ va = .int .i64 (sumI ((cntL lo hi es xs).take i))) (fun _ vi => n + 1 - (intOf vi).toNat)
      case atStart => exact ⟨0, Nat.zero_le _, rfl, by simp [sumI]⟩
      case round =>
        obtain ⟨i, hi', rfl, rfl⟩ := hrel
        by_cases hl : i < n + 1
        · have t3 : decide (i < n + 1) = true := by simpa using hl
          have t3' : decide ((i : Int) < (n : Int) + 1) = true := by simp; omega
          have ci := A2.out.at (i := i) (by rw [HC.out]; exact hl)
          have e1 := sumI_take (cntL lo hi es xs) (j := i) (by rw [HC.out]; exact hl)
          have b1 := SB.out (i + 1)
          have HS1 : Hid (sumI ((cntL lo hi es xs).take (i + 1)) = sumI ((cntL lo hi es xs).take i) + (cntL lo hi es xs).getD i 0) := e1
          rw [e1, HK.out] at b1
          clear e1
          revert ci b1 HS1
          generalize sumI ((cntL lo hi es xs).take i) = sa
          generalize (cntL lo hi es xs).getD i 0 = z
          intro ci b1 HS1
          have ew : wrap64 (sa + z) = sa + z := by unfold wrap64; omega
          have q0 : (0 : Int) ≤ i := by omega
          have q1 : (i : Int) < (n : Int) + 1 := by omega
          have q2 : (i : Int) ≤ 64 := by omega
          clear b1
          go_wp2
          go_round
          case rel => exact ⟨i + 1, by omega, by go_num, by rw [HS1.out, ew]⟩
          case measure => simp [intOf]; omega
        · obtain rfl : i = n + 1 := by omega
          have t3 : decide (n + 1 < n + 1) = false := by simp
          have t3' : decide ((n : Int) + 1 < (n : Int) + 1) = false := by simp
          have e1 : sumI ((cntL lo hi es xs).take (n + 1)) = (k : Int) := by
            rw [List.take_of_length_le (by rw [HC.out]; exact Nat.le_refl _), cntL_sum, HK.out]
          rw [e1]
          clear e1 SB
          go_wp2_with fail
          have lx : (ints xs).length = k := by rw [ints_length, HK.out]
          have C5 : Hid (∀ (wr : World) (b' : Option Addr) (c : Nat), Fit wr lo hi mo a n es → Sam wr b' (k + 1) (xs ++ [x]) → Calls Try.prog 11 #[.agg #[.int .i64 lo, .int .i64 hi, .int .i64 mo, .slice a n cap], .slice b' (k + 1) c] wr fun e w' => CountR wr w' e (capZ 0 mo (k + 1)) (ints (cntL lo hi es (xs ++ [x])))) := fun wr b' c h1 h2 => by
            have := C1.out (k + 1) b' c (xs ++ [x]) wr h1 h2
            rw [hs] at this
            exact this
          have HF : Hid (capZ 0 mo (k + 1) = 0 ∨ capZ 0 mo (k + 1) = 9) := by
            show _ ∨ _
            unfold capZ
            rw [if_pos rfl]
            split
            · exact .inr rfl
            · exact .inl rfl
          revert C5 HF
          generalize capZ 0 mo (k + 1) = f
          intro C5 HF
          clear C1
          refine Ssq.region (E1 := Put w2.heap.size 3 k (.int .i64 x)) (E2 := Old) 7 (fun w' => Old w2 w') [46, 47, 48, 49, 50, 51, 52, 53, 45, 54, 55, 11, 12]
            [(46, Ssx.cst (.agg #[.int .i64 lo, .int .i64 hi, .int .i64 mo, .slice a n cap])), (47, PE w2.heap.size 3 k (.int .i64 x)), (48, Ssx.cst (.slice b k ck)), (49, PL w2.heap.size 3 k (.int .i64 x) (ints xs) (fun i hi e => by rw [ints_length, HK.out] at hi; omega)), (50, Ssx.cst (.int .i64 x)),
             (51, PL w2.heap.size 3 k (.int .i64 x) [.int .i64 x] (fun i hi e => by simp at hi; subst hi; rfl)), (52, PL w2.heap.size 3 k (.int .i64 x) (ints (xs ++ [x])) (fun i hi e => by simp [ints, e, ← HK.out]))]
            [(53, RtX w2.heap.size n f (cntL lo hi es (xs ++ [x]))), (45, RtX w2.heap.size n f (cntL lo hi es (xs ++ [x]))), (54, RsX w2.heap.size n f (cntL lo hi es (xs ++ [x]))), (55, Ssx.cst (.int .i64 f)), (11, RsX w2.heap.size n f (cntL lo hi es (xs ++ [x]))), (12, Ssx.cst (.int .i64 f))]
            [] (by kernel_rfl) (by kernel_rfl) (by kernel_rfl) (by kernel_rfl) (by intro p hp; cases hp) (by kernel_rfl) (by kernel_rfl) (by kernel_rfl) (by kernel_rfl) (Put.refl _ _ _ _) Old.refl (fun w w' h o => Put.of_old h.size o) (Old.of_drewN _ 1) ?good ?behind
          case good =>
            have hP := Put.refl w2.heap.size 3 k (.int .i64 x)
            have hCo : ∀ w w' : World, Old w2 w → Old w w' → Old w2 w' := fun _ _ h o => h.trans o
            have hCp : ∀ w w' : World, Old w2 w → Put w2.heap.size 3 k (.int .i64 x) w w' → Old w2 w' := fun _ _ h e => Below.trans h e.1
            refine And.intro (.inr ⟨by kernel_rfl, Ssx.whole hP rfl rfl w.heap.size [.int .i64 lo, .int .i64 hi, .int .i64 mo, .slice a n cap] (fun _ _ h => h) (fun _ h => (A2.out.mono h).bx.row.rngX) Try.underlying24 rfl infoPl (fun _ => rfl)⟩) ?_
            refine And.intro (.inr ⟨by kernel_rfl, Ssx.step rfl fun a' w' hC hop => ⟨.slice (some ⟨w'.heap.size, 0, none⟩) 0 0, w'.alloc (.cells (#[] : Array Value) 3), ?_, hC.trans (Old.of_alloc _ _), Put.of_old hC.size (Old.of_alloc _ _), ⟨_, hC.size, rfl, Row.new _ _ []⟩⟩⟩) ?_
            · simp [go_sem]
            refine And.intro (.inr ⟨by kernel_rfl, Ssx.mv hP rfl rfl (fun _ _ h => h)⟩) ?_
            refine And.intro (.inr ⟨by kernel_rfl, app0 (fun _ h => h.size) hCo rfl rfl b ck xs HK.out (by omega) (fun _ _ h => h) (fun _ _ h => h) (fun _ h => (A2.out.mono h).sam.rd) (fun _ _ h => h)⟩) ?_
            refine And.intro (.inr ⟨by kernel_rfl, Ssx.mv hP rfl rfl (fun _ _ h => h)⟩) ?_
            refine And.intro (.inr ⟨by kernel_rfl, Ssx.step rfl fun a' w' hC hop => ⟨.slice (some ⟨w'.heap.size, 0, none⟩) 1 1, w'.alloc (.cells #[.int .i64 x] 3), ?_, hC.trans (Old.of_alloc _ _), Put.of_old hC.size (Old.of_alloc _ _), ⟨_, [], hC.size, rfl, Row.new _ _ [.int .i64 x]⟩⟩⟩) ?_
            · have h0 : a'.eval (.tmp 50) = .int .i64 x := hop 50 (by simp [Op.operands])
              simp [Act.eval] at h0
              simp [h0, go_sem]
            refine And.intro (.inr ⟨by kernel_rfl, app1 (fun _ h => h.size) hCp rfl rfl xs HK.out (by omega) (fun _ _ h => h) (fun _ _ h => h) (fun _ _ h => h)⟩) ?_
            refine And.intro (.inr ⟨by kernel_rfl, Ssx.call rfl fun a' w' hC hop => ?_⟩) ?_
            · have h0 : a'.eval (.tmp 46) = .agg #[.int .i64 lo, .int .i64 hi, .int .i64 mo, .slice a n cap] := hop 46 (by simp [Op.operands, Call.operands])
              obtain ⟨g', sp, h1, h2, h3⟩ : (PL w2.heap.size 3 k (.int .i64 x) (ints (xs ++ [x])) (fun i hi e => by simp [ints, e, ← HK.out])).p (a'.eval (.tmp 52)) w' := hop 52 (by simp [Op.operands, Call.operands])
              rw [ints_length, List.length_append, HK.out] at h2
              simp only [List.length_cons, List.length_nil, Nat.zero_add] at h2
              have AA := A2.out.mono hC
              refine ⟨11, #[.agg #[.int .i64 lo, .int .i64 hi, .int .i64 mo, .slice a n cap], .slice (some ⟨g', 0, none⟩) (k + 1) (k + 1 + sp.length)], ?_, (C5.out w' _ _ AA.bx.fit ⟨by simp [HK.out], by omega, ?_, ?_⟩).mono ?_⟩
              · simp [Act.eval] at h0 h2
                simp [h0, h2, go_sem]
              · intro e he
                rcases List.mem_append.1 he with h | h
                · exact AA.sam.each e h
                · simp at h; subst h; exact HX.out
              · intro i v hv
                refine ⟨g', 0, rfl, ?_⟩
                rw [Nat.zero_add]
                exact h3.cell (by rw [List.getElem?_append_left (List.getElem?_eq_some_iff.1 hv).1]; exact hv)
              · rintro e w'' ⟨v, rfl, o, r1, r2⟩
                refine ⟨_, rfl, hC.trans o, o, v, rfl, fun h => ?_, r2⟩
                obtain ⟨gm, cm, tm, rm, rfl, hgm, RM⟩ := r1 h
                exact ⟨gm, cm, tm, rm, by rw [ints_length, cntL_length, HE.out], Nat.le_trans hC.size hgm, RM⟩
            refine And.intro (.inr ⟨by kernel_rfl, Ssx.mv Old.refl rfl rfl (fun _ _ h => h)⟩) ?_
            refine And.intro (.inr ⟨by kernel_rfl, ex_ext Old.refl 0 rfl rfl fun v w' ⟨u, hu, hr⟩ => ⟨_, _, hu, rfl, hr⟩⟩) ?_
            refine And.intro (.inr ⟨by kernel_rfl, ex_ext Old.refl 1 rfl rfl fun v w' ⟨u, hu, hr⟩ => ⟨_, _, hu, rfl, rfl⟩⟩) ?_
            refine And.intro (.inr ⟨by kernel_rfl, Ssx.asg Old.refl rfl rfl (fun _ _ h => h)⟩) ?_
            refine And.intro (.inr ⟨by kernel_rfl, Ssx.asg Old.refl rfl rfl (fun _ _ h => h)⟩) ?_
            exact trivial
          case behind =>
            intro vals wb hC hv hv2
            have r11 : Rs w2.heap.size n f (cntL lo hi es (xs ++ [x])) (vals 11) wb := hv2 _ (.tail _ (.tail _ (.tail _ (.tail _ (.head _)))))
            have v12 : vals 12 = .int .i64 f := hv2 _ (.tail _ (.tail _ (.tail _ (.tail _ (.tail _ (.head _))))))
            simp only [Ssa.putAll, List.map_cons, List.map_nil, List.foldl_cons, List.foldl_nil, List.setIfInBounds_toArray, List.set_cons_succ, List.set_cons_zero, v12]
            rename_i K0 hK hw0
            refine hK _ wb ?_
            clear hK
            have A3 := hide (A2.out.mono hC)
            have HG := hide (show g < w2.heap.size from A2.out.row.lt)
            clear hv hv2 v12 A2 hC C5
            obtain ⟨p, hp⟩ : ∃ p, p = binX lo hi es x := ⟨_, rfl⟩
            have pl : p ≤ n := by rw [hp, ← HE.out]; exact binX_le _ _ _ _
            rw [← hp] at C2
            obtain ⟨z, hz⟩ : ∃ z, z = (cntL lo hi es xs).getD p 0 := ⟨_, rfl⟩
            have zb : 0 ≤ z ∧ z ≤ 500 := by
              have h1 := cntL_bound lo hi es xs p
              rw [← hz, HK.out] at h1
              omega
            have NX := hide (cntL_add lo hi es xs x)
            rw [← hp, ← hz] at NX
            have HZ := hide hz
            clear hp hz
            have a0 := A3.out.bx.c0
            have a1 := A3.out.bx.c1
            have a2 := A3.out.bx.c2
            have a3 := A3.out.bx.c3
            rcases HF.out with rfl | rfl
            · obtain ⟨gm, cm, tm, rm, hvm, hgm, RM⟩ := r11.1 rfl
              rw [hvm]
              have RM1 := hide RM
              clear r11 hvm RM HF
              go_wp2_with fail
              refine (C2.out _ A3.out.bx.fit).mono ?_
              rintro e w4 ⟨rfl, o4⟩
              have A4 := hide (A3.out.mono o4)
              have RM2 := hide (RM1.out.mono o4)
              clear A3 o4 RM1 a0 a1 a2 a3 C2
              have cz := A4.out.at (i := p) (by rw [HC.out]; omega)
              rw [← HZ.out] at cz
              have fz := A4.out.row.free p
              have q0 : (0 : Int) ≤ p := by omega
              have q1 : (p : Int) < (n : Int) + 1 := by omega
              have ew : wrap64 (z + 1) = z + 1 := by unfold wrap64; omega
              have gne : g ≠ gm := by have := HG.out; omega
              have R5 : Hid (Row (w4.setCell ⟨g, p, none⟩ (.int .i64 (z + 1))) g t (ints (cntL lo hi es (xs ++ [x])) ++ rest)) := by
                show Row _ _ _ _
                have h1 := A4.out.row.set p (.int .i64 (z + 1))
                rw [List.set_append_left p _ (show p < (ints (cntL lo hi es xs)).length by rw [ints_length, HC.out]; omega), ints_set, ← NX.out] at h1
                exact h1
              have R6 := hide (RM2.out.grown (grown_set w4 g p (.int .i64 (z + 1))) gne.symm)
              have O5 := hide (A4.out.bx.old.grown (grown_set w4 g p (.int .i64 (z + 1))) (Nat.le_of_lt A4.out.gl))
              clear A4 RM2 zb gne
              go_wp2_with fail
              have e9 : (cntL lo hi es (xs ++ [x])).length = n + 1 := by rw [cntL_length, HE.out]
              have rd5 : ∀ {W : World} {G : Nat} {T : TypeId} {Z : List Value}, Row W G T (ints (cntL lo hi es (xs ++ [x])) ++ Z) → Rd W (some ⟨G, 0, none⟩) (ints (cntL lo hi es (xs ++ [x]))) := fun R i v hv => ⟨_, _, rfl, by
                rw [Nat.zero_add]; exact R.cell (by rw [List.getElem?_append_left (List.getElem?_eq_some_iff.1 hv).1]; exact hv)⟩
              refine (Ints_any (n + 1) (n + 1) _ _ (some ⟨g, 0, none⟩) (some ⟨gm, 0, none⟩) c' cm _ (by omega) e9 e9 (rd5 R5.out) (rd5 R6.out)).mono ?_
              rintro e w6 ⟨rfl, o6⟩
              have O := O5.out.trans o6
              clear R5 R6 O5 o6 e9 rd5
              go_wp2
              go_ret
              exact ⟨by simp, O⟩
            · obtain ⟨am, cm, hvm⟩ := r11.2 (by omega)
              rw [hvm]
              clear r11 hvm HF
              go_wp2_with fail
              refine (C2.out _ A3.out.bx.fit).mono ?_
              rintro e w4 ⟨rfl, o4⟩
              have O := A3.out.bx.old.trans o4
              clear A3 o4 a0 a1 a2 a3 C2
              go_wp2
              go_ret
              exact ⟨by simp, O⟩
    · revert C4 hE
      generalize capZ (soundZ lo hi mo es) mo k = s
      intro C4 hE
      have t1 : (s != 0) = true := by simpa using hE
      go_wp2_with fail
      refine C4.out.mono ?_
      rintro e w1 ⟨v, rfl, o1, _, h2⟩
      obtain ⟨a', c', rfl⟩ := h2 hE
      have B1 := hide (B.out.mono o1)
      clear B o1 h2 C4
      go_wp2_with fail
      refine (C0.out _).mono ?_
      rintro e w2 ⟨rfl, o2⟩
      have B2 := hide (B1.out.mono o2)
      clear B1 o2
      go_wp2_with fail
      refine (C0.out _).mono ?_
      rintro e w3 ⟨rfl, o3⟩
      have O := B2.out.old.trans o3
      clear B2 o3
      go_wp2
      go_ret
      exact ⟨rfl, O⟩
end Go.Proofs.Ytkhhjdbmkoggeaa
