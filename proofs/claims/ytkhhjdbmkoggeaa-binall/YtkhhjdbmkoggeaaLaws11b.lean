/-
  The walk of layer 11's statement BinCounts, if the layer's calls are what they owe.
-/
import Derived.Test.YtkhhjdbmkoggeaaLaws11
import Derived.Deep.DeepCutAuto
namespace Go.Proofs.Ytkhhjdbmkoggeaa
open Go.RowKit Pn
set_option linter.unusedVariables false

/-- What lies in the world while the samples are counted. -/
structure Ct (w : World) (lo hi mo : Int) (a : Option Addr) (n cap : Nat) (es : List Int) (b : Option Addr) (k : Nat) (xs : List Int) (g gw : Nat) (os : List Value) (cs : List Int) (wr : World) : Prop where
  bx : Bx w w.heap.size lo hi mo a n cap es wr
  sam : Sam wr b k xs
  out : Rd wr (some ⟨g, 0, none⟩) os
  row : Row wr gw 3 (ints cs)
  gl : w.heap.size < gw
  fa : ∀ x, 0 < (ints es).length → a = some x → x.block ≠ gw
  fb : ∀ x, 0 < (ints xs).length → b = some x → x.block ≠ gw
  fg : g ≠ gw
section
variable {w : World} {lo hi mo : Int} {a : Option Addr} {n cap : Nat} {es : List Int} {b : Option Addr} {k : Nat} {xs : List Int} {g gw : Nat} {os : List Value} {cs : List Int} {wr w' : World}
theorem Ct.mono (h : Ct w lo hi mo a n cap es b k xs g gw os cs wr) (o : Old wr w') : Ct w lo hi mo a n cap es b k xs g gw os cs w' :=
  ⟨h.bx.mono o, h.sam.mono o, h.out.mono o, h.row.mono o, h.gl, h.fa, h.fb, h.fg⟩
theorem Ct.put (h : Ct w lo hi mo a n cap es b k xs g gw os cs wr) (p : Nat) (z : Int) : Ct w lo hi mo a n cap es b k xs g gw os (cs.set p z) (wr.setCell ⟨gw, p, none⟩ (.int .i64 z)) := by
  have gr : wr.grownBy (wr.setCell ⟨gw, p, none⟩ (.int .i64 z)) (some gw) := grown_set _ _ _ _
  have gl := h.gl
  refine ⟨⟨h.bx.row.grown gr (by omega), ⟨h.bx.fit.lo, h.bx.fit.hi, h.bx.fit.mo, h.bx.fit.len, h.bx.fit.small, h.bx.fit.each, h.bx.fit.rd.grown gr h.fa⟩, h.bx.old.grown gr (by omega)⟩,
    ⟨h.sam.len, h.sam.small, h.sam.each, h.sam.rd.grown gr h.fb⟩, h.out.grown gr (fun x _ hx => by cases hx; exact h.fg), ?_, h.gl, h.fa, h.fb, h.fg⟩
  rw [← ints_set]
  exact h.row.set p _
end
set_option maxRecDepth 100000 in
set_option maxHeartbeats 8000000 in
theorem walkK_BinCounts (K : BinK) (v0 v1 : Value) (w : World) (w0 : IsPlan w v0) (w1 : IsSam w v1) :
    Calls Try.prog 4 #[v0, v1] w fun e w' => e = .returned (.bool true) ∧ Old w w' := by
  obtain ⟨lo, hi, mo, a, n, cap, es, rfl, F⟩ := w0
  obtain ⟨b, k0, ck, xs0, rfl, hkc, S0⟩ := w1
  have B := hide (Bx.start cap F)
  have HS := hide S0
  have C0 := hide (awake11 K)
  have C1 := hide (fun (k : Nat) (xs : List Int) (wr : World) (h : Fit wr lo hi mo a n es) (h2 : Sam wr b k xs) => K.count lo hi mo a n cap es b k ck xs wr h h2)
  have C2 := hide (fun (wr : World) (h : Fit wr lo hi mo a n es) => refSound10_any cap wr h)
  have C3 := hide (fun (x : Int) (wr : World) (h : Fit wr lo hi mo a n es) => refBin11_any cap x wr h)
  have HN := hide (And.intro F.len F.small)
  unfold pv at C1 C2 C3 ⊢
  clear K F S0
  go_enter Try.func4, Try.ntmps4
  go_upto_if 12 with fail
  go_cut [1] (fun v wc => wc = w.alloc (.cells #[.int .i64 lo, .int .i64 hi, .int .i64 mo, .slice a n cap] 24) ∧ ∃ (k : Nat) (xs : List Int), v = .slice b k ck ∧ Hid (Sam w b k xs) ∧ k ≤ 2000)
  case first =>
    by_cases h : 2000 < k0
    · have d : decide ((2000 : Int) < k0) = true := decide_eq_true (by omega)
      have d2 : (2000 : Int) ≤ ck := by omega
      go_wp2_with fail
      go_meet
      exact ⟨rfl, 2000, xs0.take 2000, rfl, HS.out.cut (by omega), Nat.le_refl _⟩
    · have d : decide ((2000 : Int) < k0) = false := decide_eq_false (by omega)
      go_wp2_with fail
      go_meet
      exact ⟨rfl, k0, xs0, rfl, HS.out, by omega⟩
  case rest =>
    obtain ⟨rfl, k, xs, rfl, S, hk⟩ := hcut
    clear HS hkc
    by_cases hs : soundZ lo hi mo es = 0
    · by_cases hm : mo < (k : Int)
      · have E := cap_many (k := k) hs hm
        have C4 := hide (C1.out k xs _ B.out.fit (S.out.mono (Old.of_alloc _ _)))
        rw [E] at C4
        rw [hs] at C2
        clear C1 C3 E hs
        have t1 : decide (mo < (k : Int)) = true := by simpa using hm
        clear hm
        go_wp2_with fail
        refine C4.out.mono ?_
        rintro e w1 ⟨v, rfl, o1, _, h2⟩
        obtain ⟨a', c', rfl⟩ := h2 (by omega)
        have B1 := hide (B.out.mono o1)
        clear B o1 h2 C4
        have a0 := B1.out.c0
        have a1 := B1.out.c1
        have a2 := B1.out.c2
        have a3 := B1.out.c3
        go_wp2_with fail
        refine (C2.out _ B1.out.fit).mono ?_
        rintro e w2 ⟨rfl, o2⟩
        have B2 := hide (B1.out.mono o2)
        clear B1 o2 a0 a1 a2 a3
        have a2 := B2.out.c2
        go_wp2_with fail
        refine (C0.out _).mono ?_
        rintro e w3 ⟨rfl, o3⟩
        have O := B2.out.old.trans o3
        clear B2 o3 a2
        go_wp2
        go_ret
        exact ⟨by simp, O⟩
      · have E := cap_ok (k := k) hs hm
        have C4 := hide (C1.out k xs _ B.out.fit (S.out.mono (Old.of_alloc _ _)))
        rw [E] at C4
        rw [hs] at C2
        have n64 : n ≤ 64 := by
          obtain ⟨_, _, h3⟩ := sound_of hs
          have := HN.out.1
          unfold bad3 at h3
          omega
        have MK : ∀ W : World, (Instr.makeSlice 22 (.int .i64 ((n : Int) + 1)) (.int .i64 ((n : Int) + 1))).run Try.prog W = .ok (.slice (some ⟨W.heap.size, 0, none⟩) (n + 1) (n + 1)) (W.alloc (.cells (ints (List.replicate (n + 1) 0)).toArray 3)) := fun W => by
          have := make_ints (n + 1) (by omega) W
          rw [show ((n + 1 : Nat) : Int) = (n : Int) + 1 by omega] at this
          exact this
        have nb : (n : Int) ≤ 64 := by omega
        clear C1 E hs
        have t1 : decide (mo < (k : Int)) = false := by simpa using hm
        clear hm
        have HK := hide S.out.len
        go_wp2_with fail
        refine C4.out.mono ?_
        rintro e w1 ⟨v, rfl, o1, h1, _⟩
        obtain ⟨g, c', rfl, RO⟩ := (h1 rfl).rd
        rw [ints_length, cntL_length]
        have B1 := hide (B.out.mono o1)
        have S1 := hide ((S.out.mono (Old.of_alloc _ _)).mono o1)
        have RO1 := hide RO
        clear B o1 h1 C4 RO S
        have a0 := B1.out.c0
        have a1 := B1.out.c1
        have a2 := B1.out.c2
        have a3 := B1.out.c3
        go_wp2_with fail
        refine (C2.out _ B1.out.fit).mono ?_
        rintro e w2 ⟨rfl, o2⟩
        have B2 := hide (B1.out.mono o2)
        have S2 := hide (S1.out.mono o2)
        have RO2 := hide (RO1.out.mono o2)
        clear B1 o2 a0 a1 a2 a3 S1 RO1
        have a2 := B2.out.c2
        have a3 := B2.out.c3
        have CT : Hid (Ct w lo hi mo a n cap es b k xs g w2.heap.size (ints (cntL lo hi es xs)) (cntL lo hi es (xs.take 0)) (w2.alloc (.cells (ints (List.replicate (n + 1) 0)).toArray 3))) := by
          refine ⟨B2.out.mono (Old.of_alloc _ _), S2.out.mono (Old.of_alloc _ _), RO2.out.mono (Old.of_alloc _ _), ?_, B2.out.row.lt, ?_, ?_, ?_⟩
          · rw [List.take_zero, cntL_nil, HN.out.1]
            exact Row.new _ _ _
          · intro x hp hx
            have := B2.out.fit.rd.lt hx hp
            omega
          · intro x hp hx
            have := S2.out.rd.lt hx hp
            omega
          · have := RO2.out.lt rfl (by rw [ints_length, cntL_length]; omega)
            exact Nat.ne_of_lt this
        go_wp2_with fail
        clear B2 S2 RO2 a2 a3 MK
        revert CT
        generalize w2.heap.size = gw
        intro CT
        go_loopw [9] (fun vi wr => ∃ i : Nat, i ≤ k ∧ vi = .int .i64 (i : Int) ∧ Hid (Ct w lo hi mo a n cap es b k xs g gw (ints (cntL lo hi es xs)) (cntL lo hi es (xs.take i)) wr)) (fun vi _ => k - (intOf vi).toNat)
        case atStart => exact ⟨0, Nat.zero_le _, rfl, CT⟩
        case round =>
          clear CT
          obtain ⟨i, hi', rfl, R⟩ := hrel
          by_cases hl : i < k
          · have t3 : decide (i < k) = true := by simpa using hl
            have t3' : decide ((i : Int) < (k : Int)) = true := by simp; omega
            obtain ⟨b', off, rfl, _⟩ := rd_int R.out.sam.rd (i := i) (by rw [HK.out]; exact hl)
            obtain ⟨x, hx⟩ : ∃ x, x = xs.getD i 0 := ⟨_, rfl⟩
            obtain ⟨p, hp⟩ : ∃ p, p = binX lo hi es x := ⟨_, rfl⟩
            have pl : p ≤ n := by rw [hp, ← HN.out.1]; exact binX_le _ _ _ _
            obtain ⟨z, hz⟩ : ∃ z, z = (cntL lo hi es (xs.take i)).getD p 0 := ⟨_, rfl⟩
            have zb : 0 ≤ z ∧ z < 9223372036854775807 := by
              have h1 := cntL_bound lo hi es (xs.take i) p
              have h2 : (xs.take i).length ≤ 2000 := by rw [List.length_take]; omega
              rw [← hz] at h1
              omega
            have NX : cntL lo hi es (xs.take (i + 1)) = (cntL lo hi es (xs.take i)).set p (z + 1) := by
              have hil : i < xs.length := by rw [HK.out]; exact hl
              rw [List.take_add_one, List.getElem?_eq_getElem hil, Option.toList_some, cntL_add]
              have : xs[i] = x := by rw [hx]; simp [List.getD, hil]
              rw [this, ← hp, ← hz]
            have HNX := hide NX
            have C4 := hide (C3.out x)
            rw [← hp] at C4
            have HX := hide hx
            have HZ := hide hz
            have ib : (i : Int) ≤ 2000 := by omega
            clear hx hp hz NX
            go_wp2_with fail
            have S1 : Ct w lo hi mo a n cap es (some ⟨b', off, none⟩) k xs g gw (ints (cntL lo hi es xs)) (cntL lo hi es (xs.take i)) (wr.drewN 1) := R.out.mono (Old.of_drewN _ _)
            refine Ssz.region (Ext := Old) 11 (fun w' => Ct w lo hi mo a n cap es (some ⟨b', off, none⟩) k xs g gw (ints (cntL lo hi es xs)) (cntL lo hi es (xs.take i)) w') (Ssz.Apart []) [56, 57, 58, 59, 60, 61, 62, 63, 64, 65, 66]
              [(56, Ssx.cst (.slice (some ⟨gw, 0, none⟩) (n + 1) (n + 1))), (57, Ssx.cst (.agg #[.int .i64 lo, .int .i64 hi, .int .i64 mo, .slice a n cap])), (58, Ssx.cst (.slice (some ⟨b', off, none⟩) k ck)), (59, Ssx.cst (.int .i64 (i : Int))), (60, Ssx.cst (.pointer (some ⟨b', off + i, none⟩))),
               (61, Ssx.cst (.int .i64 x)), (62, Ssx.cst (.int .i64 (p : Int))), (63, Ssx.cst (.pointer (some ⟨gw, 0 + p, none⟩))), (64, Ssx.cst (.int .i64 z)), (65, Ssx.cst (.int .i64 (z + 1))), (66, Ssx.cst (.pointer (some ⟨gw, 0 + p, none⟩)))]
              [] (by kernel_rfl) (by kernel_rfl) (by kernel_rfl) (by simp) (by kernel_rfl) (by intro p hp; cases hp) (by kernel_rfl) (by kernel_rfl) Old.refl S1 ?apart ?good ?behind
            case apart => exact ⟨fun s hs => by simp at hs, fun s hs => by simp at hs⟩
            case good =>
              have hE : ∀ w w' : World, Old w w' → w.heap.size ≤ w'.heap.size := fun _ _ h => h.size
              refine And.intro (.inr ⟨by kernel_rfl, Ssz.keep (Ssx.mv Old.refl rfl rfl (fun _ _ h => h)) hE (by kernel_rfl)⟩) ?_
              refine And.intro (.inr ⟨by kernel_rfl, Ssz.keep (Ssx.whole Old.refl rfl rfl w.heap.size [.int .i64 lo, .int .i64 hi, .int .i64 mo, .slice a n cap] (fun _ _ h => h) (fun _ h => h.bx.row.rngX) Try.underlying24 rfl infoPl (fun _ => rfl)) hE (by kernel_rfl)⟩) ?_
              refine And.intro (.inr ⟨by kernel_rfl, Ssz.keep (Ssx.mv Old.refl rfl rfl (fun _ _ h => h)) hE (by kernel_rfl)⟩) ?_
              refine And.intro (.inr ⟨by kernel_rfl, Ssz.keep (Ssx.mv Old.refl rfl rfl (fun _ _ h => h)) hE (by kernel_rfl)⟩) ?_
              refine And.intro (.inr ⟨by kernel_rfl, Ssz.keep (el Old.refl rfl rfl b' off i (n := k) (cap := ck) (fun _ _ h => h) (fun _ _ h => h) hl Try.underlying22 (by kernel_rfl) (fun _ => rfl)) hE (by kernel_rfl)⟩) ?_
              refine And.intro (.inr ⟨by kernel_rfl, Ssz.keep (Ssy.cell Old.refl rfl rfl ⟨b', off + i, none⟩ (.int .i64 x) (fun _ _ h => h) (fun _ h => by rw [HX.out]; exact rd_at h.sam.rd (by rw [HK.out]; exact hl)) Try.underlying3 rfl (fun _ => rfl)) hE (by kernel_rfl)⟩) ?_
              refine And.intro (.inr ⟨by kernel_rfl, Ssz.keep (Ssx.call rfl fun a' w' hC hop => ⟨10, #[.agg #[.int .i64 lo, .int .i64 hi, .int .i64 mo, .slice a n cap], .int .i64 x], ?_, (C4.out w' hC.bx.fit).mono fun _ _ ⟨h1, h2⟩ => ⟨_, h1, hC.mono h2, h2, rfl⟩⟩) hE (by kernel_rfl)⟩) ?_
              · have h0 : a'.eval (.tmp 57) = .agg #[.int .i64 lo, .int .i64 hi, .int .i64 mo, .slice a n cap] := hop 57 (by simp [Op.operands, Call.operands])
                have h1 : a'.eval (.tmp 61) = .int .i64 x := hop 61 (by simp [Op.operands, Call.operands])
                simp [Act.eval] at h0 h1
                simp [h0, h1, go_sem]
              refine And.intro (.inr ⟨by kernel_rfl, Ssz.keep (el Old.refl rfl rfl gw 0 p (n := n + 1) (cap := n + 1) (fun _ _ h => h) (fun _ _ h => h) (by omega) Try.underlying22 (by kernel_rfl) (fun _ => rfl)) hE (by kernel_rfl)⟩) ?_
              refine And.intro (.inr ⟨by kernel_rfl, Ssz.keep (Ssy.cell Old.refl rfl rfl ⟨gw, 0 + p, none⟩ (.int .i64 z) (fun _ _ h => h) (fun _ h => by rw [HZ.out, Nat.zero_add]; exact row_at h.row (by rw [cntL_length, HN.out.1]; omega)) Try.underlying3 rfl (fun _ => rfl)) hE (by kernel_rfl)⟩) ?_
              refine And.intro (.inr ⟨by kernel_rfl, Ssz.keep (addc Old.refl rfl rfl Try.underlying3 z zb (fun _ _ h => h) (fun _ => rfl)) hE (by kernel_rfl)⟩) ?_
              refine And.intro (.inr ⟨by kernel_rfl, Ssz.keep (el Old.refl rfl rfl gw 0 p (n := n + 1) (cap := n + 1) (fun _ _ h => h) (fun _ _ h => h) (by omega) Try.underlying22 (by kernel_rfl) (fun _ => rfl)) hE (by kernel_rfl)⟩) ?_
              exact trivial
            case behind =>
              intro vals wb hC hD hv
              have v0 : vals 56 = _ := hv _ (.head _)
              have v1 : vals 57 = _ := hv _ (.tail _ (.head _))
              have v2 : vals 58 = _ := hv _ (.tail _ (.tail _ (.head _)))
              have v3 : vals 59 = _ := hv _ (.tail _ (.tail _ (.tail _ (.head _))))
              have v4 : vals 60 = _ := hv _ (.tail _ (.tail _ (.tail _ (.tail _ (.head _)))))
              have v5 : vals 61 = _ := hv _ (.tail _ (.tail _ (.tail _ (.tail _ (.tail _ (.head _))))))
              have v6 : vals 62 = _ := hv _ (.tail _ (.tail _ (.tail _ (.tail _ (.tail _ (.tail _ (.head _)))))))
              have v7 : vals 63 = _ := hv _ (.tail _ (.tail _ (.tail _ (.tail _ (.tail _ (.tail _ (.tail _ (.head _))))))))
              have v8 : vals 64 = _ := hv _ (.tail _ (.tail _ (.tail _ (.tail _ (.tail _ (.tail _ (.tail _ (.tail _ (.head _)))))))))
              have v9 : vals 65 = _ := hv _ (.tail _ (.tail _ (.tail _ (.tail _ (.tail _ (.tail _ (.tail _ (.tail _ (.tail _ (.head _))))))))))
              have vA : vals 66 = _ := hv _ (.tail _ (.tail _ (.tail _ (.tail _ (.tail _ (.tail _ (.tail _ (.tail _ (.tail _ (.tail _ (.head _)))))))))))
              simp only [Ssa.putAll, List.map_cons, List.map_nil, List.foldl_cons, List.foldl_nil, List.setIfInBounds_toArray, List.set_cons_succ, List.set_cons_zero, v0, v1, v2, v3, v4, v5, v6, v7, v8, v9, vA, List.drop_succ_cons, List.drop_zero, Nat.zero_add]
              have cz := row_at hC.row (i := p) (by rw [cntL_length, HN.out.1]; omega)
              have fz := hC.row.free p
              have PT := hide (hC.put p (z + 1))
              rw [← HNX.out] at PT
              clear hC hD hv v0 v1 v2 v3 v4 v5 v6 v7 v8 v9 vA S1 R
              go_wp2
              go_roundw
              case rel => exact ⟨i + 1, by omega, by go_num, PT⟩
              case measure => simp [intOf]; omega
          · obtain rfl : i = k := by omega
            have t3 : decide (i < i) = false := by simp
            have t3' : decide ((i : Int) < (i : Int)) = false := by simp
            go_wp2_with fail
            refine (C0.out _).mono ?_
            rintro e w3 ⟨rfl, o3⟩
            have R3 := hide (R.out.mono o3)
            have e1 : xs.take i = xs := List.take_of_length_le (by rw [HK.out]; exact Nat.le_refl _)
            rw [e1] at R3
            clear R o3
            go_wp2_with fail
            refine (Ints_any (es.length + 1) (n + 1) (cntL lo hi es xs) (cntL lo hi es xs) (some ⟨g, 0, none⟩) (some ⟨gw, 0, none⟩) c' (n + 1) _ (by rw [HN.out.1]; omega) (cntL_length _ _ _ _) (by rw [cntL_length, HN.out.1]) R3.out.out (fun j v hv => ⟨gw, 0, rfl, by rw [Nat.zero_add]; exact R3.out.row.cell hv⟩)).mono ?_
            rintro e w4 ⟨rfl, o4⟩
            have O := R3.out.bx.old.trans o4
            clear R3 o4
            go_wp2
            go_ret
            exact ⟨by simp, O⟩
    · have E := cap_bad (mo := mo) (k := k) hs
      have C4 := hide (C1.out k xs _ B.out.fit (S.out.mono (Old.of_alloc _ _)))
      rw [E] at C4
      clear C1 C3 E
      revert C2 C4 hs
      generalize soundZ lo hi mo es = s
      intro C2 hs C4
      have t1 : (s != 0) = true := by simpa using hs
      have t2 : (s == 0) = false := by simpa using hs
      go_wp2_with fail
      refine C4.out.mono ?_
      rintro e w1 ⟨v, rfl, o1, _, h2⟩
      obtain ⟨a', c', rfl⟩ := h2 hs
      have B1 := hide (B.out.mono o1)
      clear B o1 h2 C4
      have a0 := B1.out.c0
      have a1 := B1.out.c1
      have a2 := B1.out.c2
      have a3 := B1.out.c3
      go_wp2_with fail
      refine (C2.out _ B1.out.fit).mono ?_
      rintro e w2 ⟨rfl, o2⟩
      have B2 := hide (B1.out.mono o2)
      clear B1 o2 a0 a1 a2 a3
      go_wp2_with fail
      refine (C0.out _).mono ?_
      rintro e w3 ⟨rfl, o3⟩
      have O := B2.out.old.trans o3
      clear B2 o3
      go_wp2
      go_ret
      exact ⟨by simp, O⟩
end Go.Proofs.Ytkhhjdbmkoggeaa
