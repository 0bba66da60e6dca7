/-
  Package letter: what Look answers; nil Papers and nil Eyes; layer 14's calls are what they owe.
-/
import Derived.Test.YtccphdngmhfmnaaLetterH
namespace Go.Proofs.Ytccphdngmhfmnaa
open Go.RowKit Cn
set_option linter.unusedVariables false

theorem By14.front {w : World} {b : Option Addr} {n cap : Nat} {xs : List Nat} (h : By14 w b n cap xs) (k : Nat) (hk : k ≤ n) : By14 w b k cap (xs.take k) :=
  ⟨by rw [List.length_take, h.len]; omega, by have := h.room; omega, by have := h.small; omega, fun x hx => h.each x (List.mem_of_mem_take hx), rd_take h.rd k⟩
/-- The fields among sealed bytes. -/
def OpR (w : World) (xs : List Nat) (e : Ending) (w' : World) : Prop :=
  ∃ a cap, e = .returned (.tuple #[.slice a (opL xs).length cap, .int .i64 (opE xs)]) ∧ (opL xs).length ≤ cap ∧ Rd w' a (nums .u8 (opL xs)) ∧ Old w w'
theorem OpR.bad {w w' : World} {xs : List Nat} {er : Int} (h : opE xs = er) (he : er ≠ 0) (o : Old w w') : OpR w xs (.returned (.tuple #[.slice none 0 0, .int .i64 er])) w' := by
  have h2 : opL xs = [] := by unfold opL; rw [h, if_neg he]
  unfold OpR
  rw [h, h2]
  exact ⟨none, 0, rfl, Nat.le_refl _, Rd.nil _, o⟩
theorem equalG {b off k n cap : Nat} {xs ds : List Nat} {w : World} (hr : ∀ w', Old w w' → Rd w' (some ⟨b, off + k, none⟩) (nums .u8 ds)) (hl : ds.length = n - k) (hn : n ≤ 100000) {B : Bool} (hB : B = decide (ds = le4 (crc xs))) {Ok : Tmp → Value → World → Prop} {o : Oper} {d x y : Tmp} (ho : o.op = .call { callee := .value (.func 40), args := #[.tmp x, .tmp y], argTypes := #[26, 26] }) (hd : o.dst = some d)
    (hx : ∀ v w', Ok x v w' → v = .slice (some ⟨b, off + k, none⟩) (n - k) (cap - k)) (hy : ∀ v w', Ok y v w' → (X23 xs).p v w') (h : ∀ w', Ok d (.bool B) w') : Ssb.Good Try.prog (fun w' => Old w w') Old Ok o :=
  Ssx.call hd fun a' w' hC hop => by
    have h1 := hx _ _ (hop x (by rw [ho]; simp [Op.operands, Call.operands]))
    obtain ⟨g, h2, h3⟩ := hy _ _ (hop y (by rw [ho]; simp [Op.operands, Call.operands]))
    have C := equal8_any (cap - k) 4 w' (by omega) hl rfl (hr w' hC) h3.rd
    refine ⟨40, #[.slice (some ⟨b, off + k, none⟩) (n - k) (cap - k), .slice (some ⟨g, 0, none⟩) 4 4], ?_, C.mono fun e w2 ⟨h4, h5⟩ => ⟨_, h4, hC.trans h5, h5, by rw [← hB]; exact h _⟩⟩
    simp [Act.eval] at h1 h2
    unfold execOp
    simp [ho, Act.eval, h1, h2, go_sem]

set_option maxHeartbeats 4000000 in
theorem opened_any (a : Option Addr) (n cap : Nat) (xs : List Nat) (w : World) (Y : By14 w a n cap xs) :
    Calls Try.prog 33 #[.slice a n cap] w fun e w' => OpR w xs e w' := by
  have hn := Y.len
  have HS := hide Y.small
  by_cases h1 : n < 4
  · have E : opE xs = 3 := by unfold opE; rw [hn, if_pos h1]
    have t1 : decide ((n : Int) < 4) = true := by simp; omega
    have F := hide (fun (w' : World) (o : Old w w') => OpR.bad E (by omega) o)
    clear E Y hn
    go_enter Try.func33, Try.ntmps33
    go_wp2
    go_ret2
    exact F.out _ (Old.refl _)
  have t1 : decide ((n : Int) < 4) = false := by simp; omega
  by_cases h2 : 65540 < n
  · have E : opE xs = 6 := by unfold opE; rw [hn, if_neg h1, if_pos h2]
    have t2 : decide ((65540 : Int) < n) = true := by simp; omega
    have t2' : decide ((n : Int) > 65540) = true := t2
    have F := hide (fun (w' : World) (o : Old w w') => OpR.bad E (by omega) o)
    clear E Y hn
    go_enter Try.func33, Try.ntmps33
    go_wp2
    go_ret2
    exact F.out _ (Old.refl _)
  have t2 : decide ((65540 : Int) < n) = false := by simp; omega
  have t2' : decide ((n : Int) > 65540) = false := t2
  obtain ⟨k, hk⟩ : ∃ k, n = k + 4 := ⟨n - 4, by omega⟩
  obtain ⟨b, off, _, rfl, _, _⟩ := Y.rd.num (i := 0) (by omega)
  have HE : opE xs = if le4 (crc (xs.take k)) ≠ xs.drop k then 2 else 0 := by
    unfold opE
    rw [hn, if_neg h1, if_neg h2, show n - 4 = k by omega]
  have OL : opL xs = if opE xs = 0 then xs.take k else [] := by unfold opL; rw [hn, show n - 4 = k by omega]
  have HB := hide (fun (w' : World) (o : Old w w') => (Y.mono o).front k (by omega))
  have HR := hide (fun (w' : World) (o : Old w w') => rd_drop (Y.rd.mono o) k)
  have HLD : Hid ((xs.drop k).length = n - k) := by rw [Hid, List.length_drop, hn]
  have HLT : Hid ((xs.take k).length = k) := by rw [Hid, List.length_take, hn]; omega
  have HC := hide (show n ≤ 100000 by omega)
  have q0 : (0 : Int) ≤ k := by omega
  have hcap := Y.room
  have q1 : (k : Int) ≤ cap := by omega
  have q2 : k ≤ cap := by omega
  have q4 : 1 ≤ cap - k := by omega
  have q5 : (k : Int) ≤ n := by omega
  have q6 : k ≤ n := by omega
  have q7 : k < cap := by omega
  have q8 : ¬ cap = k := by omega
  have ek' : wrap64 ((n : Int) - 4) = (k : Int) := by have := HS.out; unfold wrap64; omega
  obtain ⟨B, hB⟩ : ∃ B, B = decide (xs.drop k = le4 (crc (xs.take k))) := ⟨_, rfl⟩
  have HBB := hide hB
  have F2 : Hid (B = false → ∀ w', Old w w' → OpR w xs (.returned (.tuple #[.slice none 0 0, .int .i64 2])) w') := by
    intro hb w' o
    refine OpR.bad ?_ (by omega) o
    rw [HE, if_pos]
    intro e
    rw [hB, decide_eq_false_iff_not] at hb
    exact hb e.symm
  have F0 : Hid (B = true → ∀ w', Old w w' → OpR w xs (.returned (.tuple #[.slice (some ⟨b, off, none⟩) k cap, .int .i64 0])) w') := by
    intro hb w' o
    rw [hB, decide_eq_true_iff] at hb
    have h0 : opE xs = 0 := by rw [HE, if_neg (by simpa using hb.symm)]
    unfold OpR
    rw [OL, h0, if_pos rfl]
    exact ⟨_, _, by rw [HLT.out], by rw [HLT.out]; exact q2, (HB.out w' o).rd, o⟩
  clear Y hn hk HE OL hB hcap h1 h2
  go_enter Try.func33, Try.ntmps33
  go_wp2_with fail
  simp only [ek']
  refine Ssz.region (Ext := Old) 9 (fun w' => Old w w') (Ssz.Apart []) [14, 15, 16, 17, 18, 19, 20, 21, 22]
    [(14, Ssx.cst (.slice (some ⟨b, off, none⟩) n cap)), (15, Ssx.cst (.int .i64 (k : Int))), (16, Ssx.cst (.slice (some ⟨b, off + k, none⟩) (n - k) (cap - k))), (17, Ssx.cst (.slice (some ⟨b, off, none⟩) n cap)), (18, Ssx.cst (.int .i64 (k : Int))), (19, Ssx.cst (.slice (some ⟨b, off, none⟩) k cap)), (20, X23 (xs.take k)), (21, Ssx.cst (.bool B)), (22, Ssx.cst (.bool (!B)))]
    [] (by kernel_rfl) (by kernel_rfl) (by kernel_rfl) (by simp) (by kernel_rfl) (by intro p hp; cases hp) (by kernel_rfl) (by kernel_rfl) Old.refl (Old.of_drewN _ _) ?apart ?good ?behind
  case apart => exact ⟨fun s hs => by simp at hs, fun s hs => by simp at hs⟩
  case good =>
    have hE : ∀ w w' : World, Old w w' → w.heap.size ≤ w'.heap.size := fun _ _ h => h.size
    refine And.intro (.inr ⟨by kernel_rfl, Ssz.keep (Ssx.mv Old.refl rfl rfl (fun _ _ h => h)) hE (by kernel_rfl)⟩) ?_
    refine And.intro (.inr ⟨by kernel_rfl, Ssz.keep (Ssx.mv Old.refl rfl rfl (fun _ _ h => h)) hE (by kernel_rfl)⟩) ?_
    refine And.intro (.inr ⟨by kernel_rfl, Ssz.keep (Ssx.val2 Old.refl (x := 14) (y := 15) (.slice (some ⟨b, off, none⟩) n cap) (.int .i64 (k : Int)) (by simp [Op.operands]) (by simp [Op.operands]) rfl (fun _ _ h => h) (fun _ _ h => h) (fun ρ h1 h2 hc w => by unfold execOp; simp [h1, h2, q0, q5, q8, go_sem]) (fun _ => rfl)) hE (by kernel_rfl)⟩) ?_
    refine And.intro (.inr ⟨by kernel_rfl, Ssz.keep (Ssx.mv Old.refl rfl rfl (fun _ _ h => h)) hE (by kernel_rfl)⟩) ?_
    refine And.intro (.inr ⟨by kernel_rfl, Ssz.keep (Ssx.mv Old.refl rfl rfl (fun _ _ h => h)) hE (by kernel_rfl)⟩) ?_
    refine And.intro (.inr ⟨by kernel_rfl, Ssz.keep (Ssx.val2 Old.refl (x := 17) (y := 18) (.slice (some ⟨b, off, none⟩) n cap) (.int .i64 (k : Int)) (by simp [Op.operands]) (by simp [Op.operands]) rfl (fun _ _ h => h) (fun _ _ h => h) (fun ρ h1 h2 hc w => by unfold execOp; simp [h1, h2, q0, q1, go_sem]) (fun _ => rfl)) hE (by kernel_rfl)⟩) ?_
    refine And.intro (.inr ⟨by kernel_rfl, Ssz.keep (Ssx.call rfl fun a' w' hC hop => ⟨32, #[.slice (some ⟨b, off, none⟩) k cap], ?_, (checkBytes_any _ k cap (xs.take k) w' (HB.out w' hC)).mono fun _ _ ⟨g, h1, _, h3, h4⟩ => ⟨_, h1, hC.trans h4, h4, g, rfl, h3⟩⟩) hE (by kernel_rfl)⟩) ?_
    · have h0 : a'.eval (.tmp 19) = .slice (some ⟨b, off, none⟩) k cap := hop 19 (by simp [Op.operands, Call.operands])
      simp [Act.eval] at h0
      simp [h0, go_sem]
    refine And.intro (.inr ⟨by kernel_rfl, Ssz.keep (equalG HR.out HLD.out HC.out HBB.out rfl rfl (fun _ _ h => h) (fun _ _ h => h) (fun _ => rfl)) hE (by kernel_rfl)⟩) ?_
    refine And.intro (.inr ⟨by kernel_rfl, Ssz.keep (Ssx.val1 Old.refl (x := 21) (.bool B) (by simp [Op.operands]) rfl (fun _ _ h => h) (fun ρ h1 hc w => by unfold execOp; simp [h1, go_sem]) (fun _ => rfl)) hE (by kernel_rfl)⟩) ?_
    exact trivial
  case behind =>
    intro vals wb hC hD hv
    have v14 : vals 14 = _ := hv _ (.head _)
    have v15 : vals 15 = _ := hv _ (.tail _ (.head _))
    have v16 : vals 16 = _ := hv _ (.tail _ (.tail _ (.head _)))
    have v17 : vals 17 = _ := hv _ (.tail _ (.tail _ (.tail _ (.head _))))
    have v18 : vals 18 = _ := hv _ (.tail _ (.tail _ (.tail _ (.tail _ (.head _)))))
    have v19 : vals 19 = _ := hv _ (.tail _ (.tail _ (.tail _ (.tail _ (.tail _ (.head _))))))
    have v20 := hv _ (.tail _ (.tail _ (.tail _ (.tail _ (.tail _ (.tail _ (.head _)))))))
    have v21 : vals 21 = _ := hv _ (.tail _ (.tail _ (.tail _ (.tail _ (.tail _ (.tail _ (.tail _ (.head _))))))))
    have v22 : vals 22 = _ := hv _ (.tail _ (.tail _ (.tail _ (.tail _ (.tail _ (.tail _ (.tail _ (.tail _ (.head _)))))))))
    simp only [Ssa.putAll, List.map_cons, List.map_nil, List.foldl_cons, List.foldl_nil, List.setIfInBounds_toArray, List.set_cons_succ, List.set_cons_zero, v14, v15, v16, v17, v18, v19, v21, v22, List.drop_succ_cons, List.drop_zero]
    have OO := hide hC
    clear hC hD hv v20 v14 v15 v16 v17 v18 v19 v21 v22
    cases B
    · have G := hide (F2.out rfl _ OO.out)
      go_wp2
      go_ret2
      exact G.out
    · have G := hide (F0.out rfl _ OO.out)
      go_wp2
      go_ret2
      exact G.out

theorem OwnsB.lit {w : World} {base : Nat} {v : Value} {xs : List Nat} (h : OwnsB w base v xs) : ∃ a cap, v = .slice a xs.length cap ∧ xs.length ≤ cap ∧ Rd w a (nums .u8 xs) ∧ ∀ x, a = some x → ∃ g, x = ⟨g, 0, Option.none⟩ ∧ base ≤ g ∧ g < w.heap.size := by
  obtain ⟨a, cap, e, hc, rd⟩ := h.rd
  refine ⟨a, cap, e, hc, rd, ?_⟩
  rintro x rfl
  have hl := fun g hg => h.lt (g := g) hg
  rcases h.2 with ⟨e2, _⟩ | ⟨g, cap2, cur, e2, h1, h2, _⟩
  · rw [e] at e2; cases e2
  · rw [e] at e2
    cases e2
    exact ⟨g, rfl, h1, (Array.getElem?_eq_some_iff.1 h2).1⟩

set_option maxHeartbeats 2000000 in
theorem look_any (a : Option Addr) (n cap : Nat) (xs : List Nat) (w : World) (Y : By14 w a n cap xs) :
    Calls Try.prog 18 #[.slice a n cap] w fun e w' => ∃ v O, e = .returned v ∧ Old w w' ∧ (∀ i, O i → w.heap.size ≤ i) ∧ EyeD v (opL xs) (opE xs) w' O := by
  have C1 := hide (opened_any a n cap xs w Y)
  have HX := hide (opL_lt Y.each)
  have HL := hide (opL_len xs)
  have HE : Hid (opE xs ≠ 0 → opL xs = []) := fun h => by unfold opL; rw [if_neg h]
  clear Y
  unfold OpR at C1
  generalize opE xs = er at *
  generalize opL xs = l at *
  go_enter Try.func18, Try.ntmps18
  go_wp2_with fail
  refine C1.out.mono ?_
  rintro e w1 ⟨a1, k1, rfl, hk, rd, o1⟩
  have C2 := hide (clone_any a1 l.length k1 l w1 rfl rd (by have := HL.out; omega))
  have O1 := hide o1
  clear C1 rd o1 hk
  go_wp2_with fail
  refine C2.out.mono ?_
  rintro e w2 ⟨v, rfl, ow, o2⟩
  obtain ⟨a2, k2, rfl, hk2, rd2, lit⟩ := ow.lit
  have hz1 := O1.out.size
  have hz2 := o2.size
  have R : Row (w2.alloc (.cells #[.slice a2 l.length k2, .int .i64 er] 71)) w2.heap.size 71 [.slice a2 l.length k2, .int .i64 er] := Row.new w2 71 [.slice a2 l.length k2, .int .i64 er]
  have P : Hid (EyeD (.pointer (some ⟨w2.heap.size, 0, none⟩)) l er (w2.alloc (.cells #[.slice a2 l.length k2, .int .i64 er] 71)) (fun i => i = w2.heap.size ∨ ∃ x, 0 < l.length ∧ a2 = some x ∧ x.block = i)) :=
    ⟨w2.heap.size, a2, k2, l, rfl, fun i => Iff.rfl, R, hk2, rd2.mono (Old.of_alloc _ _), fun x _ hx => by
      obtain ⟨g, rfl, _, h⟩ := lit x hx
      show g ≠ w2.heap.size
      omega, HL.out, HX.out, fun _ => rfl, HE.out, fun x hx => by
      obtain ⟨g, rfl, _⟩ := lit x hx
      exact ⟨g, 0, rfl⟩⟩
  have HO : Hid (∀ i, (i = w2.heap.size ∨ ∃ x, 0 < l.length ∧ a2 = some x ∧ x.block = i) → w.heap.size ≤ i) := by
    intro i hi
    rcases hi with rfl | ⟨x, _, hx, rfl⟩
    · omega
    · obtain ⟨g, rfl, h, _⟩ := lit x hx
      show w.heap.size ≤ g
      omega
  have OO := hide ((O1.out.trans o2).alloc (.cells #[.slice a2 l.length k2, .int .i64 er] 71))
  clear ow o2 hk2 rd2 lit R hz1 hz2 C2
  go_wp2
  go_ret
  exact ⟨_, _, rfl, OO.out, HO.out, P.out⟩

theorem addN (a : Option Addr) (n c : Nat) (w : World) : Calls Try.prog 29 #[.pointer none, .slice a n c] w fun e w' => e = .returned (.pointer none) ∧ w' = w := by
  go_enter Try.func29, Try.ntmps29
  go_wp2
  go_ret
  exact ⟨rfl, rfl⟩

theorem smallN_any (n : Int) (w : World) : Calls Try.prog 10 #[.pointer none, .int .i64 n] w fun e w' => e = .returned (.pointer none) ∧ Old w w' := by
  obtain ⟨z, hz⟩ : ∃ z : Nat, IntKind.u64.wrap n = (z : Int) := ⟨(n % 18446744073709551616).toNat, by show n % 18446744073709551616 = _; omega⟩
  have C1 : Hid (Calls Try.prog 30 #[.int .u64 (z : Int), .int .i64 4] w fun e w' => ∃ g, e = .returned (.slice (some ⟨g, 0, none⟩) 4 4) ∧ w.heap.size ≤ g ∧ Row w' g 5 (nums .u8 (leB 4 z)) ∧ Old w w') := lowest_any z 4 (by omega) w
  have hz' : n % 18446744073709551616 = (z : Int) := hz
  go_enter Try.func10, Try.ntmps10
  go_wp2_with fail
  refine C1.out.mono ?_
  rintro e w1 ⟨g, rfl, _, _, o⟩
  have OO := hide o
  clear o C1
  go_wp2_with fail
  refine (addN _ _ _ _).mono ?_
  rintro e w2 ⟨rfl, rfl⟩
  go_wp2
  go_ret
  exact ⟨rfl, OO.out⟩

theorem greatN_any (n : Nat) (w : World) : Calls Try.prog 12 #[.pointer none, .int .u64 (n : Nat)] w fun e w' => e = .returned (.pointer none) ∧ Old w w' := by
  have C1 : Hid (Calls Try.prog 30 #[.int .u64 (n : Int), .int .i64 8] w fun e w' => ∃ g, e = .returned (.slice (some ⟨g, 0, none⟩) 8 8) ∧ w.heap.size ≤ g ∧ Row w' g 5 (nums .u8 (leB 8 n)) ∧ Old w w') := lowest_any n 8 (by omega) w
  go_enter Try.func12, Try.ntmps12
  go_wp2_with fail
  refine C1.out.mono ?_
  rintro e w1 ⟨g, rfl, _, _, o⟩
  have OO := hide o
  clear o C1
  go_wp2_with fail
  refine (addN _ _ _ _).mono ?_
  rintro e w2 ⟨rfl, rfl⟩
  go_wp2
  go_ret
  exact ⟨rfl, OO.out⟩

theorem bytesN_any (b : Option Addr) (n cap : Nat) (w : World) : Calls Try.prog 14 #[.pointer none, .slice b n cap] w fun e w' => e = .returned (.pointer none) ∧ Old w w' := by
  have C1 := hide (smallN_any n w)
  go_enter Try.func14, Try.ntmps14
  go_wp2_with fail
  refine C1.out.mono ?_
  rintro e w1 ⟨rfl, o⟩
  have OO := hide o
  clear o C1
  go_wp2_with fail
  refine (addN _ _ _ _).mono ?_
  rintro e w2 ⟨rfl, rfl⟩
  go_wp2
  go_ret
  exact ⟨rfl, OO.out⟩

theorem sealN_any (w : World) : Calls Try.prog 16 #[.pointer none] w fun e w' => ∃ a cap, e = .returned (.tuple #[.slice a 0 cap, .int .i64 1]) ∧ Old w w' := by
  go_enter Try.func16, Try.ntmps16
  go_wp2
  go_ret2
  exact ⟨none, 0, rfl, Old.refl _⟩

theorem takeN (n : Int) (w : World) : Calls Try.prog 37 #[.pointer none, .int .i64 n] w fun e w' => e = .returned (.slice none 0 0) ∧ w' = w := by
  go_enter Try.func37, Try.ntmps37
  go_wp2
  go_ret
  exact ⟨rfl, rfl⟩
theorem numberN (w : World) : Calls Try.prog 36 #[.slice none 0 0] w fun e w' => e = .returned (.int .u64 0) ∧ w' = w := number_any none 0 0 [] (by simp) rfl (by omega) w (Rd.nil _)

theorem eSmallN_any (w : World) : Calls Try.prog 21 #[.pointer none] w fun e w' => e = .returned (.int .i64 0) ∧ w' = w := by
  go_enter Try.func21, Try.ntmps21
  go_wp2_with fail
  refine (takeN _ _).mono ?_
  rintro e w1 ⟨rfl, rfl⟩
  go_wp2_with fail
  refine (numberN _).mono ?_
  rintro e w1 ⟨rfl, rfl⟩
  go_wp2
  go_ret
  exact ⟨rfl, rfl⟩
theorem eGreatN_any (w : World) : Calls Try.prog 22 #[.pointer none] w fun e w' => e = .returned (.int .u64 0) ∧ w' = w := by
  go_enter Try.func22, Try.ntmps22
  go_wp2_with fail
  refine (takeN _ _).mono ?_
  rintro e w1 ⟨rfl, rfl⟩
  go_wp2_with fail
  refine (numberN _).mono ?_
  rintro e w1 ⟨rfl, rfl⟩
  go_wp2
  go_ret
  exact ⟨rfl, rfl⟩
theorem eBytesN_any (w : World) : Calls Try.prog 24 #[.pointer none] w fun e w' => e = .returned (.slice none 0 0) ∧ w' = w := by
  go_enter Try.func24, Try.ntmps24
  go_wp2_with fail
  refine (eSmallN_any _).mono ?_
  rintro e w1 ⟨rfl, rfl⟩
  go_wp2_with fail
  refine (takeN _ _).mono ?_
  rintro e w1 ⟨rfl, rfl⟩
  go_wp2
  go_ret
  exact ⟨rfl, rfl⟩
theorem eEndN_any (w : World) : Calls Try.prog 25 #[.pointer none] w fun e w' => e = .returned (.int .i64 1) ∧ w' = w := by
  go_enter Try.func25, Try.ntmps25
  go_wp2
  go_ret
  exact ⟨rfl, rfl⟩

theorem old_of_same {P : Ending → Prop} {w : World} {e : Ending} {w' : World} (h : P e ∧ w' = w) : P e ∧ Old w w' := ⟨h.1, h.2 ▸ Old.refl _⟩
def letterK : LetterK where
  Pap := PapD
  Eye := EyeD
  papIn := fun h => h.isIn
  papStay := fun h hs hz => h.stay hs hz
  papPtr := fun ⟨b, _, _, _, h, _⟩ => ⟨_, h⟩
  eyeIn := fun h => h.isIn
  eyeStay := fun h hs hz => h.stay hs hz
  eyePtr := fun ⟨b, _, _, _, h, _⟩ => ⟨_, h⟩
  blank := blank_any
  small := fun v st m O n w h _ hn => small_any v st m (m + 4) O n w h hn
  great := fun v st m O n w h _ hn => great_any v st m (m + 8) O n w h hn
  bytes := fun v st m O b n cap xs w h _ Y hn hb => bytes_any v st m (m + 4 + n) O b n cap xs w h Y hn hb
  seal_ := fun v st m O w h _ => seal_any v st m O w h
  look := fun b n cap xs w Y => look_any b n cap xs w Y
  eSmall := eSmall_any
  eGreat := eGreat_any
  eBytes := eBytes_any
  eEnd := eEnd_any
  check := fun b n cap xs w Y _ => (check_any b n cap xs w Y).mono fun _ _ h => old_of_same (P := fun e => e = _) h
  smallN := smallN_any
  greatN := greatN_any
  bytesN := bytesN_any
  sealN := sealN_any
  eSmallN := fun w => (eSmallN_any w).mono fun _ _ h => old_of_same (P := fun e => e = _) h
  eGreatN := fun w => (eGreatN_any w).mono fun _ _ h => old_of_same (P := fun e => e = _) h
  eBytesN := fun w => (eBytesN_any w).mono fun _ _ ⟨h1, h2⟩ => ⟨none, 0, h1, h2 ▸ Old.refl _⟩
  eEndN := fun w => (eEndN_any w).mono fun _ _ h => old_of_same (P := fun e => e = _) h
end Go.Proofs.Ytccphdngmhfmnaa
