/-
  Package letter: what a Paper's Seal answers; what a nil Paper and a nil Eye answer.
-/
import Derived.Test.YtccphdngmhfmnaaLetterF
import Derived.Test.YtccphdngmhfmnaaSsz
namespace Go.Proofs.Ytccphdngmhfmnaa
open Go.RowKit Cn
set_option linter.unusedVariables false

theorem OwnsB.base {w : World} {b b' : Nat} {v : Value} {xs : List Nat} (h : OwnsB w b v xs) (hb : b' ≤ b) : OwnsB w b' v xs := by
  refine ⟨h.1, ?_⟩
  rcases h.2 with hn | ⟨g, cap, cur, rfl, h1, rest⟩
  · exact .inl hn
  · exact .inr ⟨g, cap, cur, rfl, Nat.le_trans hb h1, rest⟩
theorem PapB.mono {w w' : World} {b : Nat} {fv : Value} {s : List Nat} {er : Int} {st : Option (List Nat)} (P : PapB w b fv s er st) (o : Old w w') : PapB w' b fv s er st :=
  ⟨P.row.mono o, P.own.mono o, P.ne, P.len, P.each, P.is⟩
/-- Two slices as a slice, in a region that draws. -/
theorem bld2 {C : World → Prop} {Ok : Tmp → Value → World → Prop} {o : Oper} {d x y : Tmp} {u : Value} (ho : o.op = .buildSlice 76 2 #[(0, .tmp x), (1, .tmp y)]) (hd : o.dst = some d) (p : Value → World → Prop) (hu : ∃ a n c, u = .slice a n c) (hp : ∀ v w, p v w → ∃ a n c, v = .slice a n c) (hx : ∀ v w, Ok x v w → v = u) (hy : ∀ v w, Ok y v w → p v w) (hC : ∀ w w', C w → Old w w' → C w')
    (h : ∀ v w, C w → p v w → Ok d (.slice (some ⟨w.heap.size, 0, none⟩) 2 2) (w.alloc (.cells #[u, v] 26))) : Ssb.Good Try.prog C Old Ok o :=
  Ssx.step hd fun a w hc hop => by
    have h1 := hx _ _ (hop x (by rw [ho]; simp [Op.operands]))
    have h2 := hy _ _ (hop y (by rw [ho]; simp [Op.operands]))
    obtain ⟨a1, n1, c1, e1⟩ := hp _ _ h2
    obtain ⟨a2, n2, c2, e2⟩ := hu
    refine ⟨.slice (some ⟨w.heap.size, 0, none⟩) 2 2, w.alloc (.cells #[u, a.eval (.tmp y)] 26), ?_, hC _ _ hc (Old.of_alloc _ _), Old.of_alloc _ _, h _ w hc h2⟩
    subst e2
    simp only [Act.eval] at h1 e1 ⊢
    rw [e1]
    unfold execOp
    simp [ho, Act.eval] at h1 e1 ⊢
    simp [h1, e1, go_sem]

def X23 (s : List Nat) : Ssx.XP Old := ⟨fun v w => ∃ g, v = .slice (some ⟨g, 0, none⟩) 4 4 ∧ Row w g 5 (nums .u8 (le4 (crc s))), fun _ _ _ ⟨g, h1, h2⟩ o => ⟨g, h1, h2.mono o⟩⟩
def X24 (a2 : Option Addr) (k2 : Nat) (s : List Nat) : Ssx.XP Old := ⟨fun v w => ∃ h g, v = .slice (some ⟨h, 0, none⟩) 2 2 ∧ Row w h 26 [.slice a2 s.length k2, .slice (some ⟨g, 0, none⟩) 4 4] ∧ Row w g 5 (nums .u8 (le4 (crc s))), fun _ _ _ ⟨h, g, h1, h2, h3⟩ o => ⟨h, g, h1, h2.mono o, h3.mono o⟩⟩
def X25 (B : Nat) (s : List Nat) : Ssx.XP Old := ⟨fun v w => OwnsB w B v (sealed s), fun _ _ _ h o => h.mono o⟩
theorem concatG (a2 : Option Addr) (k2 : Nat) (s : List Nat) {w : World} (hl : s.length ≤ 65536) (hB : ∀ w', Old w w' → By14 w' a2 s.length k2 s) {Ok : Tmp → Value → World → Prop} {o : Oper} {d x : Tmp} (ho : o.op = .call { callee := .value (.func 31), args := #[.tmp x], argTypes := #[76] }) (hd : o.dst = some d)
    (hx : ∀ v w', Ok x v w' → (X24 a2 k2 s).p v w') (h : ∀ v w', (X25 w.heap.size s).p v w' → Ok d v w') : Ssb.Good Try.prog (fun w' => Old w w') Old Ok o :=
  Ssx.call hd fun a' w' hC hop => by
    obtain ⟨g1, g2, h1, h2, h3⟩ := hx _ _ (hop x (by rw [ho]; simp [Op.operands, Call.operands]))
    have Y := hB w' hC
    have C := concat_any g1 a2 (some ⟨g2, 0, none⟩) s.length k2 4 4 s (le4 (crc s)) w' h2.rd rfl rfl Y.rd h3.rd (by omega) (by omega) (by omega)
    refine ⟨31, #[.slice (some ⟨g1, 0, none⟩) 2 2], ?_, C.mono fun e w2 ⟨v, h4, h5, h6⟩ => ⟨v, h4, hC.trans h6, h6, h _ _ (h5.base hC.size)⟩⟩
    simp [Act.eval] at h1
    unfold execOp
    simp [ho, Act.eval, h1, go_sem]

set_option maxHeartbeats 4000000 in
theorem seal_any (v : Value) (st : Option (List Nat)) (m : Nat) (O : Nat → Prop) (w : World) (h : PapD v st m w O) :
    Calls Try.prog 16 #[v] w fun e w' => ∃ r, e = .returned (.tuple #[r, .int .i64 (sealE st)]) ∧ Kept O w w' ∧ (sealE st = 0 → ∃ g cap rest, r = .slice (some ⟨g, 0, none⟩) (sealS st).length cap ∧ w.heap.size ≤ g ∧ (sealS st).length ≤ cap ∧ Row w' g 5 (nums .u8 (sealS st) ++ rest)) ∧ (sealE st ≠ 0 → ∃ a cap, r = .slice a 0 cap) := by
  obtain ⟨b, fv, s, er, rfl, hO, P⟩ := h
  have SE : sealE st = er := by
    rcases P.is with ⟨h1, h2⟩ | ⟨h1, h2, h3⟩ | ⟨h1, h2, l, h3, h4⟩
    · rw [h2, h1]; unfold sealE; simp only; rw [if_neg (by have := P.len; omega)]
    · rw [h2, h1]; rfl
    · rw [h3, h1]; unfold sealE; simp only; rw [if_pos h4]
  have SS : er = 0 → sealS st = sealed s := by
    intro he
    rcases P.is with ⟨h1, h2⟩ | ⟨h1, _⟩ | ⟨h1, _⟩
    · rw [h2]; rfl
    · omega
    · omega
  rw [SE]
  have HP := hide P
  have HO := hide hO
  have c0 := P.row.cell (i := 0) rfl
  have c1 := P.row.cell (i := 1) rfl
  have HL := hide P.len
  obtain ⟨a2, k2, hfv, hk, rd2⟩ := P.own.rd
  subst hfv
  have HB := hide (fun (w' : World) (o : Old w w') => (⟨rfl, hk, by have := P.len; omega, P.each, rd2.mono o⟩ : By14 w' a2 s.length k2 s))
  have HS := hide SS
  clear P hO SE SS hk rd2
  by_cases he : er = 0
  · subst he
    rw [HS.out rfl]
    clear HS
    have t0 : ((0 : Int) != 0) = false := rfl
    go_enter Try.func16, Try.ntmps16
    go_wp2_with fail
    refine Ssz.region (Ext := Old) 13 (fun w' => Old w w') (Ssz.Apart []) [15, 16, 17, 18, 19, 20, 21, 22, 23, 24, 25, 2, 3]
      [(15, Ssx.cst (.pointer (some ⟨b, 0, none⟩))), (16, Ssx.cst (.pointer (some ⟨b, 0, none⟩))), (17, Ssx.cst (.pointer (some ⟨b, 0, none⟩))), (18, Ssx.cst (.slice a2 s.length k2)), (19, Ssx.cst (.pointer (some ⟨b, 0, none⟩))), (20, Ssx.cst (.pointer (some ⟨b, 0, none⟩))), (21, Ssx.cst (.pointer (some ⟨b, 0, none⟩))), (22, Ssx.cst (.slice a2 s.length k2)), (23, X23 s), (24, X24 a2 k2 s), (25, X25 w.heap.size s), (2, X25 w.heap.size s), (3, Ssx.cst (.int .i64 0))]
      [] (by kernel_rfl) (by kernel_rfl) (by kernel_rfl) (by simp) (by kernel_rfl) (by intro p hp; cases hp) (by kernel_rfl) (by kernel_rfl) Old.refl (Old.of_drewN _ _) ?apart ?good ?behind
    case apart => exact ⟨fun s hs => by simp at hs, fun s hs => by simp at hs⟩
    case good =>
      have hE : ∀ w w' : World, Old w w' → w.heap.size ≤ w'.heap.size := fun _ _ h => h.size
      refine And.intro (.inr ⟨by kernel_rfl, Ssz.keep (Ssx.mv Old.refl rfl rfl (fun _ _ h => h)) hE (by kernel_rfl)⟩) ?_
      refine And.intro (.inr ⟨by kernel_rfl, Ssz.keep (Ssx.val1 Old.refl (x := 15) (.pointer (some ⟨b, 0, none⟩)) (by simp [Op.operands]) rfl (fun _ _ h => h) (fun ρ h1 hc w => Ssa.run_nil rfl h1 w) (fun _ => rfl)) hE (by kernel_rfl)⟩) ?_
      refine And.intro (.inr ⟨by kernel_rfl, Ssz.keep (Ssx.val1 Old.refl (x := 16) (.pointer (some ⟨b, 0, none⟩)) (by simp [Op.operands]) rfl (fun _ _ h => h) (fun ρ h1 hc w => by unfold execOp; simp [h1, go_sem]) (fun _ => rfl)) hE (by kernel_rfl)⟩) ?_
      refine And.intro (.inr ⟨by kernel_rfl, Ssz.keep (Ssy.cell Old.refl rfl rfl (⟨b, 0, none⟩) (.slice a2 s.length k2) (fun _ _ h => h) (fun w2 h => (HP.out.row.mono h).cell (i := 0) rfl) Try.underlying26 rfl (fun _ => rfl)) hE (by kernel_rfl)⟩) ?_
      refine And.intro (.inr ⟨by kernel_rfl, Ssz.keep (Ssx.mv Old.refl rfl rfl (fun _ _ h => h)) hE (by kernel_rfl)⟩) ?_
      refine And.intro (.inr ⟨by kernel_rfl, Ssz.keep (Ssx.val1 Old.refl (x := 19) (.pointer (some ⟨b, 0, none⟩)) (by simp [Op.operands]) rfl (fun _ _ h => h) (fun ρ h1 hc w => Ssa.run_nil rfl h1 w) (fun _ => rfl)) hE (by kernel_rfl)⟩) ?_
      refine And.intro (.inr ⟨by kernel_rfl, Ssz.keep (Ssx.val1 Old.refl (x := 20) (.pointer (some ⟨b, 0, none⟩)) (by simp [Op.operands]) rfl (fun _ _ h => h) (fun ρ h1 hc w => by unfold execOp; simp [h1, go_sem]) (fun _ => rfl)) hE (by kernel_rfl)⟩) ?_
      refine And.intro (.inr ⟨by kernel_rfl, Ssz.keep (Ssy.cell Old.refl rfl rfl (⟨b, 0, none⟩) (.slice a2 s.length k2) (fun _ _ h => h) (fun w2 h => (HP.out.row.mono h).cell (i := 0) rfl) Try.underlying26 rfl (fun _ => rfl)) hE (by kernel_rfl)⟩) ?_
      refine And.intro (.inr ⟨by kernel_rfl, Ssz.keep (Ssx.call rfl fun a' w' hC hop => ⟨32, #[.slice a2 s.length k2], ?_, (checkBytes_any a2 s.length k2 s w' (HB.out w' hC)).mono fun _ _ ⟨g, h1, _, h3, h4⟩ => ⟨_, h1, hC.trans h4, h4, g, rfl, h3⟩⟩) hE (by kernel_rfl)⟩) ?_
      · have h0 : a'.eval (.tmp 22) = .slice a2 s.length k2 := hop 22 (by simp [Op.operands, Call.operands])
        simp [Act.eval] at h0
        simp [h0, go_sem]
      refine And.intro (.inr ⟨by kernel_rfl, Ssz.keep (bld2 rfl rfl (X23 s).p ⟨_, _, _, rfl⟩ (fun v w2 ⟨g, h, _⟩ => ⟨_, _, _, h⟩) (fun _ _ h => h) (fun _ _ h => h) (fun w1 w2 h o => h.trans o) (fun v w2 hc ⟨g, h1, h2⟩ => ⟨w2.heap.size, g, rfl, by rw [h1]; exact Row.new w2 26 [.slice a2 s.length k2, .slice (some ⟨g, 0, none⟩) 4 4], h2.mono (Old.of_alloc _ _)⟩)) hE (by kernel_rfl)⟩) ?_
      refine And.intro (.inr ⟨by kernel_rfl, Ssz.keep (concatG a2 k2 s HL.out HB.out rfl rfl (fun _ _ h => h) (fun _ _ h => h)) hE (by kernel_rfl)⟩) ?_
      refine And.intro (.inr ⟨by kernel_rfl, Ssz.keep (Ssx.asg Old.refl rfl rfl (fun _ _ h => h)) hE (by kernel_rfl)⟩) ?_
      refine And.intro (.inr ⟨by kernel_rfl, Ssz.keep (Ssy.asgc Old.refl rfl rfl (fun _ => rfl)) hE (by kernel_rfl)⟩) ?_
      exact trivial
    case behind =>
      intro vals wb hC hD hv
      have v15 : vals 15 = _ := hv _ (.head _)
      have v16 : vals 16 = _ := hv _ (.tail _ (.head _))
      have v17 : vals 17 = _ := hv _ (.tail _ (.tail _ (.head _)))
      have v18 : vals 18 = _ := hv _ (.tail _ (.tail _ (.tail _ (.head _))))
      have v19 : vals 19 = _ := hv _ (.tail _ (.tail _ (.tail _ (.tail _ (.head _)))))
      have v20 : vals 20 = _ := hv _ (.tail _ (.tail _ (.tail _ (.tail _ (.tail _ (.head _))))))
      have v21 : vals 21 = _ := hv _ (.tail _ (.tail _ (.tail _ (.tail _ (.tail _ (.tail _ (.head _)))))))
      have v22 : vals 22 = _ := hv _ (.tail _ (.tail _ (.tail _ (.tail _ (.tail _ (.tail _ (.tail _ (.head _))))))))
      have v23 := hv _ (.tail _ (.tail _ (.tail _ (.tail _ (.tail _ (.tail _ (.tail _ (.tail _ (.head _)))))))))
      have v24 := hv _ (.tail _ (.tail _ (.tail _ (.tail _ (.tail _ (.tail _ (.tail _ (.tail _ (.tail _ (.head _))))))))))
      have v25 := hv _ (.tail _ (.tail _ (.tail _ (.tail _ (.tail _ (.tail _ (.tail _ (.tail _ (.tail _ (.tail _ (.head _)))))))))))
      have v2 := hv _ (.tail _ (.tail _ (.tail _ (.tail _ (.tail _ (.tail _ (.tail _ (.tail _ (.tail _ (.tail _ (.tail _ (.head _))))))))))))
      have v3 : vals 3 = _ := hv _ (.tail _ (.tail _ (.tail _ (.tail _ (.tail _ (.tail _ (.tail _ (.tail _ (.tail _ (.tail _ (.tail _ (.tail _ (.head _)))))))))))))
      simp only [Ssa.putAll, List.map_cons, List.map_nil, List.foldl_cons, List.foldl_nil, List.setIfInBounds_toArray, List.set_cons_succ, List.set_cons_zero, v15, v16, v17, v18, v19, v20, v21, v22, v3, List.drop_succ_cons, List.drop_zero]
      have RV := hide v2
      clear hv v2 v25 v24 v23 v15 v16 v17 v18 v19 v20 v21 v22 v3
      have OO := hide hC
      clear hC hD c0 c1
      obtain ⟨g, k, rest, hv2, lg, hk, R⟩ := OwnsB.row RV.out (by unfold sealed; rw [List.length_append]; show 0 < s.length + 4; omega)
      rw [hv2]
      clear RV hv2
      go_wp2
      go_ret2
      exact ⟨_, rfl, Kept.of_old OO.out, fun _ => ⟨g, k, rest, rfl, lg, hk, R⟩, fun h => absurd rfl h⟩
  · have t0 : (er != 0) = true := by simpa using he
    have HE := hide he
    clear he
    go_enter Try.func16, Try.ntmps16
    go_wp2_with fail
    go_quiet (fail)
    go_wp2
    go_ret2
    exact ⟨_, rfl, Kept.of_old (Old.of_drewN _ _), fun h => absurd h HE.out, fun _ => ⟨none, 0, rfl⟩⟩
end Go.Proofs.Ytccphdngmhfmnaa
