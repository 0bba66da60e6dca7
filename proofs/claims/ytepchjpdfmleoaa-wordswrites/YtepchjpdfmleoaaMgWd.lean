/-
  MgWd: 3 parts, one behind the other; what each proves, and under which conditions, its own heading says.
-/
import Derived.Test.YtepchjpdfmleoaaMgWa
import Derived.Test.YtepchjpdfmleoaaMgLetA
import Derived.Test.YtepchjpdfmleoaaMgText
import Derived.Test.YtepchjpdfmleoaaMgSs

/-
  Package words: a word's things are put down on a Paper.
-/
namespace Go.Proofs.Ytepchjpdfmleoaa
open Go.RowKit Cn Pn Wn
set_option linter.unusedVariables false

section
variable {w0 wr w' : World} {bs : List (Nat × TypeId × List Value)} {Q : World → (Nat → Prop) → Prop} {x y : Nat × TypeId × List Value}
theorem Lw.last (h : Lw w0 (bs ++ [x]) Q wr) : Row wr x.1 x.2.1 x.2.2 := h.row bs.length (by simp)
theorem Lw.last2 (h : Lw w0 (bs ++ [x] ++ [y]) Q wr) : Row wr x.1 x.2.1 x.2.2 := h.row bs.length (by simp)
theorem Lw.drop1 (h : Lw w0 (bs ++ [x]) Q wr) : Lw w0 bs Q wr := by
  have := h.take bs.length
  rwa [List.take_left] at this
theorem Lw.drop2 (h : Lw w0 (bs ++ [x] ++ [y]) Q wr) : Lw w0 bs Q wr := h.drop1.drop1
end

theorem writer_number (K : LetterK) {w0 wr : World} {bs : List (Nat × TypeId × List Value)} {v : Value} {st : Option (List Nat)} {m : Nat} (h : Lw w0 bs (K.Pap v st m) wr) (n : Nat) (hm : m ≤ 4000000) (hn : n < 4294967296) :
    Calls Try.prog 61 #[.agg #[v], .int .u32 (n : Nat)] wr fun e w' => e = .returned v ∧ Lw w0 bs (K.Pap v (smallP st (n : Int)) (m + 4)) w' := by
  have L1 := h.alloc (K.papS _ _ _) 59 [v] rfl
  have c0 := L1.last.cell (i := 0) rfl
  have C1 := hide (L1.small (n : Int) hm (by omega))
  have iw : IntKind.i64.wrap (n : Int) = (n : Int) := by rw [IntKind.wrap_i64]; omega
  clear L1 h hm
  go_enter Try.func61, Try.ntmps61
  go_wp2_with fail
  refine C1.out.mono ?_
  rintro e w1 ⟨rfl, L2⟩
  have L3 := hide L2.drop1
  clear C1 L2 c0
  go_wp2
  go_ret
  exact ⟨rfl, L3.out⟩

theorem writer_mark (K : LetterK) {w0 wr : World} {bs : List (Nat × TypeId × List Value)} {v : Value} {st : Option (List Nat)} {m : Nat} (h : Lw w0 bs (K.Pap v st m) wr) (yes : Bool) (hm : m ≤ 4000000) :
    Calls Try.prog 91 #[.agg #[v], .bool yes] wr fun e w' => e = .returned v ∧ Lw w0 bs (K.Pap v (smallP st (if yes then 1 else 0)) (m + 4)) w' := by
  have L1 := h.alloc (K.papS _ _ _) 59 [v] rfl
  have c0 := L1.last.cell (i := 0) rfl
  cases yes
  · have C1 := hide (L1.small 0 hm (by omega))
    clear L1 h hm
    go_enter Try.func91, Try.ntmps91
    go_wp2_with fail
    refine C1.out.mono ?_
    rintro e w1 ⟨rfl, L2⟩
    have L3 := hide L2.drop1
    clear C1 L2 c0
    go_wp2
    go_ret
    exact ⟨rfl, L3.out⟩
  · have C1 := hide (L1.small 1 hm (by omega))
    clear L1 h hm
    go_enter Try.func91, Try.ntmps91
    go_wp2_with fail
    refine C1.out.mono ?_
    rintro e w1 ⟨rfl, L2⟩
    have L3 := hide L2.drop1
    clear C1 L2 c0
    go_wp2
    go_ret
    exact ⟨rfl, L3.out⟩

set_option maxRecDepth 100000 in
set_option maxHeartbeats 2000000 in
theorem writer_card (K : LetterK) {w0 wr : World} {bs : List (Nat × TypeId × List Value)} {v : Value} {st : Option (List Nat)} {m : Nat} (h : Lw w0 bs (K.Pap v st m) wr) (x : Card) (hm : m ≤ 3000000) (h0 : B64 x.who) (h1 : x.lock < 18446744073709551616) (h2 : x.key < 18446744073709551616) :
    Calls Try.prog 57 #[.agg #[v], .agg #[.int .i64 x.who, .int .u64 (x.lock : Nat), .int .u64 (x.key : Nat)]] wr fun e w' => e = .returned v ∧ Lw w0 bs (K.Pap v (greatP (greatP (smallP st x.who) x.lock) x.key) (m + 4 + 8 + 8)) w' := by
  have LL0 := (h.alloc (K.papS _ _ _) 59 [v] rfl).alloc (K.papS _ _ _) 48 [.int .i64 x.who, .int .u64 (x.lock : Nat), .int .u64 (x.key : Nat)] (g := wr.heap.size + 1) (by rw [World.size_alloc])
  have HC0 : ∀ (Q : World → (Nat → Prop) → Prop) (w' : World), Lw w0 (bs ++ [(wr.heap.size, 59, [v])] ++ [(wr.heap.size + 1, 48, [.int .i64 x.who, .int .u64 (x.lock : Nat), .int .u64 (x.key : Nat)])]) Q w' → Row w' wr.heap.size 59 [v] ∧ Row w' (wr.heap.size + 1) 48 [.int .i64 x.who, .int .u64 (x.lock : Nat), .int .u64 (x.key : Nat)] := fun _ _ l => ⟨l.last2, l.last⟩
  have HB0 : ∀ (Q : World → (Nat → Prop) → Prop) (w' : World), Lw w0 (bs ++ [(wr.heap.size, 59, [v])] ++ [(wr.heap.size + 1, 48, [.int .i64 x.who, .int .u64 (x.lock : Nat), .int .u64 (x.key : Nat)])]) Q w' → Lw w0 bs Q w' := fun _ _ l => l.drop2
  obtain ⟨bz, hbz⟩ : ∃ bz, bz = bs ++ [(wr.heap.size, 59, [v])] ++ [(wr.heap.size + 1, 48, [.int .i64 x.who, .int .u64 (x.lock : Nat), .int .u64 (x.key : Nat)])] := ⟨_, rfl⟩
  rw [← hbz] at LL0 HC0 HB0
  have LL := hide LL0
  have HC := HC0
  have HB := hide HB0
  obtain ⟨S, hS⟩ : ∃ S : Nat → Option (List Nat) × Nat, S = fun s => match s with | 0 => (st, m) | 1 => (smallP st x.who, m + 4) | 2 => (greatP (smallP st x.who) x.lock, m + 4 + 8) | _ => (greatP (greatP (smallP st x.who) x.lock) x.key, m + 4 + 8 + 8) := ⟨_, rfl⟩
  have S0 : S 0 = (st, m) := by subst hS; rfl
  have S1 : S 1 = (smallP st x.who, m + 4) := by subst hS; rfl
  have S2 : S 2 = (greatP (smallP st x.who) x.lock, m + 4 + 8) := by subst hS; rfl
  have S3 : S 3 = (greatP (greatP (smallP st x.who) x.lock) x.key, m + 4 + 8 + 8) := by subst hS; rfl
  have T0 : ∀ w', Lw w0 bz (K.Pap v (S 0).1 (S 0).2) w' → Calls Try.prog 55 #[v, .int .i64 x.who] w' fun e w'' => e = .returned v ∧ Lw w0 bz (K.Pap v (S 1).1 (S 1).2) w'' := by
    intro w' h
    rw [S0] at h
    rw [S1]
    exact h.small x.who (by omega) h0
  have T1 : ∀ w', Lw w0 bz (K.Pap v (S 1).1 (S 1).2) w' → Calls Try.prog 89 #[v, .int .u64 (x.lock : Nat)] w' fun e w'' => e = .returned v ∧ Lw w0 bz (K.Pap v (S 2).1 (S 2).2) w'' := by
    intro w' h
    rw [S1] at h
    rw [S2]
    exact h.great x.lock (by omega) h1
  have T2 : ∀ w', Lw w0 bz (K.Pap v (S 2).1 (S 2).2) w' → Calls Try.prog 89 #[v, .int .u64 (x.key : Nat)] w' fun e w'' => e = .returned v ∧ Lw w0 bz (K.Pap v (S 3).1 (S 3).2) w'' := by
    intro w' h
    rw [S2] at h
    rw [S3]
    exact h.great x.key (by omega) h2
  clear hS h LL0 HC0 HB0 hbz
  go_enter Try.func57, Try.ntmps57
  go_wp2_with fail
  refine Ssc.region (Ext := fun _ _ => True) 12 [4, 7, 10] (fun w' => Row w' wr.heap.size 59 [v] ∧ Row w' (wr.heap.size + 1) 48 [.int .i64 x.who, .int .u64 (x.lock : Nat), .int .u64 (x.key : Nat)]) (fun s w' => Lw w0 bz (K.Pap v (S s).1 (S s).2) w') [5, 6, 7, 8, 9, 10, 11, 12, 13, 14, 15, 4]
    [(5, Ssx.cst (.pointer (some ⟨wr.heap.size, 0, none⟩))), (6, Ssx.cst (v)), (7, Ssx.cst (.pointer (some ⟨wr.heap.size + 1, 0, none⟩))), (8, Ssx.cst (.int .i64 x.who)), (9, Ssx.cst (v)), (10, Ssx.cst (.pointer (some ⟨wr.heap.size + 1, 1, none⟩))), (11, Ssx.cst (.int .u64 (x.lock : Nat))), (12, Ssx.cst (v)), (13, Ssx.cst (.pointer (some ⟨wr.heap.size + 1, 2, none⟩))), (14, Ssx.cst (.int .u64 (x.key : Nat))), (15, Ssx.cst (v)), (4, Ssx.cst (v))]
    [] (by kernel_rfl) (by kernel_rfl) (by kernel_rfl) (by simp) (by kernel_rfl) (by kernel_rfl) (by kernel_rfl) (by intro p hp; cases hp) (by kernel_rfl) (by kernel_rfl) (fun _ => trivial) (HC _ _ (LL.out.mono (K.papS _ _ _) (Old.of_drewN _ 1))) ((by rw [S0]; exact LL.out.mono (K.papS _ _ _) (Old.of_drewN _ 1))) ?good ?behind
  case good =>
    have hE : ∀ w w' : World, (fun w' => Row w' wr.heap.size 59 [v] ∧ Row w' (wr.heap.size + 1) 48 [.int .i64 x.who, .int .u64 (x.lock : Nat), .int .u64 (x.key : Nat)]) w → Old w w' → (fun _ _ => True) w w' := fun _ _ _ _ => trivial
    have hDo : ∀ (b : Nat) (w w' : World), (fun s w' => Lw w0 bz (K.Pap v (S s).1 (S s).2) w') b w → Old w w' → (fun s w' => Lw w0 bz (K.Pap v (S s).1 (S s).2) w') b w' := fun b _ _ h o => Lw.mono (K.papS _ _ _) h o
    refine And.intro (Ssc.ask_free (by kernel_rfl) fun b hb => ⟨by kernel_rfl, Ssc.keep (Ssx.val1 Old.refl (x := 2) (.pointer (some ⟨wr.heap.size, 0, none⟩)) (by simp [Op.operands]) rfl (fun _ _ h => h) (fun ρ h1 hc w => by unfold execOp; simp [h1, go_sem]) (fun _ => rfl)) hE (hDo b)⟩) ?_
    refine And.intro (Ssc.ask_free (by kernel_rfl) fun b hb => ⟨by kernel_rfl, Ssc.keep (Ssy.cell Old.refl rfl rfl (⟨wr.heap.size, 0, none⟩) (v) (fun _ _ h => h) (fun _ h => h.1.cell rfl) Try.underlying56 rfl (fun _ => rfl)) hE (hDo b)⟩) ?_
    refine And.intro (Ssc.ask_free (by kernel_rfl) fun b hb => ⟨by kernel_rfl, Ssc.keep (Ssx.val1 Old.refl (x := 3) (.pointer (some ⟨wr.heap.size + 1, 0, none⟩)) (by simp [Op.operands]) rfl (fun _ _ h => h) (fun ρ h1 hc w => by unfold execOp; simp [h1, go_sem]) (fun _ => rfl)) hE (hDo b)⟩) ?_
    refine And.intro (Ssc.ask_free (by kernel_rfl) fun b hb => ⟨by kernel_rfl, Ssc.keep (Ssy.cell Old.refl rfl rfl (⟨wr.heap.size + 1, 0, none⟩) (.int .i64 x.who) (fun _ _ h => h) (fun _ h => h.2.cell rfl) Try.underlying3 rfl (fun _ => rfl)) hE (hDo b)⟩) ?_
    refine And.intro (Ssc.ask_link (by kernel_rfl) (by kernel_rfl) (by kernel_rfl) (Ssc.link (b := 0) rfl fun a' w' hC hD hop => ⟨55, #[v, .int .i64 x.who], ?_, (T0 w' hD).mono fun _ _ ⟨e, l⟩ => ⟨_, e, HC _ _ l, trivial, rfl, l⟩⟩)) ?_
    · have h0 : a'.eval (.tmp 6) = v := hop 6 (by simp [Op.operands, Call.operands])
      have h1 : a'.eval (.tmp 8) = .int .i64 x.who := hop 8 (by simp [Op.operands, Call.operands])
      simp [Act.eval] at h0 h1
      simp [h0, h1, go_sem]
    refine And.intro (Ssc.ask_free (by kernel_rfl) fun b hb => ⟨by kernel_rfl, Ssc.keep (Ssx.val1 Old.refl (x := 3) (.pointer (some ⟨wr.heap.size + 1, 0, none⟩)) (by simp [Op.operands]) rfl (fun _ _ h => h) (fun ρ h1 hc w => by unfold execOp; simp [h1, go_sem]) (fun _ => rfl)) hE (hDo b)⟩) ?_
    refine And.intro (Ssc.ask_free (by kernel_rfl) fun b hb => ⟨by kernel_rfl, Ssc.keep (Ssy.cell Old.refl rfl rfl (⟨wr.heap.size + 1, 1, none⟩) (.int .u64 (x.lock : Nat)) (fun _ _ h => h) (fun _ h => h.2.cell rfl) Try.underlying46 rfl (fun _ => rfl)) hE (hDo b)⟩) ?_
    refine And.intro (Ssc.ask_link (by kernel_rfl) (by kernel_rfl) (by kernel_rfl) (Ssc.link (b := 1) rfl fun a' w' hC hD hop => ⟨89, #[v, .int .u64 (x.lock : Nat)], ?_, (T1 w' hD).mono fun _ _ ⟨e, l⟩ => ⟨_, e, HC _ _ l, trivial, rfl, l⟩⟩)) ?_
    · have h0 : a'.eval (.tmp 9) = v := hop 9 (by simp [Op.operands, Call.operands])
      have h1 : a'.eval (.tmp 11) = .int .u64 (x.lock : Nat) := hop 11 (by simp [Op.operands, Call.operands])
      simp [Act.eval] at h0 h1
      simp [h0, h1, go_sem]
    refine And.intro (Ssc.ask_free (by kernel_rfl) fun b hb => ⟨by kernel_rfl, Ssc.keep (Ssx.val1 Old.refl (x := 3) (.pointer (some ⟨wr.heap.size + 1, 0, none⟩)) (by simp [Op.operands]) rfl (fun _ _ h => h) (fun ρ h1 hc w => by unfold execOp; simp [h1, go_sem]) (fun _ => rfl)) hE (hDo b)⟩) ?_
    refine And.intro (Ssc.ask_free (by kernel_rfl) fun b hb => ⟨by kernel_rfl, Ssc.keep (Ssy.cell Old.refl rfl rfl (⟨wr.heap.size + 1, 2, none⟩) (.int .u64 (x.key : Nat)) (fun _ _ h => h) (fun _ h => h.2.cell rfl) Try.underlying46 rfl (fun _ => rfl)) hE (hDo b)⟩) ?_
    refine And.intro (Ssc.ask_link (by kernel_rfl) (by kernel_rfl) (by kernel_rfl) (Ssc.link (b := 2) rfl fun a' w' hC hD hop => ⟨89, #[v, .int .u64 (x.key : Nat)], ?_, (T2 w' hD).mono fun _ _ ⟨e, l⟩ => ⟨_, e, HC _ _ l, trivial, rfl, l⟩⟩)) ?_
    · have h0 : a'.eval (.tmp 12) = v := hop 12 (by simp [Op.operands, Call.operands])
      have h1 : a'.eval (.tmp 14) = .int .u64 (x.key : Nat) := hop 14 (by simp [Op.operands, Call.operands])
      simp [Act.eval] at h0 h1
      simp [h0, h1, go_sem]
    refine And.intro (Ssc.ask_free (by kernel_rfl) fun b hb => ⟨by kernel_rfl, Ssc.keep (Ssx.asg Old.refl rfl rfl (fun _ _ h => h)) hE (hDo b)⟩) ?_
    exact trivial
  case behind =>
    intro vals wb hC hD hv
    have v5 : vals 5 = _ := hv _ (.head _)
    have v6 : vals 6 = _ := hv _ (.tail _ (.head _))
    have v7 : vals 7 = _ := hv _ (.tail _ (.tail _ (.head _)))
    have v8 : vals 8 = _ := hv _ (.tail _ (.tail _ (.tail _ (.head _))))
    have v9 : vals 9 = _ := hv _ (.tail _ (.tail _ (.tail _ (.tail _ (.head _)))))
    have v10 : vals 10 = _ := hv _ (.tail _ (.tail _ (.tail _ (.tail _ (.tail _ (.head _))))))
    have v11 : vals 11 = _ := hv _ (.tail _ (.tail _ (.tail _ (.tail _ (.tail _ (.tail _ (.head _)))))))
    have v12 : vals 12 = _ := hv _ (.tail _ (.tail _ (.tail _ (.tail _ (.tail _ (.tail _ (.tail _ (.head _))))))))
    have v13 : vals 13 = _ := hv _ (.tail _ (.tail _ (.tail _ (.tail _ (.tail _ (.tail _ (.tail _ (.tail _ (.head _)))))))))
    have v14 : vals 14 = _ := hv _ (.tail _ (.tail _ (.tail _ (.tail _ (.tail _ (.tail _ (.tail _ (.tail _ (.tail _ (.head _))))))))))
    have v15 : vals 15 = _ := hv _ (.tail _ (.tail _ (.tail _ (.tail _ (.tail _ (.tail _ (.tail _ (.tail _ (.tail _ (.tail _ (.head _)))))))))))
    have v4 : vals 4 = _ := hv _ (.tail _ (.tail _ (.tail _ (.tail _ (.tail _ (.tail _ (.tail _ (.tail _ (.tail _ (.tail _ (.tail _ (.head _))))))))))))
    have hD2 := HB.out _ _ hD
    simp only [List.length_cons, List.length_nil, Nat.zero_add, Nat.reduceAdd, S3] at hD2
    have HD := hide hD2
    simp only [Ssa.putAll, List.map_cons, List.map_nil, List.foldl_cons, List.foldl_nil, List.setIfInBounds_toArray, List.set_cons_succ, List.set_cons_zero, v5, v6, v7, v8, v9, v10, v11, v12, v13, v14, v15, v4, List.drop_succ_cons, List.drop_zero]
    clear hC hD hD2 hv v5 v6 v7 v8 v9 v10 v11 v12 v13 v14 v15 v4
    go_wp2
    go_ret
    exact ⟨rfl, HD.out⟩

set_option maxRecDepth 100000 in
set_option maxHeartbeats 2000000 in
theorem writer_parcel (K : LetterK) {w0 wr : World} {bs : List (Nat × TypeId × List Value)} {v : Value} {st : Option (List Nat)} {m : Nat} (h : Lw w0 bs (K.Pap v st m) wr) (x : Parcel) (a : Option Addr) (cap : Nat) (B : By14 w0 a x.data.length cap x.data) (hl : x.data.length ≤ 100000) (hm : m ≤ 3000000) (h0 : B64 x.frm) (h1 : B64 x.to) :
    Calls Try.prog 59 #[.agg #[v], .agg #[.int .i64 x.frm, .int .i64 x.to, .slice a x.data.length cap]] wr fun e w' => e = .returned v ∧ Lw w0 bs (K.Pap v (bytesP (smallP (smallP st x.frm) x.to) x.data) (m + 4 + 4 + 4 + x.data.length)) w' := by
  have LL0 := (h.alloc (K.papS _ _ _) 59 [v] rfl).alloc (K.papS _ _ _) 50 [.int .i64 x.frm, .int .i64 x.to, .slice a x.data.length cap] (g := wr.heap.size + 1) (by rw [World.size_alloc])
  have HC0 : ∀ (Q : World → (Nat → Prop) → Prop) (w' : World), Lw w0 (bs ++ [(wr.heap.size, 59, [v])] ++ [(wr.heap.size + 1, 50, [.int .i64 x.frm, .int .i64 x.to, .slice a x.data.length cap])]) Q w' → Row w' wr.heap.size 59 [v] ∧ Row w' (wr.heap.size + 1) 50 [.int .i64 x.frm, .int .i64 x.to, .slice a x.data.length cap] := fun _ _ l => ⟨l.last2, l.last⟩
  have HB0 : ∀ (Q : World → (Nat → Prop) → Prop) (w' : World), Lw w0 (bs ++ [(wr.heap.size, 59, [v])] ++ [(wr.heap.size + 1, 50, [.int .i64 x.frm, .int .i64 x.to, .slice a x.data.length cap])]) Q w' → Lw w0 bs Q w' := fun _ _ l => l.drop2
  obtain ⟨bz, hbz⟩ : ∃ bz, bz = bs ++ [(wr.heap.size, 59, [v])] ++ [(wr.heap.size + 1, 50, [.int .i64 x.frm, .int .i64 x.to, .slice a x.data.length cap])] := ⟨_, rfl⟩
  rw [← hbz] at LL0 HC0 HB0
  have LL := hide LL0
  have HC := HC0
  have HB := hide HB0
  obtain ⟨S, hS⟩ : ∃ S : Nat → Option (List Nat) × Nat, S = fun s => match s with | 0 => (st, m) | 1 => (smallP st x.frm, m + 4) | 2 => (smallP (smallP st x.frm) x.to, m + 4 + 4) | _ => (bytesP (smallP (smallP st x.frm) x.to) x.data, m + 4 + 4 + 4 + x.data.length) := ⟨_, rfl⟩
  have S0 : S 0 = (st, m) := by subst hS; rfl
  have S1 : S 1 = (smallP st x.frm, m + 4) := by subst hS; rfl
  have S2 : S 2 = (smallP (smallP st x.frm) x.to, m + 4 + 4) := by subst hS; rfl
  have S3 : S 3 = (bytesP (smallP (smallP st x.frm) x.to) x.data, m + 4 + 4 + 4 + x.data.length) := by subst hS; rfl
  have T0 : ∀ w', Lw w0 bz (K.Pap v (S 0).1 (S 0).2) w' → Calls Try.prog 55 #[v, .int .i64 x.frm] w' fun e w'' => e = .returned v ∧ Lw w0 bz (K.Pap v (S 1).1 (S 1).2) w'' := by
    intro w' h
    rw [S0] at h
    rw [S1]
    exact h.small x.frm (by omega) h0
  have T1 : ∀ w', Lw w0 bz (K.Pap v (S 1).1 (S 1).2) w' → Calls Try.prog 55 #[v, .int .i64 x.to] w' fun e w'' => e = .returned v ∧ Lw w0 bz (K.Pap v (S 2).1 (S 2).2) w'' := by
    intro w' h
    rw [S1] at h
    rw [S2]
    exact h.small x.to (by omega) h1
  have T2 : ∀ w', Lw w0 bz (K.Pap v (S 2).1 (S 2).2) w' → Calls Try.prog 90 #[v, .slice a x.data.length cap] w' fun e w'' => e = .returned v ∧ Lw w0 bz (K.Pap v (S 3).1 (S 3).2) w'' := by
    intro w' h
    rw [S2] at h
    rw [S3]
    exact h.bytes a _ cap x.data (by omega) (B.mono h.old) hl (fun b h0 hb => .inl (B.rd.lt hb (by simpa [nums] using h0)))
  clear hS h LL0 HC0 HB0 hbz
  go_enter Try.func59, Try.ntmps59
  go_wp2_with fail
  refine Ssc.region (Ext := fun _ _ => True) 12 [4, 7, 10] (fun w' => Row w' wr.heap.size 59 [v] ∧ Row w' (wr.heap.size + 1) 50 [.int .i64 x.frm, .int .i64 x.to, .slice a x.data.length cap]) (fun s w' => Lw w0 bz (K.Pap v (S s).1 (S s).2) w') [5, 6, 7, 8, 9, 10, 11, 12, 13, 14, 15, 4]
    [(5, Ssx.cst (.pointer (some ⟨wr.heap.size, 0, none⟩))), (6, Ssx.cst (v)), (7, Ssx.cst (.pointer (some ⟨wr.heap.size + 1, 0, none⟩))), (8, Ssx.cst (.int .i64 x.frm)), (9, Ssx.cst (v)), (10, Ssx.cst (.pointer (some ⟨wr.heap.size + 1, 1, none⟩))), (11, Ssx.cst (.int .i64 x.to)), (12, Ssx.cst (v)), (13, Ssx.cst (.pointer (some ⟨wr.heap.size + 1, 2, none⟩))), (14, Ssx.cst (.slice a x.data.length cap)), (15, Ssx.cst (v)), (4, Ssx.cst (v))]
    [] (by kernel_rfl) (by kernel_rfl) (by kernel_rfl) (by simp) (by kernel_rfl) (by kernel_rfl) (by kernel_rfl) (by intro p hp; cases hp) (by kernel_rfl) (by kernel_rfl) (fun _ => trivial) (HC _ _ (LL.out.mono (K.papS _ _ _) (Old.of_drewN _ 1))) ((by rw [S0]; exact LL.out.mono (K.papS _ _ _) (Old.of_drewN _ 1))) ?good ?behind
  case good =>
    have hE : ∀ w w' : World, (fun w' => Row w' wr.heap.size 59 [v] ∧ Row w' (wr.heap.size + 1) 50 [.int .i64 x.frm, .int .i64 x.to, .slice a x.data.length cap]) w → Old w w' → (fun _ _ => True) w w' := fun _ _ _ _ => trivial
    have hDo : ∀ (b : Nat) (w w' : World), (fun s w' => Lw w0 bz (K.Pap v (S s).1 (S s).2) w') b w → Old w w' → (fun s w' => Lw w0 bz (K.Pap v (S s).1 (S s).2) w') b w' := fun b _ _ h o => Lw.mono (K.papS _ _ _) h o
    refine And.intro (Ssc.ask_free (by kernel_rfl) fun b hb => ⟨by kernel_rfl, Ssc.keep (Ssx.val1 Old.refl (x := 2) (.pointer (some ⟨wr.heap.size, 0, none⟩)) (by simp [Op.operands]) rfl (fun _ _ h => h) (fun ρ h1 hc w => by unfold execOp; simp [h1, go_sem]) (fun _ => rfl)) hE (hDo b)⟩) ?_
    refine And.intro (Ssc.ask_free (by kernel_rfl) fun b hb => ⟨by kernel_rfl, Ssc.keep (Ssy.cell Old.refl rfl rfl (⟨wr.heap.size, 0, none⟩) (v) (fun _ _ h => h) (fun _ h => h.1.cell rfl) Try.underlying56 rfl (fun _ => rfl)) hE (hDo b)⟩) ?_
    refine And.intro (Ssc.ask_free (by kernel_rfl) fun b hb => ⟨by kernel_rfl, Ssc.keep (Ssx.val1 Old.refl (x := 3) (.pointer (some ⟨wr.heap.size + 1, 0, none⟩)) (by simp [Op.operands]) rfl (fun _ _ h => h) (fun ρ h1 hc w => by unfold execOp; simp [h1, go_sem]) (fun _ => rfl)) hE (hDo b)⟩) ?_
    refine And.intro (Ssc.ask_free (by kernel_rfl) fun b hb => ⟨by kernel_rfl, Ssc.keep (Ssy.cell Old.refl rfl rfl (⟨wr.heap.size + 1, 0, none⟩) (.int .i64 x.frm) (fun _ _ h => h) (fun _ h => h.2.cell rfl) Try.underlying3 rfl (fun _ => rfl)) hE (hDo b)⟩) ?_
    refine And.intro (Ssc.ask_link (by kernel_rfl) (by kernel_rfl) (by kernel_rfl) (Ssc.link (b := 0) rfl fun a' w' hC hD hop => ⟨55, #[v, .int .i64 x.frm], ?_, (T0 w' hD).mono fun _ _ ⟨e, l⟩ => ⟨_, e, HC _ _ l, trivial, rfl, l⟩⟩)) ?_
    · have h0 : a'.eval (.tmp 6) = v := hop 6 (by simp [Op.operands, Call.operands])
      have h1 : a'.eval (.tmp 8) = .int .i64 x.frm := hop 8 (by simp [Op.operands, Call.operands])
      simp [Act.eval] at h0 h1
      simp [h0, h1, go_sem]
    refine And.intro (Ssc.ask_free (by kernel_rfl) fun b hb => ⟨by kernel_rfl, Ssc.keep (Ssx.val1 Old.refl (x := 3) (.pointer (some ⟨wr.heap.size + 1, 0, none⟩)) (by simp [Op.operands]) rfl (fun _ _ h => h) (fun ρ h1 hc w => by unfold execOp; simp [h1, go_sem]) (fun _ => rfl)) hE (hDo b)⟩) ?_
    refine And.intro (Ssc.ask_free (by kernel_rfl) fun b hb => ⟨by kernel_rfl, Ssc.keep (Ssy.cell Old.refl rfl rfl (⟨wr.heap.size + 1, 1, none⟩) (.int .i64 x.to) (fun _ _ h => h) (fun _ h => h.2.cell rfl) Try.underlying3 rfl (fun _ => rfl)) hE (hDo b)⟩) ?_
    refine And.intro (Ssc.ask_link (by kernel_rfl) (by kernel_rfl) (by kernel_rfl) (Ssc.link (b := 1) rfl fun a' w' hC hD hop => ⟨55, #[v, .int .i64 x.to], ?_, (T1 w' hD).mono fun _ _ ⟨e, l⟩ => ⟨_, e, HC _ _ l, trivial, rfl, l⟩⟩)) ?_
    · have h0 : a'.eval (.tmp 9) = v := hop 9 (by simp [Op.operands, Call.operands])
      have h1 : a'.eval (.tmp 11) = .int .i64 x.to := hop 11 (by simp [Op.operands, Call.operands])
      simp [Act.eval] at h0 h1
      simp [h0, h1, go_sem]
    refine And.intro (Ssc.ask_free (by kernel_rfl) fun b hb => ⟨by kernel_rfl, Ssc.keep (Ssx.val1 Old.refl (x := 3) (.pointer (some ⟨wr.heap.size + 1, 0, none⟩)) (by simp [Op.operands]) rfl (fun _ _ h => h) (fun ρ h1 hc w => by unfold execOp; simp [h1, go_sem]) (fun _ => rfl)) hE (hDo b)⟩) ?_
    refine And.intro (Ssc.ask_free (by kernel_rfl) fun b hb => ⟨by kernel_rfl, Ssc.keep (Ssy.cell Old.refl rfl rfl (⟨wr.heap.size + 1, 2, none⟩) (.slice a x.data.length cap) (fun _ _ h => h) (fun _ h => h.2.cell rfl) Try.underlying32 rfl (fun _ => rfl)) hE (hDo b)⟩) ?_
    refine And.intro (Ssc.ask_link (by kernel_rfl) (by kernel_rfl) (by kernel_rfl) (Ssc.link (b := 2) rfl fun a' w' hC hD hop => ⟨90, #[v, .slice a x.data.length cap], ?_, (T2 w' hD).mono fun _ _ ⟨e, l⟩ => ⟨_, e, HC _ _ l, trivial, rfl, l⟩⟩)) ?_
    · have h0 : a'.eval (.tmp 12) = v := hop 12 (by simp [Op.operands, Call.operands])
      have h1 : a'.eval (.tmp 14) = .slice a x.data.length cap := hop 14 (by simp [Op.operands, Call.operands])
      simp [Act.eval] at h0 h1
      simp [h0, h1, go_sem]
    refine And.intro (Ssc.ask_free (by kernel_rfl) fun b hb => ⟨by kernel_rfl, Ssc.keep (Ssx.asg Old.refl rfl rfl (fun _ _ h => h)) hE (hDo b)⟩) ?_
    exact trivial
  case behind =>
    intro vals wb hC hD hv
    have v5 : vals 5 = _ := hv _ (.head _)
    have v6 : vals 6 = _ := hv _ (.tail _ (.head _))
    have v7 : vals 7 = _ := hv _ (.tail _ (.tail _ (.head _)))
    have v8 : vals 8 = _ := hv _ (.tail _ (.tail _ (.tail _ (.head _))))
    have v9 : vals 9 = _ := hv _ (.tail _ (.tail _ (.tail _ (.tail _ (.head _)))))
    have v10 : vals 10 = _ := hv _ (.tail _ (.tail _ (.tail _ (.tail _ (.tail _ (.head _))))))
    have v11 : vals 11 = _ := hv _ (.tail _ (.tail _ (.tail _ (.tail _ (.tail _ (.tail _ (.head _)))))))
    have v12 : vals 12 = _ := hv _ (.tail _ (.tail _ (.tail _ (.tail _ (.tail _ (.tail _ (.tail _ (.head _))))))))
    have v13 : vals 13 = _ := hv _ (.tail _ (.tail _ (.tail _ (.tail _ (.tail _ (.tail _ (.tail _ (.tail _ (.head _)))))))))
    have v14 : vals 14 = _ := hv _ (.tail _ (.tail _ (.tail _ (.tail _ (.tail _ (.tail _ (.tail _ (.tail _ (.tail _ (.head _))))))))))
    have v15 : vals 15 = _ := hv _ (.tail _ (.tail _ (.tail _ (.tail _ (.tail _ (.tail _ (.tail _ (.tail _ (.tail _ (.tail _ (.head _)))))))))))
    have v4 : vals 4 = _ := hv _ (.tail _ (.tail _ (.tail _ (.tail _ (.tail _ (.tail _ (.tail _ (.tail _ (.tail _ (.tail _ (.tail _ (.head _))))))))))))
    have hD2 := HB.out _ _ hD
    simp only [List.length_cons, List.length_nil, Nat.zero_add, Nat.reduceAdd, S3] at hD2
    have HD := hide hD2
    simp only [Ssa.putAll, List.map_cons, List.map_nil, List.foldl_cons, List.foldl_nil, List.setIfInBounds_toArray, List.set_cons_succ, List.set_cons_zero, v5, v6, v7, v8, v9, v10, v11, v12, v13, v14, v15, v4, List.drop_succ_cons, List.drop_zero]
    clear hC hD hD2 hv v5 v6 v7 v8 v9 v10 v11 v12 v13 v14 v15 v4
    go_wp2
    go_ret
    exact ⟨rfl, HD.out⟩

end Go.Proofs.Ytepchjpdfmleoaa

/-
  Package words: lists are put down on a Paper; openings; a whole word.
-/
namespace Go.Proofs.Ytepchjpdfmleoaa
open Go.RowKit Cn Pn Wn
set_option linter.unusedVariables false

theorem small_st {t : List Nat} {n : Int} (h : 0 ≤ n ∧ n < 4294967296) : smallP (some t) n = some (t ++ le4 n.toNat) := by unfold smallP; rw [if_pos h]; rfl
theorem nat_st {t : List Nat} {n : Nat} (h : n < 4294967296) : smallP (some t) (n : Int) = some (t ++ le4 n) := by rw [small_st (by omega)]; rfl
theorem card_st {t : List Nat} {x : Card} (h : 0 ≤ x.who ∧ x.who ≤ 64) : greatP (greatP (smallP (some t) x.who) x.lock) x.key = some (t ++ cardT x) := by
  rw [small_st (by omega)]
  simp [greatP, cardT]
theorem parcel_st {t : List Nat} {x : Parcel} (h : 0 ≤ x.frm ∧ x.frm ≤ 64) (h2 : 0 ≤ x.to ∧ x.to ≤ 64) : bytesP (smallP (smallP (some t) x.frm) x.to) x.data = some (t ++ parcelT x) := by
  rw [small_st (by omega), small_st (by omega)]
  simp [bytesP, parcelT]
theorem rd_numW {w : World} {a : Option Addr} {k : IntKind} {zs : List Nat} (h : Rd w a (nums k zs)) {i : Nat} (hi : i < zs.length) :
    ∃ b off, a = some ⟨b, off, none⟩ ∧ w.cell? ⟨b, off + i, none⟩ = some (.int k ((zs[i] : Nat) : Int)) := by
  obtain ⟨b, off, ha, hc⟩ := h i (.int k ((zs[i] : Nat) : Int)) (by simp [nums, hi])
  exact ⟨b, off, ha, hc⟩

set_option maxRecDepth 100000 in
set_option maxHeartbeats 2000000 in
theorem writeList_card (K : LetterK) {w0 wr : World} {bs : List (Nat × TypeId × List Value)} {v : Value} {t : List Nat} {m : Nat} (h : Lw w0 bs (K.Pap v (some t) m) wr) (a : Option Addr) (cap : Nat) (l : List Card) (H : Tri w0 a cardV l) (hx : ∀ x ∈ l, 0 ≤ x.who ∧ x.who ≤ 64 ∧ x.lock < 18446744073709551616 ∧ x.key < 18446744073709551616) (hl : l.length ≤ 256) (hm : m ≤ 1000000) :
    Calls Try.prog 56 #[.agg #[v], .slice a l.length cap, .func (.func 57) #[.agg #[v]] #[]] wr fun e w' => e = .returned v ∧ ∃ m', m' ≤ m + 4 + l.length * 20 ∧ Lw w0 bs (K.Pap v (some (t ++ le4 l.length ++ l.flatMap cardT)) m') w' := by
  have HH := hide H
  have HX := hide hx
  have HL := hide hl
  have HM := hide hm
  have LL0 := h.alloc (K.papS _ _ _) 59 [v] rfl
  have HR0 : ∀ (Q : World → (Nat → Prop) → Prop) (w' : World), Lw w0 (bs ++ [(wr.heap.size, 59, [v])]) Q w' → Row w' wr.heap.size 59 [v] ∧ Lw w0 bs Q w' := fun _ _ l => ⟨l.last, l.drop1⟩
  obtain ⟨bz, hbz⟩ : ∃ bz, bz = bs ++ [(wr.heap.size, 59, [v])] := ⟨_, rfl⟩
  rw [← hbz] at LL0 HR0
  have LL := hide LL0
  have HR := hide HR0
  have C0 := LL.out.small (l.length : Int) (by omega) (by omega)
  rw [nat_st (by omega)] at C0
  have C1 := hide C0
  have c0 := (HR.out _ _ LL.out).1.cell (i := 0) rfl
  obtain ⟨g, hg⟩ : ∃ g, g = wr.heap.size := ⟨_, rfl⟩
  rw [← hg] at HR
  have S1 : Hid (∀ Q (w' : World), Lw w0 bz Q w' → Row w' g 59 [v]) := fun Q w' l => (HR.out Q w' l).1
  have S2 : Hid (∀ Q (w' : World), Lw w0 bz Q w' → Lw w0 bs Q w') := fun Q w' l => (HR.out Q w' l).2
  clear LL0 HR0 HR hbz C0 h H hx hl hm
  go_enter Try.func56, Try.ntmps56
  go_wp2_with fail
  refine C1.out.mono ?_
  rintro e w1 ⟨rfl, L1⟩
  have L1 := hide L1
  clear C1 LL c0
  rw [← hg]
  clear hg
  go_wp2_with fail
  go_loopw [16] (fun vi wx => ∃ i mi : Nat, i ≤ l.length ∧ vi = .int .i64 (i : Int) ∧ Hid (mi ≤ m + 4 + i * 20) ∧ Hid (Lw w0 bz (K.Pap v (some (t ++ le4 l.length ++ pre cardT l i)) mi) wx)) (fun vi _ => l.length - (intOf vi).toNat)
  case atStart => exact ⟨0, m + 4, Nat.zero_le _, rfl, by simp [Hid], by simpa [Hid, pre] using L1.out⟩
  case round =>
    clear L1
    obtain ⟨i, mi, hi, rfl, MI, LI⟩ := hrel
    by_cases hlt : i < l.length
    · have t1 : decide ((i : Int) < (l.length : Int)) = true := by simp; omega
      have t1' : decide (i < l.length) = true := by simpa using hlt
      have q0 : (0 : Int) ≤ i := by omega
      have q1 : (i : Int) < l.length := by omega
      have iw : wrap64 ((i : Int) + 1) = ((i + 1 : Nat) : Int) := by have := HL.out; unfold wrap64; omega
      have PN := hide (pre_next cardT l i l[i] (List.getElem?_eq_getElem hlt))
      have XX := hide (HX.out l[i] (List.getElem_mem hlt))
      have MB : Hid (mi ≤ 1000000 + 4 + 256 * 20) := by have h1 := MI.out; have h2 := HM.out; have h3 := HL.out; have : i * 20 ≤ 256 * 20 := Nat.mul_le_mul_right _ (by omega); show _ ≤ _; omega
      obtain ⟨b, off, rfl, cx, cy, cz⟩ := (HH.out.mono LI.out.old) i l[i] (List.getElem?_eq_getElem hlt)
      simp only [cardV] at cx cy cz
      obtain ⟨x, hxx⟩ : ∃ x, x = l[i] := ⟨_, rfl⟩
      rw [← hxx] at cx cy cz PN XX
      have e10 := (rowN (w := wr) (g := wr.heap.size) 48 [.int .i64 x.who, .int .u64 (x.lock : Nat), .int .u64 (x.key : Nat)] rfl)
      have d0 := e10.cell (i := 0) rfl
      have d1 := e10.cell (i := 1) rfl
      have d2 := e10.cell (i := 2) rfl
      have LA := LI.out.mono (K.papS _ _ _) (Old.of_alloc wr (.cells #[.int .i64 x.who, .int .u64 (x.lock : Nat), .int .u64 (x.key : Nat)] 48))
      have C := writer_card K LA x (by have := MB.out; omega) (by have := XX.out; unfold B64; omega) XX.out.2.2.1 XX.out.2.2.2
      rw [card_st ⟨XX.out.1, XX.out.2.1⟩] at C
      have C := hide C
      clear e10 LA hxx
      go_wp2_with fail
      refine C.out.mono ?_
      rintro e w3 ⟨rfl, L3⟩
      have L4 : Hid (Lw w0 bz (K.Pap v (some (t ++ le4 l.length ++ pre cardT l (i + 1))) (mi + 4 + 8 + 8)) w3) := by
        rw [PN.out, ← List.append_assoc]
        exact L3
      have M4 : Hid (mi + 4 + 8 + 8 ≤ m + 4 + (i + 1) * 20) := by have h1 := MI.out; show _ ≤ _; omega
      clear L3
      clear C LI PN XX MB
      go_wp2_with fail
      try rw [iw]
      exact ⟨⟨i + 1, _, by omega, by simp, M4, L4⟩, by simp [intOf]; omega⟩
    · obtain rfl : i = l.length := by omega
      have t1 : decide ((l.length : Int) < (l.length : Int)) = false := by simp
      have t1' : decide (l.length < l.length) = false := by simp
      have c0 := (S1.out _ _ LI.out).cell (i := 0) rfl
      have LE := hide (S2.out _ _ LI.out)
      rw [pre_all] at LE
      clear LI
      go_wp2
      go_ret
      exact ⟨rfl, mi, MI.out, LE.out⟩

set_option maxRecDepth 100000 in
set_option maxHeartbeats 2000000 in
theorem writeList_parcel (K : LetterK) {w0 wr : World} {bs : List (Nat × TypeId × List Value)} {v : Value} {t : List Nat} {m : Nat} (h : Lw w0 bs (K.Pap v (some t) m) wr) (a : Option Addr) (cap : Nat) (l : List Parcel) (pa : Nat → Option Addr) (pc : Nat → Nat) (H : Tri w0 a (parcelV pa pc) l) (hx : ∀ x ∈ l, 0 ≤ x.frm ∧ x.frm ≤ 64 ∧ 0 ≤ x.to ∧ x.to ≤ 64 ∧ x.data.length ≤ 64 ∧ ∀ y ∈ x.data, y < 256) (hD : ∀ (i : Nat) (x : Parcel), l[i]? = some x → By14 w0 (pa i) x.data.length (pc i) x.data) (hl : l.length ≤ 256) (hm : m ≤ 1000000) :
    Calls Try.prog 58 #[.agg #[v], .slice a l.length cap, .func (.func 59) #[.agg #[v]] #[]] wr fun e w' => e = .returned v ∧ ∃ m', m' ≤ m + 4 + l.length * 76 ∧ Lw w0 bs (K.Pap v (some (t ++ le4 l.length ++ l.flatMap parcelT)) m') w' := by
  have HH := hide H
  have HX := hide hx
  have HL := hide hl
  have HM := hide hm
  have HD := hide hD
  clear hD
  have LL0 := h.alloc (K.papS _ _ _) 59 [v] rfl
  have HR0 : ∀ (Q : World → (Nat → Prop) → Prop) (w' : World), Lw w0 (bs ++ [(wr.heap.size, 59, [v])]) Q w' → Row w' wr.heap.size 59 [v] ∧ Lw w0 bs Q w' := fun _ _ l => ⟨l.last, l.drop1⟩
  obtain ⟨bz, hbz⟩ : ∃ bz, bz = bs ++ [(wr.heap.size, 59, [v])] := ⟨_, rfl⟩
  rw [← hbz] at LL0 HR0
  have LL := hide LL0
  have HR := hide HR0
  have C0 := LL.out.small (l.length : Int) (by omega) (by omega)
  rw [nat_st (by omega)] at C0
  have C1 := hide C0
  have c0 := (HR.out _ _ LL.out).1.cell (i := 0) rfl
  obtain ⟨g, hg⟩ : ∃ g, g = wr.heap.size := ⟨_, rfl⟩
  rw [← hg] at HR
  have S1 : Hid (∀ Q (w' : World), Lw w0 bz Q w' → Row w' g 59 [v]) := fun Q w' l => (HR.out Q w' l).1
  have S2 : Hid (∀ Q (w' : World), Lw w0 bz Q w' → Lw w0 bs Q w') := fun Q w' l => (HR.out Q w' l).2
  clear LL0 HR0 HR hbz C0 h H hx hl hm
  go_enter Try.func58, Try.ntmps58
  go_wp2_with fail
  refine C1.out.mono ?_
  rintro e w1 ⟨rfl, L1⟩
  have L1 := hide L1
  clear C1 LL c0
  rw [← hg]
  clear hg
  go_wp2_with fail
  go_loopw [16] (fun vi wx => ∃ i mi : Nat, i ≤ l.length ∧ vi = .int .i64 (i : Int) ∧ Hid (mi ≤ m + 4 + i * 76) ∧ Hid (Lw w0 bz (K.Pap v (some (t ++ le4 l.length ++ pre parcelT l i)) mi) wx)) (fun vi _ => l.length - (intOf vi).toNat)
  case atStart => exact ⟨0, m + 4, Nat.zero_le _, rfl, by simp [Hid], by simpa [Hid, pre] using L1.out⟩
  case round =>
    clear L1
    obtain ⟨i, mi, hi, rfl, MI, LI⟩ := hrel
    by_cases hlt : i < l.length
    · have t1 : decide ((i : Int) < (l.length : Int)) = true := by simp; omega
      have t1' : decide (i < l.length) = true := by simpa using hlt
      have q0 : (0 : Int) ≤ i := by omega
      have q1 : (i : Int) < l.length := by omega
      have iw : wrap64 ((i : Int) + 1) = ((i + 1 : Nat) : Int) := by have := HL.out; unfold wrap64; omega
      have PN := hide (pre_next parcelT l i l[i] (List.getElem?_eq_getElem hlt))
      have XX := hide (HX.out l[i] (List.getElem_mem hlt))
      have MB : Hid (mi ≤ 1000000 + 4 + 256 * 76) := by have h1 := MI.out; have h2 := HM.out; have h3 := HL.out; have : i * 76 ≤ 256 * 76 := Nat.mul_le_mul_right _ (by omega); show _ ≤ _; omega
      obtain ⟨b, off, rfl, cx, cy, cz⟩ := (HH.out.mono LI.out.old) i l[i] (List.getElem?_eq_getElem hlt)
      simp only [parcelV] at cx cy cz
      have DD := hide (HD.out i l[i] (List.getElem?_eq_getElem hlt))
      obtain ⟨x, hxx⟩ : ∃ x, x = l[i] := ⟨_, rfl⟩
      rw [← hxx] at cx cy cz DD PN XX
      have e10 := (rowN (w := wr) (g := wr.heap.size) 50 [.int .i64 x.frm, .int .i64 x.to, .slice (pa i) x.data.length (pc i)] rfl)
      have d0 := e10.cell (i := 0) rfl
      have d1 := e10.cell (i := 1) rfl
      have d2 := e10.cell (i := 2) rfl
      have LA := LI.out.mono (K.papS _ _ _) (Old.of_alloc wr (.cells #[.int .i64 x.frm, .int .i64 x.to, .slice (pa i) x.data.length (pc i)] 50))
      have C := writer_parcel K LA x (pa i) (pc i) DD.out (by have := XX.out.2.2.2.2.1; omega) (by have := MB.out; omega) (by have := XX.out; unfold B64; omega) (by have := XX.out; unfold B64; omega)
      rw [parcel_st ⟨XX.out.1, XX.out.2.1⟩ ⟨XX.out.2.2.1, XX.out.2.2.2.1⟩] at C
      have C := hide C
      clear e10 LA hxx
      go_wp2_with fail
      refine C.out.mono ?_
      rintro e w3 ⟨rfl, L3⟩
      have L4 : Hid (Lw w0 bz (K.Pap v (some (t ++ le4 l.length ++ pre parcelT l (i + 1))) (mi + 4 + 4 + 4 + x.data.length)) w3) := by
        rw [PN.out, ← List.append_assoc]
        exact L3
      have M4 : Hid (mi + 4 + 4 + 4 + x.data.length ≤ m + 4 + (i + 1) * 76) := by have h1 := MI.out; have h2 := XX.out.2.2.2.2.1; show _ ≤ _; omega
      clear L3
      clear C LI PN XX MB
      go_wp2_with fail
      try rw [iw]
      exact ⟨⟨i + 1, _, by omega, by simp, M4, L4⟩, by simp [intOf]; omega⟩
    · obtain rfl : i = l.length := by omega
      have t1 : decide ((l.length : Int) < (l.length : Int)) = false := by simp
      have t1' : decide (l.length < l.length) = false := by simp
      have c0 := (S1.out _ _ LI.out).cell (i := 0) rfl
      have LE := hide (S2.out _ _ LI.out)
      rw [pre_all] at LE
      clear LI
      go_wp2
      go_ret
      exact ⟨rfl, mi, MI.out, LE.out⟩

set_option maxRecDepth 100000 in
set_option maxHeartbeats 2000000 in
theorem writeList_number (K : LetterK) {w0 wr : World} {bs : List (Nat × TypeId × List Value)} {v : Value} {t : List Nat} {m : Nat} (h : Lw w0 bs (K.Pap v (some t) m) wr) (a : Option Addr) (cap : Nat) (l : List Nat) (H : Rd w0 a (nums .u32 l)) (hx : ∀ x ∈ l, x < 4294967296) (hl : l.length ≤ 256) (hm : m ≤ 1000000) :
    Calls Try.prog 60 #[.agg #[v], .slice a l.length cap, .func (.func 61) #[.agg #[v]] #[]] wr fun e w' => e = .returned v ∧ ∃ m', m' ≤ m + 4 + l.length * 4 ∧ Lw w0 bs (K.Pap v (some (t ++ le4 l.length ++ l.flatMap le4)) m') w' := by
  have HH := hide H
  have HX := hide hx
  have HL := hide hl
  have HM := hide hm
  have LL0 := h.alloc (K.papS _ _ _) 59 [v] rfl
  have HR0 : ∀ (Q : World → (Nat → Prop) → Prop) (w' : World), Lw w0 (bs ++ [(wr.heap.size, 59, [v])]) Q w' → Row w' wr.heap.size 59 [v] ∧ Lw w0 bs Q w' := fun _ _ l => ⟨l.last, l.drop1⟩
  obtain ⟨bz, hbz⟩ : ∃ bz, bz = bs ++ [(wr.heap.size, 59, [v])] := ⟨_, rfl⟩
  rw [← hbz] at LL0 HR0
  have LL := hide LL0
  have HR := hide HR0
  have C0 := LL.out.small (l.length : Int) (by omega) (by omega)
  rw [nat_st (by omega)] at C0
  have C1 := hide C0
  have c0 := (HR.out _ _ LL.out).1.cell (i := 0) rfl
  obtain ⟨g, hg⟩ : ∃ g, g = wr.heap.size := ⟨_, rfl⟩
  rw [← hg] at HR
  have S1 : Hid (∀ Q (w' : World), Lw w0 bz Q w' → Row w' g 59 [v]) := fun Q w' l => (HR.out Q w' l).1
  have S2 : Hid (∀ Q (w' : World), Lw w0 bz Q w' → Lw w0 bs Q w') := fun Q w' l => (HR.out Q w' l).2
  clear LL0 HR0 HR hbz C0 h H hx hl hm
  go_enter Try.func60, Try.ntmps60
  go_wp2_with fail
  refine C1.out.mono ?_
  rintro e w1 ⟨rfl, L1⟩
  have L1 := hide L1
  clear C1 LL c0
  rw [← hg]
  clear hg
  go_wp2_with fail
  go_loopw [16] (fun vi wx => ∃ i mi : Nat, i ≤ l.length ∧ vi = .int .i64 (i : Int) ∧ Hid (mi ≤ m + 4 + i * 4) ∧ Hid (Lw w0 bz (K.Pap v (some (t ++ le4 l.length ++ pre le4 l i)) mi) wx)) (fun vi _ => l.length - (intOf vi).toNat)
  case atStart => exact ⟨0, m + 4, Nat.zero_le _, rfl, by simp [Hid], by simpa [Hid, pre] using L1.out⟩
  case round =>
    clear L1
    obtain ⟨i, mi, hi, rfl, MI, LI⟩ := hrel
    by_cases hlt : i < l.length
    · have t1 : decide ((i : Int) < (l.length : Int)) = true := by simp; omega
      have t1' : decide (i < l.length) = true := by simpa using hlt
      have q0 : (0 : Int) ≤ i := by omega
      have q1 : (i : Int) < l.length := by omega
      have iw : wrap64 ((i : Int) + 1) = ((i + 1 : Nat) : Int) := by have := HL.out; unfold wrap64; omega
      have PN := hide (pre_next le4 l i l[i] (List.getElem?_eq_getElem hlt))
      have XX := hide (HX.out l[i] (List.getElem_mem hlt))
      have MB : Hid (mi ≤ 1000000 + 4 + 256 * 4) := by have h1 := MI.out; have h2 := HM.out; have h3 := HL.out; have : i * 4 ≤ 256 * 4 := Nat.mul_le_mul_right _ (by omega); show _ ≤ _; omega
      obtain ⟨b, off, rfl, cx⟩ := rd_numW (HH.out.mono LI.out.old) hlt
      obtain ⟨x, hxx⟩ : ∃ x, x = l[i] := ⟨_, rfl⟩
      rw [← hxx] at cx PN XX
      have C := writer_number K LI.out x (by have := MB.out; omega) XX.out
      rw [nat_st XX.out] at C
      have C := hide C
      clear hxx
      go_wp2_with fail
      refine C.out.mono ?_
      rintro e w3 ⟨rfl, L3⟩
      have L4 : Hid (Lw w0 bz (K.Pap v (some (t ++ le4 l.length ++ pre le4 l (i + 1))) (mi + 4)) w3) := by
        rw [PN.out, ← List.append_assoc]
        exact L3
      have M4 : Hid (mi + 4 ≤ m + 4 + (i + 1) * 4) := by have h1 := MI.out; show _ ≤ _; omega
      clear L3
      clear C LI PN XX MB
      go_wp2_with fail
      try rw [iw]
      exact ⟨⟨i + 1, _, by omega, by simp, M4, L4⟩, by simp [intOf]; omega⟩
    · obtain rfl : i = l.length := by omega
      have t1 : decide ((l.length : Int) < (l.length : Int)) = false := by simp
      have t1' : decide (l.length < l.length) = false := by simp
      have c0 := (S1.out _ _ LI.out).cell (i := 0) rfl
      have LE := hide (S2.out _ _ LI.out)
      rw [pre_all] at LE
      clear LI
      go_wp2
      go_ret
      exact ⟨rfl, mi, MI.out, LE.out⟩

set_option maxRecDepth 100000 in
set_option maxHeartbeats 2000000 in
theorem writeList_great (K : LetterK) {w0 wr : World} {bs : List (Nat × TypeId × List Value)} {v : Value} {t : List Nat} {m : Nat} (h : Lw w0 bs (K.Pap v (some t) m) wr) (a : Option Addr) (cap : Nat) (l : List Nat) (H : Rd w0 a (nums .u64 l)) (hx : ∀ x ∈ l, x < 18446744073709551616) (hl : l.length ≤ 256) (hm : m ≤ 1000000) :
    Calls Try.prog 92 #[.agg #[v], .slice a l.length cap, .func (.func 89) #[v] #[]] wr fun e w' => e = .returned v ∧ ∃ m', m' ≤ m + 4 + l.length * 8 ∧ Lw w0 bs (K.Pap v (some (t ++ le4 l.length ++ l.flatMap le8)) m') w' := by
  have HH := hide H
  have HX := hide hx
  have HL := hide hl
  have HM := hide hm
  have LL0 := h.alloc (K.papS _ _ _) 59 [v] rfl
  have HR0 : ∀ (Q : World → (Nat → Prop) → Prop) (w' : World), Lw w0 (bs ++ [(wr.heap.size, 59, [v])]) Q w' → Row w' wr.heap.size 59 [v] ∧ Lw w0 bs Q w' := fun _ _ l => ⟨l.last, l.drop1⟩
  obtain ⟨bz, hbz⟩ : ∃ bz, bz = bs ++ [(wr.heap.size, 59, [v])] := ⟨_, rfl⟩
  rw [← hbz] at LL0 HR0
  have LL := hide LL0
  have HR := hide HR0
  have C0 := LL.out.small (l.length : Int) (by omega) (by omega)
  rw [nat_st (by omega)] at C0
  have C1 := hide C0
  have c0 := (HR.out _ _ LL.out).1.cell (i := 0) rfl
  obtain ⟨g, hg⟩ : ∃ g, g = wr.heap.size := ⟨_, rfl⟩
  rw [← hg] at HR
  have S1 : Hid (∀ Q (w' : World), Lw w0 bz Q w' → Row w' g 59 [v]) := fun Q w' l => (HR.out Q w' l).1
  have S2 : Hid (∀ Q (w' : World), Lw w0 bz Q w' → Lw w0 bs Q w') := fun Q w' l => (HR.out Q w' l).2
  clear LL0 HR0 HR hbz C0 h H hx hl hm
  go_enter Try.func92, Try.ntmps92
  go_wp2_with fail
  refine C1.out.mono ?_
  rintro e w1 ⟨rfl, L1⟩
  have L1 := hide L1
  clear C1 LL c0
  rw [← hg]
  clear hg
  go_wp2_with fail
  go_loopw [16] (fun vi wx => ∃ i mi : Nat, i ≤ l.length ∧ vi = .int .i64 (i : Int) ∧ Hid (mi ≤ m + 4 + i * 8) ∧ Hid (Lw w0 bz (K.Pap v (some (t ++ le4 l.length ++ pre le8 l i)) mi) wx)) (fun vi _ => l.length - (intOf vi).toNat)
  case atStart => exact ⟨0, m + 4, Nat.zero_le _, rfl, by simp [Hid], by simpa [Hid, pre] using L1.out⟩
  case round =>
    clear L1
    obtain ⟨i, mi, hi, rfl, MI, LI⟩ := hrel
    by_cases hlt : i < l.length
    · have t1 : decide ((i : Int) < (l.length : Int)) = true := by simp; omega
      have t1' : decide (i < l.length) = true := by simpa using hlt
      have q0 : (0 : Int) ≤ i := by omega
      have q1 : (i : Int) < l.length := by omega
      have iw : wrap64 ((i : Int) + 1) = ((i + 1 : Nat) : Int) := by have := HL.out; unfold wrap64; omega
      have PN := hide (pre_next le8 l i l[i] (List.getElem?_eq_getElem hlt))
      have XX := hide (HX.out l[i] (List.getElem_mem hlt))
      have MB : Hid (mi ≤ 1000000 + 4 + 256 * 8) := by have h1 := MI.out; have h2 := HM.out; have h3 := HL.out; have : i * 8 ≤ 256 * 8 := Nat.mul_le_mul_right _ (by omega); show _ ≤ _; omega
      obtain ⟨b, off, rfl, cx⟩ := rd_numW (HH.out.mono LI.out.old) hlt
      obtain ⟨x, hxx⟩ : ∃ x, x = l[i] := ⟨_, rfl⟩
      rw [← hxx] at cx PN XX
      have C := hide (LI.out.great x (by have := MB.out; omega) XX.out)
      clear hxx
      go_wp2_with fail
      refine C.out.mono ?_
      rintro e w3 ⟨rfl, L3⟩
      have L4 : Hid (Lw w0 bz (K.Pap v (some (t ++ le4 l.length ++ pre le8 l (i + 1))) (mi + 8)) w3) := by
        rw [PN.out, ← List.append_assoc]
        exact L3
      have M4 : Hid (mi + 8 ≤ m + 4 + (i + 1) * 8) := by have h1 := MI.out; show _ ≤ _; omega
      clear L3
      clear C LI PN XX MB
      go_wp2_with fail
      try rw [iw]
      exact ⟨⟨i + 1, _, by omega, by simp, M4, L4⟩, by simp [intOf]; omega⟩
    · obtain rfl : i = l.length := by omega
      have t1 : decide ((l.length : Int) < (l.length : Int)) = false := by simp
      have t1' : decide (l.length < l.length) = false := by simp
      have c0 := (S1.out _ _ LI.out).cell (i := 0) rfl
      have LE := hide (S2.out _ _ LI.out)
      rw [pre_all] at LE
      clear LI
      go_wp2
      go_ret
      exact ⟨rfl, mi, MI.out, LE.out⟩

set_option maxRecDepth 100000 in
set_option maxHeartbeats 2000000 in
theorem writeList_who (K : LetterK) {w0 wr : World} {bs : List (Nat × TypeId × List Value)} {v : Value} {t : List Nat} {m : Nat} (h : Lw w0 bs (K.Pap v (some t) m) wr) (a : Option Addr) (cap : Nat) (l : List Int) (H : Rd w0 a (ints l)) (hx : ∀ x ∈ l, 0 ≤ x ∧ x ≤ 64) (hl : l.length ≤ 256) (hm : m ≤ 1000000) :
    Calls Try.prog 62 #[.agg #[v], .slice a l.length cap, .func (.func 55) #[v] #[]] wr fun e w' => e = .returned v ∧ ∃ m', m' ≤ m + 4 + l.length * 4 ∧ Lw w0 bs (K.Pap v (some (t ++ le4 l.length ++ l.flatMap whoT)) m') w' := by
  have HH := hide H
  have HX := hide hx
  have HL := hide hl
  have HM := hide hm
  have LL0 := h.alloc (K.papS _ _ _) 59 [v] rfl
  have HR0 : ∀ (Q : World → (Nat → Prop) → Prop) (w' : World), Lw w0 (bs ++ [(wr.heap.size, 59, [v])]) Q w' → Row w' wr.heap.size 59 [v] ∧ Lw w0 bs Q w' := fun _ _ l => ⟨l.last, l.drop1⟩
  obtain ⟨bz, hbz⟩ : ∃ bz, bz = bs ++ [(wr.heap.size, 59, [v])] := ⟨_, rfl⟩
  rw [← hbz] at LL0 HR0
  have LL := hide LL0
  have HR := hide HR0
  have C0 := LL.out.small (l.length : Int) (by omega) (by omega)
  rw [nat_st (by omega)] at C0
  have C1 := hide C0
  have c0 := (HR.out _ _ LL.out).1.cell (i := 0) rfl
  obtain ⟨g, hg⟩ : ∃ g, g = wr.heap.size := ⟨_, rfl⟩
  rw [← hg] at HR
  have S1 : Hid (∀ Q (w' : World), Lw w0 bz Q w' → Row w' g 59 [v]) := fun Q w' l => (HR.out Q w' l).1
  have S2 : Hid (∀ Q (w' : World), Lw w0 bz Q w' → Lw w0 bs Q w') := fun Q w' l => (HR.out Q w' l).2
  clear LL0 HR0 HR hbz C0 h H hx hl hm
  go_enter Try.func62, Try.ntmps62
  go_wp2_with fail
  refine C1.out.mono ?_
  rintro e w1 ⟨rfl, L1⟩
  have L1 := hide L1
  clear C1 LL c0
  rw [← hg]
  clear hg
  go_wp2_with fail
  go_loopw [16] (fun vi wx => ∃ i mi : Nat, i ≤ l.length ∧ vi = .int .i64 (i : Int) ∧ Hid (mi ≤ m + 4 + i * 4) ∧ Hid (Lw w0 bz (K.Pap v (some (t ++ le4 l.length ++ pre whoT l i)) mi) wx)) (fun vi _ => l.length - (intOf vi).toNat)
  case atStart => exact ⟨0, m + 4, Nat.zero_le _, rfl, by simp [Hid], by simpa [Hid, pre] using L1.out⟩
  case round =>
    clear L1
    obtain ⟨i, mi, hi, rfl, MI, LI⟩ := hrel
    by_cases hlt : i < l.length
    · have t1 : decide ((i : Int) < (l.length : Int)) = true := by simp; omega
      have t1' : decide (i < l.length) = true := by simpa using hlt
      have q0 : (0 : Int) ≤ i := by omega
      have q1 : (i : Int) < l.length := by omega
      have iw : wrap64 ((i : Int) + 1) = ((i + 1 : Nat) : Int) := by have := HL.out; unfold wrap64; omega
      have PN := hide (pre_next whoT l i l[i] (List.getElem?_eq_getElem hlt))
      have XX := hide (HX.out l[i] (List.getElem_mem hlt))
      have MB : Hid (mi ≤ 1000000 + 4 + 256 * 4) := by have h1 := MI.out; have h2 := HM.out; have h3 := HL.out; have : i * 4 ≤ 256 * 4 := Nat.mul_le_mul_right _ (by omega); show _ ≤ _; omega
      obtain ⟨b, off, rfl, cx⟩ := rd_int (HH.out.mono LI.out.old) (i := i) hlt
      rw [show l.getD i 0 = l[i] by simp [List.getD, hlt]] at cx
      obtain ⟨x, hxx⟩ : ∃ x, x = l[i] := ⟨_, rfl⟩
      rw [← hxx] at cx PN XX
      have C := LI.out.small x (by have := MB.out; omega) (by have := XX.out; omega)
      rw [small_st (by have := XX.out; omega)] at C
      have C := hide C
      clear hxx
      go_wp2_with fail
      refine C.out.mono ?_
      rintro e w3 ⟨rfl, L3⟩
      have L4 : Hid (Lw w0 bz (K.Pap v (some (t ++ le4 l.length ++ pre whoT l (i + 1))) (mi + 4)) w3) := by
        rw [PN.out, ← List.append_assoc]
        exact L3
      have M4 : Hid (mi + 4 ≤ m + 4 + (i + 1) * 4) := by have h1 := MI.out; show _ ≤ _; omega
      clear L3
      clear C LI PN XX MB
      go_wp2_with fail
      try rw [iw]
      exact ⟨⟨i + 1, _, by omega, by simp, M4, L4⟩, by simp [intOf]; omega⟩
    · obtain rfl : i = l.length := by omega
      have t1 : decide ((l.length : Int) < (l.length : Int)) = false := by simp
      have t1' : decide (l.length < l.length) = false := by simp
      have c0 := (S1.out _ _ LI.out).cell (i := 0) rfl
      have LE := hide (S2.out _ _ LI.out)
      rw [pre_all] at LE
      clear LI
      go_wp2
      go_ret
      exact ⟨rfl, mi, MI.out, LE.out⟩

end Go.Proofs.Ytepchjpdfmleoaa

/-
  Package words: openings are put down; a whole word.
-/
namespace Go.Proofs.Ytepchjpdfmleoaa
open Go.RowKit Cn Pn Wn
set_option linter.unusedVariables false

set_option maxRecDepth 100000 in
set_option maxHeartbeats 2000000 in
theorem writer_opening (K : LetterK) {w0 wr : World} {bs : List (Nat × TypeId × List Value)} {v : Value} {t : List Nat} {m : Nat} (h : Lw w0 bs (K.Pap v (some t) m) wr) (x : Opening) (a : Option Addr) (cap : Nat) (R : Rd w0 a (nums .u64 x.vals)) (hx : 0 ≤ x.who ∧ x.who ≤ 64 ∧ x.vals.length ≤ 5 ∧ ∀ y ∈ x.vals, y < 18446744073709551616) (hm : m ≤ 900000) :
    Calls Try.prog 64 #[.agg #[v], .agg #[.int .i64 x.who, .bool x.own, .slice a x.vals.length cap]] wr fun e w' => e = .returned v ∧ ∃ m', m' ≤ m + 52 ∧ Lw w0 bs (K.Pap v (some (t ++ openingT x)) m') w' := by
  have LL0 := (h.alloc (K.papS _ _ _) 59 [v] rfl).alloc (K.papS _ _ _) 53 [.int .i64 x.who, .bool x.own, .slice a x.vals.length cap] (g := wr.heap.size + 1) (by rw [World.size_alloc])
  have HC0 : ∀ (Q : World → (Nat → Prop) → Prop) (w' : World), Lw w0 (bs ++ [(wr.heap.size, 59, [v])] ++ [(wr.heap.size + 1, 53, [.int .i64 x.who, .bool x.own, .slice a x.vals.length cap])]) Q w' → Row w' wr.heap.size 59 [v] ∧ Row w' (wr.heap.size + 1) 53 [.int .i64 x.who, .bool x.own, .slice a x.vals.length cap] ∧ Lw w0 bs Q w' := fun _ _ l => ⟨l.last2, l.last, l.drop2⟩
  obtain ⟨bz, hbz⟩ : ∃ bz, bz = bs ++ [(wr.heap.size, 59, [v])] ++ [(wr.heap.size + 1, 53, [.int .i64 x.who, .bool x.own, .slice a x.vals.length cap])] := ⟨_, rfl⟩
  rw [← hbz] at LL0 HC0
  have HC := hide HC0
  have HX := hide hx
  have C1 := LL0.small x.who (by omega) (by omega)
  rw [small_st (by omega)] at C1
  have C1 := hide C1
  have c0 := (HC.out _ _ LL0).1.cell (i := 0) rfl
  have c1 := (HC.out _ _ LL0).2.1.cell (i := 0) rfl
  have HMM := hide hm
  clear LL0 HC0 hbz h hx hm
  go_enter Try.func64, Try.ntmps64
  go_wp2_with fail
  refine C1.out.mono ?_
  rintro e w1 ⟨rfl, L1⟩
  have HL1 := hide L1
  have c0 := (HC.out _ _ L1).1.cell (i := 0) rfl
  have c1 := (HC.out _ _ L1).2.1.cell (i := 1) rfl
  have C2 := writer_mark K L1 x.own (by have := HMM.out; omega)
  rw [show (if x.own = true then (1 : Int) else 0) = (((if x.own then 1 else 0 : Nat) : Nat) : Int) by split <;> rfl, nat_st (by split <;> omega)] at C2
  have C2 := hide C2
  clear L1 C1
  go_wp2_with fail
  refine C2.out.mono ?_
  rintro e w2 ⟨rfl, L2⟩
  have c0' := (HC.out _ _ L2).1.cell (i := 0) rfl
  have c2 := (HC.out _ _ L2).2.1.cell (i := 2) rfl
  have C3 := hide (writeList_great K L2 a cap x.vals R HX.out.2.2.2 (by have := HX.out; omega) (by have := HMM.out; omega))
  clear L2 C2 c0 c1 HL1
  go_wp2_with fail
  refine C3.out.mono ?_
  rintro e w3 ⟨rfl, m', hm', L3⟩
  have L4 := hide (HC.out _ _ L3).2.2
  have HM := hide hm'
  clear L3 C3 c0' c2 hm'
  go_wp2
  go_ret
  refine ⟨rfl, m', ?_, ?_⟩
  · have h1 := HM.out
    have h2 := HX.out.2.2.1
    have : x.vals.length * 8 ≤ 5 * 8 := Nat.mul_le_mul_right _ h2
    omega
  · have := L4.out
    unfold openingT
    simpa [List.append_assoc] using this

set_option maxRecDepth 100000 in
set_option maxHeartbeats 2000000 in
theorem writeList_opening (K : LetterK) {w0 wr : World} {bs : List (Nat × TypeId × List Value)} {v : Value} {t : List Nat} {m : Nat} (h : Lw w0 bs (K.Pap v (some t) m) wr) (a : Option Addr) (cap : Nat) (l : List Opening) (oa : Nat → Option Addr) (oc : Nat → Nat) (H : Tri w0 a (openingV oa oc) l) (hx : ∀ x ∈ l, 0 ≤ x.who ∧ x.who ≤ 64 ∧ x.vals.length ≤ 5 ∧ ∀ y ∈ x.vals, y < 18446744073709551616) (hD : ∀ (i : Nat) (x : Opening), l[i]? = some x → Rd w0 (oa i) (nums .u64 x.vals)) (hl : l.length ≤ 256) (hm : m ≤ 500000) :
    Calls Try.prog 63 #[.agg #[v], .slice a l.length cap, .func (.func 64) #[.agg #[v]] #[]] wr fun e w' => e = .returned v ∧ ∃ m', m' ≤ m + 4 + l.length * 52 ∧ Lw w0 bs (K.Pap v (some (t ++ le4 l.length ++ l.flatMap openingT)) m') w' := by
  have HH := hide H
  have HX := hide hx
  have HL := hide hl
  have HM := hide hm
  have HD := hide hD
  clear hD
  have LL0 := h.alloc (K.papS _ _ _) 59 [v] rfl
  have HR0 : ∀ (Q : World → (Nat → Prop) → Prop) (w' : World), Lw w0 (bs ++ [(wr.heap.size, 59, [v])]) Q w' → Row w' wr.heap.size 59 [v] ∧ Lw w0 bs Q w' := fun _ _ l => ⟨l.last, l.drop1⟩
  obtain ⟨bz, hbz⟩ : ∃ bz, bz = bs ++ [(wr.heap.size, 59, [v])] := ⟨_, rfl⟩
  rw [← hbz] at LL0 HR0
  have LL := hide LL0
  have HR := hide HR0
  have C0 := LL.out.small (l.length : Int) (by omega) (by omega)
  rw [nat_st (by omega)] at C0
  have C1 := hide C0
  have c0 := (HR.out _ _ LL.out).1.cell (i := 0) rfl
  obtain ⟨g, hg⟩ : ∃ g, g = wr.heap.size := ⟨_, rfl⟩
  rw [← hg] at HR
  have S1 : Hid (∀ Q (w' : World), Lw w0 bz Q w' → Row w' g 59 [v]) := fun Q w' l => (HR.out Q w' l).1
  have S2 : Hid (∀ Q (w' : World), Lw w0 bz Q w' → Lw w0 bs Q w') := fun Q w' l => (HR.out Q w' l).2
  clear LL0 HR0 HR hbz C0 h H hx hl hm
  go_enter Try.func63, Try.ntmps63
  go_wp2_with fail
  refine C1.out.mono ?_
  rintro e w1 ⟨rfl, L1⟩
  have L1 := hide L1
  clear C1 LL c0
  rw [← hg]
  clear hg
  go_wp2_with fail
  go_loopw [16] (fun vi wx => ∃ i mi : Nat, i ≤ l.length ∧ vi = .int .i64 (i : Int) ∧ Hid (mi ≤ m + 4 + i * 52) ∧ Hid (Lw w0 bz (K.Pap v (some (t ++ le4 l.length ++ pre openingT l i)) mi) wx)) (fun vi _ => l.length - (intOf vi).toNat)
  case atStart => exact ⟨0, m + 4, Nat.zero_le _, rfl, by simp [Hid], by simpa [Hid, pre] using L1.out⟩
  case round =>
    clear L1
    obtain ⟨i, mi, hi, rfl, MI, LI⟩ := hrel
    by_cases hlt : i < l.length
    · have t1 : decide ((i : Int) < (l.length : Int)) = true := by simp; omega
      have t1' : decide (i < l.length) = true := by simpa using hlt
      have q0 : (0 : Int) ≤ i := by omega
      have q1 : (i : Int) < l.length := by omega
      have iw : wrap64 ((i : Int) + 1) = ((i + 1 : Nat) : Int) := by have := HL.out; unfold wrap64; omega
      have PN := hide (pre_next openingT l i l[i] (List.getElem?_eq_getElem hlt))
      have XX := hide (HX.out l[i] (List.getElem_mem hlt))
      have MB : Hid (mi ≤ 500000 + 4 + 256 * 52) := by have h1 := MI.out; have h2 := HM.out; have h3 := HL.out; have : i * 52 ≤ 256 * 52 := Nat.mul_le_mul_right _ (by omega); show _ ≤ _; omega
      obtain ⟨b, off, rfl, cx, cy, cz⟩ := (HH.out.mono LI.out.old) i l[i] (List.getElem?_eq_getElem hlt)
      simp only [openingV] at cx cy cz
      have DD := hide (HD.out i l[i] (List.getElem?_eq_getElem hlt))
      obtain ⟨x, hxx⟩ : ∃ x, x = l[i] := ⟨_, rfl⟩
      rw [← hxx] at cx cy cz DD PN XX
      have e10 := (rowN (w := wr) (g := wr.heap.size) 53 [.int .i64 x.who, .bool x.own, .slice (oa i) x.vals.length (oc i)] rfl)
      have d0 := e10.cell (i := 0) rfl
      have d1 := e10.cell (i := 1) rfl
      have d2 := e10.cell (i := 2) rfl
      have LA := LI.out.mono (K.papS _ _ _) (Old.of_alloc wr (.cells #[.int .i64 x.who, .bool x.own, .slice (oa i) x.vals.length (oc i)] 53))
      have C := hide (writer_opening K LA x (oa i) (oc i) DD.out ⟨XX.out.1, XX.out.2.1, XX.out.2.2.1, XX.out.2.2.2⟩ (by have := MB.out; omega))
      clear e10 LA hxx
      go_wp2_with fail
      refine C.out.mono ?_
      rintro e w3 ⟨rfl, m3, hm3, L3⟩
      have HM3 := hide hm3
      have L4 : Hid (Lw w0 bz (K.Pap v (some (t ++ le4 l.length ++ pre openingT l (i + 1))) (m3)) w3) := by
        rw [PN.out, ← List.append_assoc]
        exact L3
      have M4 : Hid (m3 ≤ m + 4 + (i + 1) * 52) := by have h1 := MI.out; have h2 := HM3.out; show _ ≤ _; omega
      clear L3 hm3
      clear C LI PN XX MB
      go_wp2_with fail
      try rw [iw]
      exact ⟨⟨i + 1, _, by omega, by simp, M4, L4⟩, by simp [intOf]; omega⟩
    · obtain rfl : i = l.length := by omega
      have t1 : decide ((l.length : Int) < (l.length : Int)) = false := by simp
      have t1' : decide (l.length < l.length) = false := by simp
      have c0 := (S1.out _ _ LI.out).cell (i := 0) rfl
      have LE := hide (S2.out _ _ LI.out)
      rw [pre_all] at LE
      clear LI
      go_wp2
      go_ret
      exact ⟨rfl, mi, MI.out, LE.out⟩

/-- The room of the parcels' bytes. -/
def Caps (c : Wd) (m : WM) : Prop := ∀ (i : Nat) (x : Parcel), c.parcels[i]? = some x → x.data.length ≤ m.pc i

set_option maxRecDepth 100000 in
set_option maxHeartbeats 4000000 in
theorem writer_word (K : LetterK) {w0 wr : World} {bs : List (Nat × TypeId × List Value)} {v : Value} (h : Lw w0 bs (K.Pap v (some []) 0) wr) (c : Wd) (m : WM) (F : WordIn w0 c m) (FF : Fine c) (CP : Caps c m) :
    Calls Try.prog 24 #[.agg #[v], .agg #[.int .i64 c.kind, .int .i64 c.frm, .int .i64 c.why, .slice m.a1 c.cards.length m.c1, .slice m.a2 c.parcels.length m.c2, .slice m.a3 c.vector.length m.c3, .slice m.a4 c.who.length m.c4, .slice m.a5 c.openings.length m.c5]] wr fun e w' => e = .returned v ∧ ∃ m', m' ≤ 50000 ∧ Lw w0 bs (K.Pap v (some (textT c)) m') w' := by
  have LL0 := (h.alloc (K.papS _ _ _) 59 [v] rfl).alloc (K.papS _ _ _) 29 [.int .i64 c.kind, .int .i64 c.frm, .int .i64 c.why, .slice m.a1 c.cards.length m.c1, .slice m.a2 c.parcels.length m.c2, .slice m.a3 c.vector.length m.c3, .slice m.a4 c.who.length m.c4, .slice m.a5 c.openings.length m.c5] (g := wr.heap.size + 1) (by rw [World.size_alloc])
  have HC0 : ∀ (Q : World → (Nat → Prop) → Prop) (w' : World), Lw w0 (bs ++ [(wr.heap.size, 59, [v])] ++ [(wr.heap.size + 1, 29, [.int .i64 c.kind, .int .i64 c.frm, .int .i64 c.why, .slice m.a1 c.cards.length m.c1, .slice m.a2 c.parcels.length m.c2, .slice m.a3 c.vector.length m.c3, .slice m.a4 c.who.length m.c4, .slice m.a5 c.openings.length m.c5])]) Q w' → Row w' wr.heap.size 59 [v] ∧ Row w' (wr.heap.size + 1) 29 [.int .i64 c.kind, .int .i64 c.frm, .int .i64 c.why, .slice m.a1 c.cards.length m.c1, .slice m.a2 c.parcels.length m.c2, .slice m.a3 c.vector.length m.c3, .slice m.a4 c.who.length m.c4, .slice m.a5 c.openings.length m.c5] ∧ Lw w0 bs Q w' := fun _ _ l => ⟨l.last2, l.last, l.drop2⟩
  obtain ⟨bz, hbz⟩ : ∃ bz, bz = bs ++ [(wr.heap.size, 59, [v])] ++ [(wr.heap.size + 1, 29, [.int .i64 c.kind, .int .i64 c.frm, .int .i64 c.why, .slice m.a1 c.cards.length m.c1, .slice m.a2 c.parcels.length m.c2, .slice m.a3 c.vector.length m.c3, .slice m.a4 c.who.length m.c4, .slice m.a5 c.openings.length m.c5])] := ⟨_, rfl⟩
  rw [← hbz] at LL0 HC0
  have HC := hide HC0
  have LL := hide LL0
  have HF := hide F
  have HFF := hide FF
  have HCP := hide CP
  obtain ⟨S, hS⟩ : ∃ S : Nat → Option (List Nat) × Nat, S = fun s => match s with | 0 => (some [], 0) | 1 => (some (le4 c.kind.toNat), 0 + 4) | 2 => (some (le4 c.kind.toNat ++ le4 c.frm.toNat), 0 + 4 + 4) | _ => (some (le4 c.kind.toNat ++ le4 c.frm.toNat ++ le4 c.why.toNat), 0 + 4 + 4 + 4) := ⟨_, rfl⟩
  have S0 : S 0 = (some [], 0) := by subst hS; rfl
  have S1 : S 1 = (some (le4 c.kind.toNat), 0 + 4) := by subst hS; rfl
  have S2 : S 2 = (some (le4 c.kind.toNat ++ le4 c.frm.toNat), 0 + 4 + 4) := by subst hS; rfl
  have S3 : S 3 = (some (le4 c.kind.toNat ++ le4 c.frm.toNat ++ le4 c.why.toNat), 0 + 4 + 4 + 4) := by subst hS; rfl
  have T0 : ∀ w', Lw w0 bz (K.Pap v (S 0).1 (S 0).2) w' → Calls Try.prog 55 #[v, .int .i64 c.kind] w' fun e w'' => e = .returned v ∧ Lw w0 bz (K.Pap v (S 1).1 (S 1).2) w'' := by
    intro w' h
    rw [S0] at h
    rw [S1]
    have h2 := h.small c.kind (by omega) (by have := FF.kind; omega)
    rw [small_st (by have := FF.kind; omega)] at h2
    exact h2
  have T1 : ∀ w', Lw w0 bz (K.Pap v (S 1).1 (S 1).2) w' → Calls Try.prog 55 #[v, .int .i64 c.frm] w' fun e w'' => e = .returned v ∧ Lw w0 bz (K.Pap v (S 2).1 (S 2).2) w'' := by
    intro w' h
    rw [S1] at h
    rw [S2]
    have h2 := h.small c.frm (by omega) (by have := FF.frm; omega)
    rw [small_st (by have := FF.frm; omega)] at h2
    exact h2
  have T2 : ∀ w', Lw w0 bz (K.Pap v (S 2).1 (S 2).2) w' → Calls Try.prog 55 #[v, .int .i64 c.why] w' fun e w'' => e = .returned v ∧ Lw w0 bz (K.Pap v (S 3).1 (S 3).2) w'' := by
    intro w' h
    rw [S2] at h
    rw [S3]
    have h2 := h.small c.why (by omega) (by have := FF.why; omega)
    rw [small_st (by have := FF.why; omega)] at h2
    exact h2
  clear hS h LL0 HC0 hbz F FF CP
  go_enter Try.func24, Try.ntmps24
  go_wp2_with fail
  refine Ssc.region (Ext := fun _ _ => True) 11 [4, 7, 10] (fun w' => Row w' wr.heap.size 59 [v] ∧ Row w' (wr.heap.size + 1) 29 [.int .i64 c.kind, .int .i64 c.frm, .int .i64 c.why, .slice m.a1 c.cards.length m.c1, .slice m.a2 c.parcels.length m.c2, .slice m.a3 c.vector.length m.c3, .slice m.a4 c.who.length m.c4, .slice m.a5 c.openings.length m.c5]) (fun s w' => Lw w0 bz (K.Pap v (S s).1 (S s).2) w') [5, 6, 7, 8, 9, 10, 11, 12, 13, 14, 15]
    [(5, Ssx.cst (.pointer (some ⟨wr.heap.size, 0, none⟩))), (6, Ssx.cst (v)), (7, Ssx.cst (.pointer (some ⟨wr.heap.size + 1, 0, none⟩))), (8, Ssx.cst (.int .i64 c.kind)), (9, Ssx.cst (v)), (10, Ssx.cst (.pointer (some ⟨wr.heap.size + 1, 1, none⟩))), (11, Ssx.cst (.int .i64 c.frm)), (12, Ssx.cst (v)), (13, Ssx.cst (.pointer (some ⟨wr.heap.size + 1, 2, none⟩))), (14, Ssx.cst (.int .i64 c.why)), (15, Ssx.cst (v))]
    [] (by kernel_rfl) (by kernel_rfl) (by kernel_rfl) (by simp) (by kernel_rfl) (by kernel_rfl) (by kernel_rfl) (by intro p hp; cases hp) (by kernel_rfl) (by kernel_rfl) (fun _ => trivial) (⟨(HC.out _ _ (LL.out.mono (K.papS _ _ _) (Old.of_drewN _ 1))).1, (HC.out _ _ (LL.out.mono (K.papS _ _ _) (Old.of_drewN _ 1))).2.1⟩) ((by rw [S0]; exact LL.out.mono (K.papS _ _ _) (Old.of_drewN _ 1))) ?good ?behind
  case good =>
    have hE : ∀ w w' : World, (fun w' => Row w' wr.heap.size 59 [v] ∧ Row w' (wr.heap.size + 1) 29 [.int .i64 c.kind, .int .i64 c.frm, .int .i64 c.why, .slice m.a1 c.cards.length m.c1, .slice m.a2 c.parcels.length m.c2, .slice m.a3 c.vector.length m.c3, .slice m.a4 c.who.length m.c4, .slice m.a5 c.openings.length m.c5]) w → Old w w' → (fun _ _ => True) w w' := fun _ _ _ _ => trivial
    have hDo : ∀ (b : Nat) (w w' : World), (fun s w' => Lw w0 bz (K.Pap v (S s).1 (S s).2) w') b w → Old w w' → (fun s w' => Lw w0 bz (K.Pap v (S s).1 (S s).2) w') b w' := fun b _ _ h o => Lw.mono (K.papS _ _ _) h o
    refine And.intro (Ssc.ask_free (by kernel_rfl) fun b hb => ⟨by kernel_rfl, Ssc.keep (Ssx.val1 Old.refl (x := 2) (.pointer (some ⟨wr.heap.size, 0, none⟩)) (by simp [Op.operands]) rfl (fun _ _ h => h) (fun ρ h1 hc w => by unfold execOp; simp [h1, go_sem]) (fun _ => rfl)) hE (hDo b)⟩) ?_
    refine And.intro (Ssc.ask_free (by kernel_rfl) fun b hb => ⟨by kernel_rfl, Ssc.keep (Ssy.cell Old.refl rfl rfl (⟨wr.heap.size, 0, none⟩) (v) (fun _ _ h => h) (fun _ h => h.1.cell rfl) Try.underlying56 rfl (fun _ => rfl)) hE (hDo b)⟩) ?_
    refine And.intro (Ssc.ask_free (by kernel_rfl) fun b hb => ⟨by kernel_rfl, Ssc.keep (Ssx.val1 Old.refl (x := 3) (.pointer (some ⟨wr.heap.size + 1, 0, none⟩)) (by simp [Op.operands]) rfl (fun _ _ h => h) (fun ρ h1 hc w => by unfold execOp; simp [h1, go_sem]) (fun _ => rfl)) hE (hDo b)⟩) ?_
    refine And.intro (Ssc.ask_free (by kernel_rfl) fun b hb => ⟨by kernel_rfl, Ssc.keep (Ssy.cell Old.refl rfl rfl (⟨wr.heap.size + 1, 0, none⟩) (.int .i64 c.kind) (fun _ _ h => h) (fun _ h => h.2.cell rfl) Try.underlying3 rfl (fun _ => rfl)) hE (hDo b)⟩) ?_
    refine And.intro (Ssc.ask_link (by kernel_rfl) (by kernel_rfl) (by kernel_rfl) (Ssc.link (b := 0) rfl fun a' w' hC hD hop => ⟨55, #[v, .int .i64 c.kind], ?_, (T0 w' hD).mono fun _ _ ⟨e, l⟩ => ⟨_, e, ⟨(HC.out _ _ l).1, (HC.out _ _ l).2.1⟩, trivial, rfl, l⟩⟩)) ?_
    · have h0 : a'.eval (.tmp 6) = v := hop 6 (by simp [Op.operands, Call.operands])
      have h1 : a'.eval (.tmp 8) = .int .i64 c.kind := hop 8 (by simp [Op.operands, Call.operands])
      simp [Act.eval] at h0 h1
      simp [h0, h1, go_sem]
    refine And.intro (Ssc.ask_free (by kernel_rfl) fun b hb => ⟨by kernel_rfl, Ssc.keep (Ssx.val1 Old.refl (x := 3) (.pointer (some ⟨wr.heap.size + 1, 0, none⟩)) (by simp [Op.operands]) rfl (fun _ _ h => h) (fun ρ h1 hc w => by unfold execOp; simp [h1, go_sem]) (fun _ => rfl)) hE (hDo b)⟩) ?_
    refine And.intro (Ssc.ask_free (by kernel_rfl) fun b hb => ⟨by kernel_rfl, Ssc.keep (Ssy.cell Old.refl rfl rfl (⟨wr.heap.size + 1, 1, none⟩) (.int .i64 c.frm) (fun _ _ h => h) (fun _ h => h.2.cell rfl) Try.underlying3 rfl (fun _ => rfl)) hE (hDo b)⟩) ?_
    refine And.intro (Ssc.ask_link (by kernel_rfl) (by kernel_rfl) (by kernel_rfl) (Ssc.link (b := 1) rfl fun a' w' hC hD hop => ⟨55, #[v, .int .i64 c.frm], ?_, (T1 w' hD).mono fun _ _ ⟨e, l⟩ => ⟨_, e, ⟨(HC.out _ _ l).1, (HC.out _ _ l).2.1⟩, trivial, rfl, l⟩⟩)) ?_
    · have h0 : a'.eval (.tmp 9) = v := hop 9 (by simp [Op.operands, Call.operands])
      have h1 : a'.eval (.tmp 11) = .int .i64 c.frm := hop 11 (by simp [Op.operands, Call.operands])
      simp [Act.eval] at h0 h1
      simp [h0, h1, go_sem]
    refine And.intro (Ssc.ask_free (by kernel_rfl) fun b hb => ⟨by kernel_rfl, Ssc.keep (Ssx.val1 Old.refl (x := 3) (.pointer (some ⟨wr.heap.size + 1, 0, none⟩)) (by simp [Op.operands]) rfl (fun _ _ h => h) (fun ρ h1 hc w => by unfold execOp; simp [h1, go_sem]) (fun _ => rfl)) hE (hDo b)⟩) ?_
    refine And.intro (Ssc.ask_free (by kernel_rfl) fun b hb => ⟨by kernel_rfl, Ssc.keep (Ssy.cell Old.refl rfl rfl (⟨wr.heap.size + 1, 2, none⟩) (.int .i64 c.why) (fun _ _ h => h) (fun _ h => h.2.cell rfl) Try.underlying22 rfl (fun _ => rfl)) hE (hDo b)⟩) ?_
    refine And.intro (Ssc.ask_link (by kernel_rfl) (by kernel_rfl) (by kernel_rfl) (Ssc.link (b := 2) rfl fun a' w' hC hD hop => ⟨55, #[v, .int .i64 c.why], ?_, (T2 w' hD).mono fun _ _ ⟨e, l⟩ => ⟨_, e, ⟨(HC.out _ _ l).1, (HC.out _ _ l).2.1⟩, trivial, rfl, l⟩⟩)) ?_
    · have h0 : a'.eval (.tmp 12) = v := hop 12 (by simp [Op.operands, Call.operands])
      have h1 : a'.eval (.tmp 14) = .int .i64 c.why := hop 14 (by simp [Op.operands, Call.operands])
      simp [Act.eval] at h0 h1
      simp [h0, h1, go_sem]
    exact trivial
  case behind =>
    intro vals wb hC hD hv
    have v5 : vals 5 = _ := hv _ (.head _)
    have v6 : vals 6 = _ := hv _ (.tail _ (.head _))
    have v7 : vals 7 = _ := hv _ (.tail _ (.tail _ (.head _)))
    have v8 : vals 8 = _ := hv _ (.tail _ (.tail _ (.tail _ (.head _))))
    have v9 : vals 9 = _ := hv _ (.tail _ (.tail _ (.tail _ (.tail _ (.head _)))))
    have v10 : vals 10 = _ := hv _ (.tail _ (.tail _ (.tail _ (.tail _ (.tail _ (.head _))))))
    have v11 : vals 11 = _ := hv _ (.tail _ (.tail _ (.tail _ (.tail _ (.tail _ (.tail _ (.head _)))))))
    have v12 : vals 12 = _ := hv _ (.tail _ (.tail _ (.tail _ (.tail _ (.tail _ (.tail _ (.tail _ (.head _))))))))
    have v13 : vals 13 = _ := hv _ (.tail _ (.tail _ (.tail _ (.tail _ (.tail _ (.tail _ (.tail _ (.tail _ (.head _)))))))))
    have v14 : vals 14 = _ := hv _ (.tail _ (.tail _ (.tail _ (.tail _ (.tail _ (.tail _ (.tail _ (.tail _ (.tail _ (.head _))))))))))
    have v15 : vals 15 = _ := hv _ (.tail _ (.tail _ (.tail _ (.tail _ (.tail _ (.tail _ (.tail _ (.tail _ (.tail _ (.tail _ (.head _)))))))))))
    simp only [List.length_cons, List.length_nil, Nat.zero_add, Nat.reduceAdd, S3] at hD
    simp only [Ssa.putAll, List.map_cons, List.map_nil, List.foldl_cons, List.foldl_nil, List.setIfInBounds_toArray, List.set_cons_succ, List.set_cons_zero, v5, v6, v7, v8, v9, v10, v11, v12, v13, v14, v15, List.drop_succ_cons, List.drop_zero]
    obtain ⟨g, hg⟩ : ∃ g, g = wr.heap.size := ⟨_, rfl⟩
    rw [← hg] at HC ⊢
    clear hg
    have L0 : Hid (Lw w0 bz (K.Pap v (some (le4 c.kind.toNat ++ le4 c.frm.toNat ++ le4 c.why.toNat)) 12) wb) := hD
    have M0 : Hid (12 ≤ 12) := Nat.le_refl _
    clear hC hD hv T0 T1 T2 S0 S1 S2 S3 LL v5 v6 v7 v8 v9 v10 v11 v12 v13 v14 v15
    have c0 := (HC.out _ _ L0.out).1.cell (i := 0) rfl
    have d0 := (HC.out _ _ L0.out).2.1.cell (i := 3) rfl
    have C0 := hide (writeList_card K L0.out m.a1 m.c1 c.cards HF.out.cardT (fun x hx => ⟨by have := HFF.out.cards.2 x hx; omega, by have := HFF.out.cards.2 x hx; omega, (HF.out.cardB x hx).2⟩) (by have := HFF.out.cards.1; omega) (by have := M0.out; omega))
    go_wp2_with fail
    refine C0.out.mono ?_
    rintro e w1 ⟨rfl, m1, hm1, l1⟩
    have L1 : Hid (Lw w0 bz (K.Pap v (some (le4 c.kind.toNat ++ le4 c.frm.toNat ++ le4 c.why.toNat ++ le4 c.cards.length ++ c.cards.flatMap cardT)) m1) w1) := l1
    have M1 : Hid (m1 ≤ 1296) := by have h1 := M0.out; have h2 := hm1; have h3 := HFF.out.cards.1; have : c.cards.length * 20 ≤ 64 * 20 := Nat.mul_le_mul_right _ h3; show _ ≤ _; omega
    clear C0 c0 d0 l1 hm1 L0 M0
    have c1 := (HC.out _ _ L1.out).1.cell (i := 0) rfl
    have d1 := (HC.out _ _ L1.out).2.1.cell (i := 4) rfl
    have C1 := hide (writeList_parcel K L1.out m.a2 m.c2 c.parcels m.pa m.pc HF.out.parcelT (fun x hx => ⟨by have := (HFF.out.parcels.2 x hx).1; omega, by have := (HFF.out.parcels.2 x hx).1; omega, by have := (HFF.out.parcels.2 x hx).2.1; omega, by have := (HFF.out.parcels.2 x hx).2.1; omega, (HFF.out.parcels.2 x hx).2.2, (HF.out.parcelB x hx).2.2.1⟩) (fun i x hx => ⟨rfl, HCP.out i x hx, (HF.out.parcelB x (List.mem_of_getElem? hx)).2.2.2, (HF.out.parcelB x (List.mem_of_getElem? hx)).2.2.1, (HF.out.parcels i x hx).2⟩) (by have := HFF.out.parcels.1; omega) (by have := M1.out; omega))
    go_wp2_with fail
    refine C1.out.mono ?_
    rintro e w2 ⟨rfl, m2, hm2, l2⟩
    have L2 : Hid (Lw w0 bz (K.Pap v (some (le4 c.kind.toNat ++ le4 c.frm.toNat ++ le4 c.why.toNat ++ le4 c.cards.length ++ c.cards.flatMap cardT ++ le4 c.parcels.length ++ c.parcels.flatMap parcelT)) m2) w2) := l2
    have M2 : Hid (m2 ≤ 6164) := by have h1 := M1.out; have h2 := hm2; have h3 := HFF.out.parcels.1; have : c.parcels.length * 76 ≤ 64 * 76 := Nat.mul_le_mul_right _ h3; show _ ≤ _; omega
    clear C1 c1 d1 l2 hm2 L1 M1
    have c2 := (HC.out _ _ L2.out).1.cell (i := 0) rfl
    have d2 := (HC.out _ _ L2.out).2.1.cell (i := 5) rfl
    have C2 := hide (writeList_number K L2.out m.a3 m.c3 c.vector HF.out.vector HF.out.vectorB HFF.out.vector (by have := M2.out; omega))
    go_wp2_with fail
    refine C2.out.mono ?_
    rintro e w3 ⟨rfl, m3, hm3, l3⟩
    have L3 : Hid (Lw w0 bz (K.Pap v (some (le4 c.kind.toNat ++ le4 c.frm.toNat ++ le4 c.why.toNat ++ le4 c.cards.length ++ c.cards.flatMap cardT ++ le4 c.parcels.length ++ c.parcels.flatMap parcelT ++ le4 c.vector.length ++ c.vector.flatMap le4)) m3) w3) := l3
    have M3 : Hid (m3 ≤ 7192) := by have h1 := M2.out; have h2 := hm3; have h3 := HFF.out.vector; have : c.vector.length * 4 ≤ 256 * 4 := Nat.mul_le_mul_right _ h3; show _ ≤ _; omega
    clear C2 c2 d2 l3 hm3 L2 M2
    have c3 := (HC.out _ _ L3.out).1.cell (i := 0) rfl
    have d3 := (HC.out _ _ L3.out).2.1.cell (i := 6) rfl
    have C3 := hide (writeList_who K L3.out m.a4 m.c4 c.who HF.out.who (fun x hx => by have := HFF.out.who.2 x hx; omega) (by have := HFF.out.who.1; omega) (by have := M3.out; omega))
    go_wp2_with fail
    refine C3.out.mono ?_
    rintro e w4 ⟨rfl, m4, hm4, l4⟩
    have L4 : Hid (Lw w0 bz (K.Pap v (some (le4 c.kind.toNat ++ le4 c.frm.toNat ++ le4 c.why.toNat ++ le4 c.cards.length ++ c.cards.flatMap cardT ++ le4 c.parcels.length ++ c.parcels.flatMap parcelT ++ le4 c.vector.length ++ c.vector.flatMap le4 ++ le4 c.who.length ++ c.who.flatMap whoT)) m4) w4) := l4
    have M4 : Hid (m4 ≤ 7452) := by have h1 := M3.out; have h2 := hm4; have h3 := HFF.out.who.1; have : c.who.length * 4 ≤ 64 * 4 := Nat.mul_le_mul_right _ h3; show _ ≤ _; omega
    clear C3 c3 d3 l4 hm4 L3 M3
    have c4 := (HC.out _ _ L4.out).1.cell (i := 0) rfl
    have d4 := (HC.out _ _ L4.out).2.1.cell (i := 7) rfl
    have C4 := hide (writeList_opening K L4.out m.a5 m.c5 c.openings m.oa m.oc HF.out.openingT (fun x hx => ⟨by have := (HFF.out.openings.2 x hx).1; omega, by have := (HFF.out.openings.2 x hx).1; omega, (HFF.out.openings.2 x hx).2, (HF.out.openingB x hx).2.1⟩) (fun i x hx => (HF.out.openings i x hx).2) (by have := HFF.out.openings.1; omega) (by have := M4.out; omega))
    go_wp2_with fail
    refine C4.out.mono ?_
    rintro e w5 ⟨rfl, m5, hm5, l5⟩
    have L5 : Hid (Lw w0 bz (K.Pap v (some (le4 c.kind.toNat ++ le4 c.frm.toNat ++ le4 c.why.toNat ++ le4 c.cards.length ++ c.cards.flatMap cardT ++ le4 c.parcels.length ++ c.parcels.flatMap parcelT ++ le4 c.vector.length ++ c.vector.flatMap le4 ++ le4 c.who.length ++ c.who.flatMap whoT ++ le4 c.openings.length ++ c.openings.flatMap openingT)) m5) w5) := l5
    have M5 : Hid (m5 ≤ 10784) := by have h1 := M4.out; have h2 := hm5; have h3 := HFF.out.openings.1; have : c.openings.length * 52 ≤ 64 * 52 := Nat.mul_le_mul_right _ h3; show _ ≤ _; omega
    clear C4 c4 d4 l5 hm5 L4 M4
    have LE := hide (HC.out _ _ L5.out).2.2
    clear L5
    go_wp2
    go_ret
    exact ⟨rfl, m5, by have := M5.out; omega, LE.out⟩

end Go.Proofs.Ytepchjpdfmleoaa
