/-
  The document's own Take, Number and Open (offertoryref14): what they answer.
-/
import Derived.Test.YtccphdngmhfmnaaRefBytes
import Derived.Test.YtccphdngmhfmnaaBxs
import Derived.Test.YtccphdngmhfmnaaSsz
import Derived.Lib.Bytes
namespace Go.Proofs.Ytccphdngmhfmnaa
open Go.RowKit Cn
set_option linter.unusedVariables false

namespace Cn
theorem bs_take (l : List Nat) (n : Nat) : (Ssb.bstr l).extract 0 n = Ssb.bstr (l.take n) := by
  apply ByteArray.ext
  apply Array.ext'
  rw [bs_toList, ByteArray.data_extract, Array.toList_extract, bs_toList]
  simp [List.map_take]
theorem bs_drop (l : List Nat) (n : Nat) : (Ssb.bstr l).extract n (Ssb.bstr l).size = Ssb.bstr (l.drop n) := by
  apply ByteArray.ext
  apply Array.ext'
  rw [bs_toList, ByteArray.data_extract, Array.toList_extract, bs_toList, bs_size]
  rw [List.extract_eq_take_drop, List.take_of_length_le (by simp), List.map_drop]
end Cn

/-- Fields: what is left, and what was wrong. -/
def fdv (l : List Nat) (er : Int) : Value := .agg #[.string (Ssb.bstr l), .int .i64 er]
def fdc (l : List Nat) (er : Int) : List Value := [.string (Ssb.bstr l), .int .i64 er]
theorem fdc_one (l : List Nat) (er : Int) : ∀ v ∈ fdc l er, v.oneCell' = true := by
  intro v hv
  simp [fdc] at hv
  rcases hv with rfl | rfl <;> rfl
theorem infoFd {a b : Value} : (Try.prog.info? 44).map (·.size) = some [a, b].length := by kernel_rfl
/-- What is taken, what is left then, what is wrong then. -/
def tkS (l : List Nat) (er : Int) (n : Nat) : List Nat := if er ≠ 0 then [] else if l.length < n then [] else l.take n
def tkL (l : List Nat) (er : Int) (n : Nat) : List Nat := if er ≠ 0 then l else if l.length < n then [] else l.drop n
def tkE (l : List Nat) (er : Int) (n : Nat) : Int := if er ≠ 0 then er else if l.length < n then 3 else 0

theorem results_tmp_cell {P : Program} {fn : Func} {p q : Tmp} {ty : TypeId} (h : fn.results = #[.tmp q, .cell p ty]) {tmps : Array Value} {w : World} {g : Nat} {t : TypeId} {vs : List Value} {d : TypeDesc} {v : Value}
    (hp : tmps.getD p undef = .pointer (some ⟨g, 0, none⟩)) (hq : tmps.getD q undef = v) (R : Row w g t vs)
    (hu : P.underlying ty = some d) (hd : (match d with | .struct _ | .array _ _ => true | _ => false) = true) (hi : (P.info? ty).map (·.size) = some vs.length) :
    (results fn tmps).run P w = .ok (.tuple #[v, .agg vs.toArray]) w := by
  have hp' : tmps[p]?.getD undef = .pointer (some ⟨g, 0, none⟩) := by simpa using hp
  have hq' : tmps[q]?.getD undef = v := by simpa using hq
  simp [results, h, hp', hq', asAddr, run_loadVar_row w g t ty vs.toArray (0, 0) d R hu hd (by simpa using hi)]

set_option maxHeartbeats 2000000 in
theorem refTake14_any (l : List Nat) (er : Int) (n : Nat) (hl : l.length ≤ 1000000) (hn : n ≤ 4294967295) (w : World) :
    Calls Try.prog 23 #[fdv l er, .int .i64 (n : Int)] w fun e w' => e = .returned (.tuple #[.string (Ssb.bstr (tkS l er n)), fdv (tkL l er n) (tkE l er n)]) ∧ Old w w' := by
  have O2 : ∀ a b : Obj, Old w ((w.alloc a).alloc b) := fun a b => (Old.of_alloc w a).alloc b
  by_cases he : er = 0
  · subst he
    have hz : (Ssb.bstr l).size = l.length := bs_size l
    by_cases h : l.length < n
    · have E : tkS l 0 n = [] ∧ tkL l 0 n = [] ∧ tkE l 0 n = 3 := by unfold tkS tkL tkE; simp [h]
      rw [E.1, E.2.1, E.2.2]
      have t1 : decide ((n : Int) > ((Ssb.bstr l).size : Int)) = true := by rw [hz]; simp; omega
      have t2 : decide (((Ssb.bstr l).size : Int) < (n : Int)) = true := t1
      have t3 : decide ((Ssb.bstr l).size < n) = true := by rw [hz]; simpa using h
      unfold fdv
      clear E h hl hz hn
      generalize Ssb.bstr l = s at *
      go_enter Try.func23, Try.ntmps23
      go_wp2
      simp [bodyPost, results, Try.results23, go_sem]
      exact ⟨rfl, O2 _ _⟩
    · have E : tkS l 0 n = l.take n ∧ tkL l 0 n = l.drop n ∧ tkE l 0 n = 0 := by unfold tkS tkL tkE; simp [h]
      rw [E.1, E.2.1, E.2.2]
      unfold fdv
      rw [← bs_take, ← bs_drop]
      have t1 : decide ((n : Int) > ((Ssb.bstr l).size : Int)) = false := by rw [hz]; simp; omega
      have t2 : decide (((Ssb.bstr l).size : Int) < (n : Int)) = false := t1
      have t3 : decide ((Ssb.bstr l).size < n) = false := by rw [hz]; simpa using h
      have q0 : (0 : Int) ≤ n := by omega
      have q1 : (n : Int) ≤ ((Ssb.bstr l).size : Int) := by rw [hz]; omega
      have q2 : n ≤ (Ssb.bstr l).size := by rw [hz]; omega
      clear E h hl hz hn
      generalize Ssb.bstr l = s at *
      go_enter Try.func23, Try.ntmps23
      go_wp2_with fail
      go_region
      go_wp2
      simp [bodyPost, results, Try.results23, go_sem]
      exact (O2 _ _).drew
  · have E : tkS l er n = [] ∧ tkL l er n = l ∧ tkE l er n = er := by unfold tkS tkL tkE; simp [he]
    rw [E.1, E.2.1, E.2.2]
    have t1 : (er != 0) = true := by simpa using he
    unfold fdv
    clear E hl hn
    generalize Ssb.bstr l = s at *
    go_enter Try.func23, Try.ntmps23
    go_wp2_with fail
    go_region
    go_wp2
    simp [bodyPost, results, Try.results23, go_sem]
    exact ⟨rfl, (O2 _ _).drew⟩

/-- The next bytes as a number. -/
def nmN (l : List Nat) (er : Int) (n : Nat) : Nat := numL (tkS l er n)
theorem tkS_lt {l : List Nat} (hl : ∀ x ∈ l, x < 256) (er : Int) (n : Nat) : ∀ x ∈ tkS l er n, x < 256 := by
  unfold tkS
  split
  · simp
  · split
    · simp
    · exact fun x hx => hl x (List.mem_of_mem_take hx)
theorem tkL_lt {l : List Nat} (hl : ∀ x ∈ l, x < 256) (er : Int) (n : Nat) : ∀ x ∈ tkL l er n, x < 256 := by
  unfold tkL
  split
  · exact hl
  · split
    · simp
    · exact fun x hx => hl x (List.mem_of_mem_drop hx)
theorem tkS_len (l : List Nat) (er : Int) (n : Nat) : (tkS l er n).length ≤ n := by
  unfold tkS
  split
  · simp
  · split
    · simp
    · simp; omega
theorem tkL_len (l : List Nat) (er : Int) (n : Nat) : (tkL l er n).length ≤ l.length := by
  unfold tkL
  split
  · simp
  · split
    · simp
    · simp

set_option maxRecDepth 100000 in
set_option maxHeartbeats 2000000 in
theorem refNumber14_any (l : List Nat) (er : Int) (n : Nat) (hx : ∀ x ∈ l, x < 256) (hl : l.length ≤ 1000000) (hn : n ≤ 8) (w : World) :
    Calls Try.prog 20 #[fdv l er, .int .i64 (n : Int)] w fun e w' => e = .returned (.tuple #[.int .u64 ((nmN l er n : Nat) : Int), fdv (tkL l er n) (tkE l er n)]) ∧ Old w w' := by
  have C1 := hide (fun wr : World => refTake14_any l er n hl (by omega) wr)
  have C2 := hide (fun wr : World => refnumber14_any (tkS l er n) (tkS_lt hx er n) (by have := tkS_len l er n; omega) wr)
  unfold nmN
  clear hx hl hn
  revert C1 C2
  generalize tkS l er n = s
  generalize tkL l er n = l'
  generalize tkE l er n = er'
  intro C1 C2
  unfold fdv at *
  have B0 : Hid (Bxs w [(w.heap.size, 44, fdc l er), (w.heap.size + 1, 44, [.string ⟨#[]⟩, .int .i64 0])] ((w.alloc (.cells #[.string (Ssb.bstr l), .int .i64 er] 44)).alloc (.cells #[.string ⟨#[]⟩, .int .i64 0] 44))) :=
    ((Bxs.nil w).alloc 44 (fdc l er) rfl).alloc 44 [.string ⟨#[]⟩, .int .i64 0] (by rw [World.size_alloc])
  go_enter Try.func20, Try.ntmps20
  go_wp2_with fail
  refine (C1.out _).mono ?_
  rintro e w1 ⟨rfl, o1⟩
  have B1 := hide ((B0.out.mono o1).alloc 44 (fdc l' er') rfl)
  clear B0 o1 C1
  go_wp2_with fail
  refine Ssz.region (Ext := Old) 4 (fun w' => Bxs w [(w.heap.size, 44, fdc l er), (w.heap.size + 1, 44, [.string ⟨#[]⟩, .int .i64 0]), (w1.heap.size, 44, fdc l' er')] w') (Ssz.Apart []) [14, 15, 16, 4]
    [(14, Ssx.cst (.string (Ssb.bstr s))), (15, Ssx.cst (.int .u64 (numL s : Nat))), (16, Ssx.cst (.agg (fdc l' er').toArray)), (4, Ssx.cst (.int .u64 (numL s : Nat)))]
    [] (by kernel_rfl) (by kernel_rfl) (by kernel_rfl) (by simp) (by kernel_rfl) (by intro p hp; cases hp) (by kernel_rfl) (by kernel_rfl) Old.refl (B1.out.mono (Old.of_drewN _ _)) ?apart ?good ?behind
  case apart => exact ⟨fun s hs => by simp at hs, fun s hs => by simp at hs⟩
  case good =>
    have hE : ∀ w w' : World, Old w w' → w.heap.size ≤ w'.heap.size := fun _ _ h => h.size
    refine And.intro (.inr ⟨by kernel_rfl, Ssz.keep (Ssx.mv Old.refl rfl rfl (fun _ _ h => h)) hE (by kernel_rfl)⟩) ?_
    refine And.intro (.inr ⟨by kernel_rfl, Ssz.keep (Ssx.call rfl fun a' w' hC hop => ⟨35, #[.string (Ssb.bstr s)], ?_, (C2.out w').mono fun _ _ ⟨h1, h2⟩ => ⟨_, h1, h2 ▸ hC, h2 ▸ Old.refl _, rfl⟩⟩) hE (by kernel_rfl)⟩) ?_
    · have h0 : a'.eval (.tmp 14) = .string (Ssb.bstr s) := hop 14 (by simp [Op.operands, Call.operands])
      simp [Act.eval] at h0
      simp [h0, go_sem]
    refine And.intro (.inr ⟨by kernel_rfl, Ssz.keep (Ssx.whole Old.refl rfl rfl (w1.heap.size) (fdc l' er') (fun _ _ h => h) (fun _ h => (h.row 2 rfl).rngX) Try.underlying44 rfl infoFd (fun _ => rfl)) hE (by kernel_rfl)⟩) ?_
    refine And.intro (.inr ⟨by kernel_rfl, Ssz.keep (Ssx.asg Old.refl rfl rfl (fun _ _ h => h)) hE (by kernel_rfl)⟩) ?_
    exact trivial
  case behind =>
    intro vals wb hC hD hv
    have v14 : vals 14 = _ := hv _ (.head _)
    have v15 : vals 15 = _ := hv _ (.tail _ (.head _))
    have v16 : vals 16 = _ := hv _ (.tail _ (.tail _ (.head _)))
    have v4 : vals 4 = _ := hv _ (.tail _ (.tail _ (.tail _ (.head _))))
    simp only [Ssa.putAll, List.map_cons, List.map_nil, List.foldl_cons, List.foldl_nil, List.setIfInBounds_toArray, List.set_cons_succ, List.set_cons_zero, v14, v15, v16, v4, List.drop_succ_cons, List.drop_zero]
    have B2 := hide hC
    clear hC hD hv v14 v15 v16 v4 B1 C2
    clear vals
    go_wp2_with (refine wp_store_whole rfl 44 _ _ rfl (w.heap.size + 1) rfl (fdc l' er') rfl (B2.out.row 1 rfl) infoFd rfl (fdc_one _ _) ?_; rintro w9 h9
                 have E9 := B2.out.store 1 rfl _ h9
                 clear h9)
    exact bodyPost_ret (v := .tuple #[.int .u64 (numL s : Nat), .agg (fdc l' er').toArray]) (results_tmp_cell rfl rfl rfl (E9.row 1 rfl) Try.underlying44 rfl infoFd) rfl ⟨rfl, E9.old⟩

namespace Cn
theorem bs_inj {l m : List Nat} (hl : ∀ x ∈ l, x < 256) (hm : ∀ x ∈ m, x < 256) (h : Ssb.bstr l = Ssb.bstr m) : l = m := by
  have h1 : l.map UInt8.ofNat = m.map UInt8.ofNat := by rw [← bs_toList, ← bs_toList, h]
  have back : ∀ k : List Nat, (∀ x ∈ k, x < 256) → (k.map UInt8.ofNat).map UInt8.toNat = k := by
    intro k hk
    rw [List.map_map]
    conv => rhs; rw [← List.map_id k]
    apply List.map_congr_left
    intro x hx
    have := hk x hx
    simp
    omega
  rw [← back l hl, ← back m hm, h1]
theorem bs_tl (l : List Nat) : (Ssb.bstr l).toList = l.map UInt8.ofNat := by
  unfold Ssb.bstr
  rw [Lib.strOfNums_toList]
  simp [Lib.bytesOf]
theorem bs_toList_inj {l m : List Nat} (hl : ∀ x ∈ l, x < 256) (hm : ∀ x ∈ m, x < 256) (h : (Ssb.bstr l).toList = (Ssb.bstr m).toList) : l = m :=
  bs_inj hl hm (by
    apply ByteArray.ext
    apply Array.ext'
    rw [bs_toList, bs_toList, ← bs_tl, ← bs_tl, h])
end Cn

/-- What is wrong with sealed bytes, and their fields. -/
def opE (xs : List Nat) : Int := if xs.length < 4 then 3 else if 65540 < xs.length then 6 else if le4 (crc (xs.take (xs.length - 4))) ≠ xs.drop (xs.length - 4) then 2 else 0
def opL (xs : List Nat) : List Nat := if opE xs = 0 then xs.take (xs.length - 4) else []
theorem opL_lt {xs : List Nat} (h : ∀ x ∈ xs, x < 256) : ∀ x ∈ opL xs, x < 256 := by
  unfold opL
  split
  · exact fun x hx => h x (List.mem_of_mem_take hx)
  · simp
theorem opL_len (xs : List Nat) : (opL xs).length ≤ 65536 := by
  unfold opL
  split
  · rename_i h
    unfold opE at h
    rw [List.length_take]
    split at h
    · cases h
    · split at h
      · cases h
      · omega
  · simp

set_option maxRecDepth 100000 in
set_option maxHeartbeats 2000000 in
theorem refOpen14_any (xs : List Nat) (b : Option Addr) (n cap : Nat) (hx : ∀ x ∈ xs, x < 256) (hn : xs.length = n) (hs : n ≤ 9223372036854775807) (hc : n ≤ cap) (w : World) (rd : Rd w b (nums .u8 xs)) :
    Calls Try.prog 19 #[.slice b n cap] w fun e w' => e = .returned (fdv (opL xs) (opE xs)) ∧ Old w w' := by
  by_cases h1 : n < 4
  · have E : opE xs = 3 := by unfold opE; rw [hn, if_pos h1]
    have E2 : opL xs = [] := by unfold opL; rw [E]; rfl
    rw [E, E2]
    have t1 : decide ((n : Int) < 4) = true := by simp; omega
    unfold fdv
    clear E E2 hx hn rd hs hc
    go_enter Try.func19, Try.ntmps19
    go_wp2
    simp [bodyPost, results, Try.results19, go_sem]
    exact ⟨rfl, Old.of_alloc _ _⟩
  have t1 : decide ((n : Int) < 4) = false := by simp; omega
  by_cases h2 : 65540 < n
  · have E : opE xs = 6 := by unfold opE; rw [hn, if_neg h1, if_pos h2]
    have E2 : opL xs = [] := by unfold opL; rw [E]; rfl
    rw [E, E2]
    have t2 : decide ((65540 : Int) < n) = true := by simp; omega
    have t2' : decide ((n : Int) > 65540) = true := t2
    unfold fdv
    clear E E2 hx hn rd hs hc
    go_enter Try.func19, Try.ntmps19
    go_wp2
    simp [bodyPost, results, Try.results19, go_sem]
    exact ⟨rfl, Old.of_alloc _ _⟩
  have t2 : decide ((65540 : Int) < n) = false := by simp; omega
  have t2' : decide ((n : Int) > 65540) = false := t2
  obtain ⟨k, hk⟩ : ∃ k, n = k + 4 := ⟨n - 4, by omega⟩
  obtain ⟨b', off, _, rfl, _, _⟩ := rd.num (i := 0) (by omega)
  have rd1 : Rd w (some ⟨b', off, none⟩) (nums .u8 (xs.take k)) := by
    intro i v hv
    rw [show nums .u8 (xs.take k) = (nums .u8 xs).take k by simp [nums, List.map_take], List.getElem?_take] at hv
    split at hv
    · exact rd i v hv
    · cases hv
  have rd2 : Rd w (some ⟨b', off + k, none⟩) (nums .u8 (xs.drop k)) := by
    intro i v hv
    rw [show nums .u8 (xs.drop k) = (nums .u8 xs).drop k by simp [nums, List.map_drop], List.getElem?_drop] at hv
    obtain ⟨b2, o2, e, hcell⟩ := rd (k + i) v hv
    obtain ⟨rfl, rfl⟩ : b' = b2 ∧ off = o2 := by simpa using e
    exact ⟨b', off + k, rfl, by rw [Nat.add_assoc]; exact hcell⟩
  have HE : opE xs = if le4 (crc (xs.take k)) ≠ xs.drop k then 2 else 0 := by
    unfold opE
    rw [hn, if_neg h1, if_neg h2, show n - 4 = k by omega]
  have l1 : (xs.take k).length = k := by rw [List.length_take, hn]; omega
  have l2 : (xs.drop k).length = n - k := by rw [List.length_drop, hn]
  have x1 : ∀ x ∈ xs.take k, x < 256 := fun x h => hx x (List.mem_of_mem_take h)
  have x2 : ∀ x ∈ xs.drop k, x < 256 := fun x h => hx x (List.mem_of_mem_drop h)
  have HI := hide (fun h => bs_toList_inj (le4_lt (crc (xs.take k))) x2 h)
  have w1 := Old.of_alloc w (.cells #[.string ⟨#[]⟩, .int .i64 0] 44)
  have CV1 : ∀ c : Nat, (convert 26 9 (.slice (some ⟨b', off, none⟩) k c)).run Try.prog (w.alloc (.cells #[.string ⟨#[]⟩, .int .i64 0] 44)) = .ok (.string (Ssb.bstr (xs.take k))) _ := fun c => Ssb.run_bstr Try.underlying26 Try.underlying5 Try.underlying9 l1 (rd1.mono w1)
  have CV2 : ∀ (c : Nat) (y : After (w.alloc (.cells #[.string ⟨#[]⟩, .int .i64 0] 44))), (convert 26 9 (.slice (some ⟨b', off + k, none⟩) (n - k) c)).run Try.prog y.to = .ok (.string (Ssb.bstr (xs.drop k))) y.to := fun c y => Ssb.run_bstr Try.underlying26 Try.underlying5 Try.underlying9 l2 (rd2.mono (w1.trans y.old))
  have C1 := hide (fun y : After (w.alloc (.cells #[.string ⟨#[]⟩, .int .i64 0] 44)) => (refCheck14_any (xs.take k) x1 (by omega) y.to).mono (R' := fun e w' => e = .returned (.int .u32 (crc (xs.take k) : Nat)) ∧ Old y.to w') (fun _ _ ⟨h1, h2⟩ => ⟨h1, h2 ▸ Old.refl _⟩))
  have C2 := hide (fun y : After (w.alloc (.cells #[.string ⟨#[]⟩, .int .i64 0] 44)) => refSmall14_any (crc (xs.take k)) (by have := crc_lt (xs.take k); omega) y.to)
  have cl := crc_lt (xs.take k)
  have OL : opL xs = if opE xs = 0 then xs.take k else [] := by unfold opL; rw [hn, show n - 4 = k by omega]
  have q0 : (0 : Int) ≤ k := by omega
  have q1 : (k : Int) ≤ cap := by omega
  have q2 : k ≤ cap := by omega
  have q3 : k < cap := by omega
  have q4 : 1 ≤ cap - k := by omega
  have q5 : (k : Int) ≤ n := by omega
  have q6 : k ≤ n := by omega
  have ek' : wrap64 ((n : Int) - 4) = (k : Int) := by unfold wrap64; omega
  have eci : IntKind.i64.wrap ((crc (xs.take k) : Nat) : Int) = ((crc (xs.take k) : Nat) : Int) := by rw [IntKind.wrap_i64]; omega
  have ne : Nonempty (After (w.alloc (.cells #[.string ⟨#[]⟩, .int .i64 0] 44))) := ⟨⟨_, Old.refl _⟩⟩
  clear hx hn hs hc rd rd1 rd2 l1 l2 x1 x2 h1 h2 cl hk
  rw [OL]
  by_cases h3 : le4 (crc (xs.take k)) = xs.drop k
  · have H0 : opE xs = 0 := by rw [HE, if_neg (by simpa using h3)]
    rw [H0, if_pos rfl]
    have t3 : ((Ssb.bstr (le4 (crc (xs.take k)))).toList == (Ssb.bstr (xs.drop k)).toList) = true := by rw [h3]; simp
    clear HE OL h3 HI H0
    generalize le4 (crc (xs.take k)) = la at *
    generalize crc (xs.take k) = cc at *
    generalize xs.drop k = ys at *
    generalize xs.take k = zs at *
    unfold fdv
    have B0 : Hid (Bxs w [(w.heap.size, 44, [.string ⟨#[]⟩, .int .i64 0])] (w.alloc (.cells #[.string ⟨#[]⟩, .int .i64 0] 44))) := (Bxs.nil w).alloc 44 [.string ⟨#[]⟩, .int .i64 0] rfl
    go_enter Try.func19, Try.ntmps19
    go_wp2_with fail
    refine wp_region_calm (by kernel_rfl) (by kernel_rfl) ?_
    repeat (go_big_quiet_step (first | with_reducible exact calm_of (C1.out _) | with_reducible exact calm_of (C2.out _)))
    refine wpQuiet_nil ?_
    rintro _ ⟨⟨w3, o3⟩, rfl⟩
    have B1 := hide (B0.out.mono o3)
    clear B0 o3 C1 C2 CV1 CV2 ne
    go_wp2_with (refine wp_store_whole rfl 44 _ _ rfl w.heap.size rfl (fdc zs 0) rfl (B1.out.row 0 rfl) infoFd rfl (fdc_one _ _) ?_; rintro w9 h9
                 have E9 := B1.out.store 0 rfl _ h9
                 clear h9)
    exact bodyPost_ret (v := .agg (fdc zs 0).toArray) (results_whole rfl rfl (E9.row 0 rfl) Try.underlying44 rfl infoFd) rfl ⟨rfl, E9.old⟩
  · have H0 : opE xs = 2 := by rw [HE, if_pos h3]
    rw [H0, if_neg (by omega)]
    have t3 : ((Ssb.bstr (le4 (crc (xs.take k)))).toList == (Ssb.bstr (xs.drop k)).toList) = false := by
      rw [beq_eq_false_iff_ne]
      exact fun h => h3 (HI.out h)
    clear HE OL h3 HI H0
    generalize le4 (crc (xs.take k)) = la at *
    generalize crc (xs.take k) = cc at *
    generalize xs.drop k = ys at *
    generalize xs.take k = zs at *
    unfold fdv
    have B0 : Hid (Bxs w [(w.heap.size, 44, [.string ⟨#[]⟩, .int .i64 0])] (w.alloc (.cells #[.string ⟨#[]⟩, .int .i64 0] 44))) := (Bxs.nil w).alloc 44 [.string ⟨#[]⟩, .int .i64 0] rfl
    go_enter Try.func19, Try.ntmps19
    go_wp2_with fail
    refine wp_region_calm (by kernel_rfl) (by kernel_rfl) ?_
    repeat (go_big_quiet_step (first | with_reducible exact calm_of (C1.out _) | with_reducible exact calm_of (C2.out _)))
    refine wpQuiet_nil ?_
    rintro _ ⟨⟨w3, o3⟩, rfl⟩
    have B1 := hide (B0.out.mono o3)
    clear B0 o3 C1 C2 CV1 CV2 ne
    go_wp2_with (refine wp_store_whole rfl 44 _ _ rfl w.heap.size rfl (fdc [] 2) rfl (B1.out.row 0 rfl) infoFd rfl (fdc_one _ _) ?_; rintro w9 h9
                 have E9 := B1.out.store 0 rfl _ h9
                 clear h9)
    exact bodyPost_ret (v := .agg (fdc [] 2).toArray) (results_whole rfl rfl (E9.row 0 rfl) Try.underlying44 rfl infoFd) rfl ⟨rfl, E9.old⟩
end Go.Proofs.Ytccphdngmhfmnaa
