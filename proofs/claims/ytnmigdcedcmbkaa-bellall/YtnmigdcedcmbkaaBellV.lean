/-
  The landed bell: Stop, Set, Next, Strike, by what lies at its block.
-/
import Derived.Test.YtnmigdcedcmbkaaBellU
namespace Go.Proofs.Ytnmigdcedcmbkaa
open Go.RowKit Bl Hp Pn
set_option linter.unusedVariables false

theorem nodup_of_map {l : List Mk} (h : (l.map (·.1)).Nodup) : l.Nodup := by
  induction l with
  | nil => simp
  | cons x r ih =>
    rw [List.map_cons, List.nodup_cons] at h
    rw [List.nodup_cons]
    exact ⟨fun hx => h.1 (List.mem_map_of_mem hx), ih h.2⟩
theorem stop_perm {xs zs : List El} {x : El} {l : List Mk} (h : (xs.map Prod.snd).Perm l) (k : (zs ++ [x]).Perm xs) (o : One1 l) : (zs.map Prod.snd).Perm (stopL l x.2.1) := by
  have h2 : (zs.map Prod.snd ++ [x.2]).Perm l := by
    have := k.map Prod.snd
    rw [List.map_append] at this
    exact this.trans h
  have h3 := h2.filter (fun y : Mk => decide (y.1 ≠ x.2.1))
  rw [List.filter_append, List.filter_cons, if_neg (by simp), List.filter_nil, List.append_nil] at h3
  have h4 : (zs.map Prod.snd).filter (fun y : Mk => decide (y.1 ≠ x.2.1)) = zs.map Prod.snd := by
    rw [List.filter_eq_self]
    intro y hy
    have n := ((h2.map (fun y : Mk => y.1)).nodup_iff).2 o
    rw [List.map_append, List.nodup_append] at n
    have := n.2.2 y.1 (List.mem_map_of_mem hy) x.2.1 (by simp)
    simpa using this
  rw [h4] at h3
  exact h3
theorem hasL_stop (l : List Mk) (who : Int) : hasL (stopL l who) who = false := by
  rw [Bool.eq_false_iff]
  intro h
  obtain ⟨x, hx, e⟩ := hasL_iff.1 h
  exact (mem_stopL.1 hx).2 e
theorem set_perm {l : List Mk} (o : One1 l) (who t : Int) : (stopL l who ++ [(who, t)]).Perm (setL l who t) := by
  have e : setL (stopL l who) who t = stopL l who ++ [(who, t)] := by
    unfold setL
    rw [hasL_stop]
    simp
  have n1 : (stopL l who ++ [(who, t)]).Nodup := by
    rw [← e]
    exact nodup_of_map ((o.stop who).set who t)
  have n2 : (setL l who t).Nodup := nodup_of_map (o.set who t)
  rw [List.perm_ext_iff_of_nodup n1 n2]
  intro x
  rw [mem_setL, List.mem_append, List.mem_singleton, mem_stopL]
  constructor
  · rintro (h | h)
    · exact .inr h
    · exact .inl h
  · rintro (h | h)
    · exact .inr h
    · exact .inl h
theorem best_first {xs : List El} {l : List Mk} (h : (xs.map Prod.snd).Perm l) (H : Heap (kf Prod.snd xs) xs.length) (hx : 0 < xs.length) : bestL l = some (xs.getD 0 default).2 := by
  refine bestL_is ?_ fun y hy => ?_
  · refine h.mem_iff.1 (List.mem_map_of_mem ?_)
    rw [show xs.getD 0 default = xs[0] by simp [List.getD, hx]]
    exact List.getElem_mem _
  · obtain ⟨x, hx2, rfl⟩ := List.mem_map.1 (h.mem_iff.2 hy)
    obtain ⟨k, hk, rfl⟩ := List.mem_iff_getElem.1 hx2
    have := H.first k hk
    unfold kf at this
    rw [show xs.getD k default = xs[k] by simp [List.getD, hk]] at this
    exact this

/-- The bell at block bb; it will ring for those of l. -/
structure St19 (N : Nat) (B : Nat → Prop) (bb : Nat) (l : List Mk) (w : World) : Prop where
  new : N ≤ w.heap.size
  its : B bb ∨ N ≤ bb
  lies : (l = [] ∧ Row w bb 49 [.slice none 0 0, .map none]) ∨ ∃ gm hm xs ms, Full N B bb gm hm xs ms w ∧ (xs.map Prod.snd).Perm l
section
variable {N : Nat} {B : Nat → Prop} {bb : Nat} {l : List Mk} {w : World}
theorem look_nil (who : Int) (w : World) : (Instr.lookup 47 (.map none) (.int .i64 who) true).run Try.prog w = .ok (.tuple #[.pointer none, .bool false]) w := by kernel_rfl
theorem hasL_perm {xs : List El} {l : List Mk} {ms : List (Int × Nat)} (L : Link ms xs) (h : (xs.map Prod.snd).Perm l) (who : Int) : hasL l who = (lookP ms who).isSome := by
  cases e : lookP ms who with
  | none =>
    show _ = false
    rw [Bool.eq_false_iff]
    intro h2
    obtain ⟨y, hy, e2⟩ := hasL_iff.1 h2
    obtain ⟨x, hx, rfl⟩ := List.mem_map.1 (h.mem_iff.2 hy)
    exact L.none e x hx e2
  | some g =>
    obtain ⟨t, ht⟩ := (L.look who g).1 e
    exact hasL_iff.2 ⟨_, h.mem_iff.1 (List.mem_map_of_mem ht), rfl⟩

set_option maxHeartbeats 2000000 in
theorem stop19 (S : St19 N B bb l w) (h1 : One1 l) (who : Int) (hw : B64 who) :
    Calls Try.prog 10 #[.pointer (some ⟨bb, 0, none⟩), .int .i64 who] w fun e w' => e = .returned (.bool (hasL l who)) ∧ St19 N B bb (stopL l who) w' ∧ Fr N B w w' := by
  rcases S.lies with ⟨rfl, rb⟩ | ⟨gm, hm, xs, ms, F, P⟩
  · have c1 := rb.cell (i := 1) rfl
    have hlk := look_nil who w
    have E : Hid (St19 N B bb (stopL [] who) w) := S
    have e0 : hasL [] who = false := rfl
    rw [e0]
    clear rb S
    go_enter Try.func10, Try.ntmps10
    go_wp2_with fail
    go_ret
    exact ⟨rfl, E.out, Fr.refl N B w⟩
  · obtain ⟨v, rb, -, -⟩ := F.hp.arr
    have c1 := rb.cell (i := 1) rfl
    have hlk := F.mp.look (t := 47) (e := 51) Try.underlying47 (by kernel_rfl) hw
    have hh := hasL_perm F.link P who
    rw [hh]
    cases hl : lookP ms who with
    | none =>
      rw [hl] at hlk hh
      have E : Hid (St19 N B bb (stopL l who) w) := by
        rw [stopL_none hh]
        exact S
      clear rb S F P hh h1
      simp only [Option.map_none, Option.isSome_none] at hlk ⊢
      go_enter Try.func10, Try.ntmps10
      go_wp2_with fail
      go_ret
      exact ⟨rfl, E.out, Fr.refl N B w⟩
    | some g =>
      rw [hl] at hlk hh
      obtain ⟨t, ht⟩ := (F.link.look who g).1 hl
      obtain ⟨i, hi, e⟩ := List.mem_iff_getElem.1 ht
      have r := F.hp.each i xs[i] (List.getElem?_eq_getElem hi)
      rw [e] at r
      have c2 := r.cell (i := 2) rfl
      have ed : xs.getD i default = (g, (who, t)) := by rw [← e]; simp [List.getD, hi]
      obtain ⟨n, hn⟩ : ∃ n, xs.length = n + 1 := ⟨xs.length - 1, by omega⟩
      have C := out19 F hn (show i ≤ n by omega)
      rw [ed] at C
      have C := hide C
      have K := hide (fun (zs : List El) (k : (zs ++ [(g, (who, t))]).Perm xs) => stop_perm P k h1)
      have SN := hide (fun (w' : World) (f : Fr N B w w') => Nat.le_trans S.new f.size)
      have SI := hide S.its
      clear rb S F P hh h1 r e ed ht hl hn hi
      simp only [Option.map_some, Option.isSome_some] at hlk ⊢
      go_enter Try.func10, Try.ntmps10
      go_wp2_with fail
      refine C.out.mono ?_
      rintro e w1 ⟨rfl, hm', zs, ms', F', k, -, fr⟩
      have E : Hid (St19 N B bb (stopL l who) w1 ∧ Fr N B w w1) := ⟨⟨SN.out w1 fr, SI.out, .inr ⟨gm, hm', zs, ms', F', K.out zs k⟩⟩, fr⟩
      clear C K SN SI F' k fr hlk
      go_wp2
      go_ret
      exact ⟨rfl, E.out⟩
end
end Go.Proofs.Ytnmigdcedcmbkaa
