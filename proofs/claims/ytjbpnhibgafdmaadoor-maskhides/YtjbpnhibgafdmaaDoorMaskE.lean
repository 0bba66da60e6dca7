/-
  The landed mask, last part: Hide and Left.
-/
import Derived.Test.YtjbpnhibgafdmaaDoorMaskD
namespace Go.Proofs.YtjbpnhibgafdmaaDoor
open Go.RowKit Cha M Vec Sl Mk
set_option linter.unusedVariables false

set_option maxRecDepth 100000 in
set_option maxHeartbeats 4000000 in
theorem maskLeft_arg (who : Int) (s : Nat) (l : List Crd) (a : Option Addr) (m cap : Nat) (hl : l.length = m) (hm : m ≤ 9223372036854775807) (n : Int) (w : World) (rd : CrdIn w a l) (hB : argB who n l = false) :
    Calls Tryd.prog 18 #[.int .i64 who, .int .u64 s, .slice a m cap, .int .i64 n] w fun e w' => e = .returned (.tuple #[.slice none 0 0, .int .i64 1]) ∧ Old w w' := by
  have C1 := hide (maskDonor_any who)
  have C2 := hide (fun (w' : World) (o : Old w w') => maskRise_any l a m cap hl hm w' (rd.mono o))
  unfold argB at hB
  clear hl hm rd
  cases h1 : (decide (1 ≤ who) && decide (who ≤ 64))
  · rw [h1] at C1
    clear h1 hB C2
    go_enter Tryd.func18, Tryd.ntmps18
    go_wp2_with fail
    refine (C1.out _).mono ?_
    rintro e w1 ⟨rfl, rfl⟩
    go_wp2_with fail
    go_ret2
    exact ⟨rfl, Old.refl _⟩
  · rw [h1] at C1 hB
    rw [Bool.true_and] at hB
    by_cases h2 : n < 0
    · have t2 : decide (n < 0) = true := decide_eq_true h2
      clear h1 hB C2 h2
      go_enter Tryd.func18, Tryd.ntmps18
      go_wp2_with fail
      refine (C1.out _).mono ?_
      rintro e w1 ⟨rfl, rfl⟩
      go_wp2_with fail
      go_ret2
      exact ⟨rfl, Old.refl _⟩
    · have t2 : decide (n < 0) = false := decide_eq_false h2
      by_cases h3 : 256 < n
      · have t3 : decide (256 < n) = true := decide_eq_true h3
        clear h1 hB C2 h2 h3
        go_enter Tryd.func18, Tryd.ntmps18
        go_wp2_with fail
        refine (C1.out _).mono ?_
        rintro e w1 ⟨rfl, rfl⟩
        go_wp2_with fail
        go_ret2
        exact ⟨rfl, Old.refl _⟩
      · have t3 : decide (256 < n) = false := decide_eq_false h3
        rw [decide_eq_true (p := 0 ≤ n) (by omega), decide_eq_true (p := n ≤ 256) (by omega), Bool.true_and, Bool.true_and] at hB
        rw [hB] at C2
        clear h1 hB h2 h3
        go_enter Tryd.func18, Tryd.ntmps18
        go_wp2_with fail
        refine (C1.out _).mono ?_
        rintro e w1 ⟨rfl, rfl⟩
        go_wp2_with fail
        refine (C2.out _ (Old.refl _)).mono ?_
        rintro e w1 ⟨rfl, o1⟩
        go_wp2_with fail
        go_ret2
        exact ⟨rfl, o1⟩

set_option maxRecDepth 100000 in
set_option maxHeartbeats 4000000 in
theorem maskLeft_run (who : Int) (s : Nat) (l : List Crd) (a : Option Addr) (m cap n : Nat) (hl : l.length = m) (hm : m ≤ 9223372036854775807) (hk : CrdOk l) (w : World) (rd : CrdIn w a l) (q : QTab w) (hB : argB who n l = true) :
    Calls Tryd.prog 18 #[.int .i64 who, .int .u64 s, .slice a m cap, .int .i64 n] w (MR w (mskE who s l) n (mskL who s n true l)) := by
  have C1 := hide (maskDonor_any who)
  have C2 := hide (fun (w' : World) (o : Old w w') => maskRise_any l a m cap hl hm w' (rd.mono o))
  obtain ⟨⟨⟨h1, h2⟩, h3, h4⟩, hr⟩ : ((1 ≤ who ∧ who ≤ 64) ∧ 0 ≤ (n : Int) ∧ (n : Int) ≤ 256) ∧ riseB l = true := by
    unfold argB at hB
    simpa [Bool.and_eq_true, decide_eq_true_eq] using hB
  rw [decide_eq_true h1, decide_eq_true h2, Bool.and_self] at C1
  rw [hr] at C2
  have t2 : decide ((n : Int) < 0) = false := decide_eq_false (by omega)
  have t3 : decide ((256 : Int) < (n : Int)) = false := decide_eq_false (by omega)
  have hmk := make_u32 n (by omega)
  have n0 : (0 : Int) ≤ (n : Int) := h3
  have n1 : n ≤ 256 := by omega
  go_enter Tryd.func18, Tryd.ntmps18
  go_wp2_with fail
  refine (C1.out _).mono ?_
  rintro e w1 ⟨rfl, rfl⟩
  go_wp2_with fail
  refine (C2.out _ (Old.refl _)).mono ?_
  rintro e w2 ⟨rfl, o1⟩
  go_wp2_with fail
  have V0 : Hid (Cov w1 (w2.heap.size + 1) n (List.replicate n 0) ((w2.alloc (.cells (nums .u32 (List.replicate n 0)).toArray 41)).alloc (.cells #[.slice (some ⟨w2.heap.size, 0, none⟩) n n] 59))) := by
    refine ⟨(o1.alloc _).alloc _, by have := o1.size; omega, w2.heap.size, o1.size, ?_, (Row.new _ _ _).mono (Old.of_alloc _ _)⟩
    have := Row.new (w2.alloc (.cells (nums .u32 (List.replicate n 0)).toArray 41)) 59 [.slice (some ⟨w2.heap.size, 0, none⟩) n n]
    rw [size_alloc] at this
    exact this
  have E := hide (eachPair_take (w0 := w1) (c := w2.heap.size + 1) who s l a m cap n true hl hm hk n1 rd q sub32 add32 (fun x hx => by unfold sgn; rw [decide_eq_true hx]; rfl) (fun x hx => by unfold sgn; rw [decide_eq_false hx]; rfl)
    (fun xs ys b cb w' hx hy hb C r => coverTake_any xs ys b cb w' (by omega) hx hy hb C r) (fun xs ys b cb w' hx hy hb C r => coverAdd_any xs ys b cb w' (by omega) hx hy C r) (List.replicate n 0) (by simp) _ V0.out)
  rw [show mskO who s n true (List.replicate n 0) l = mskL who s n true l from rfl] at E
  refine E.out.mono ?_
  clear E V0 hmk C1 C2
  generalize mskE who s l = er at *
  generalize mskL who s n true l = ms at *
  generalize w2.heap.size + 1 = c at *
  rintro e w3 ⟨rfl, hc, o3⟩
  by_cases h0 : er = 0
  · subst h0
    obtain ⟨g, g0, R1, R2⟩ := (hc rfl).box
    have c0 := R1.cell (i := 0) rfl
    have H := hide R2
    clear hc R1 R2
    rw [show ((0 : Nat) : Int) = 0 from rfl]
    go_wp2_with fail
    go_ret2
    exact ⟨fun h => absurd rfl h, fun _ => ⟨g, g0, rfl, H.out⟩, o3⟩
  · have t1 : ((er : Int) != 0) = true := by rw [bne_iff_ne]; omega
    have H := hide h0
    clear h0 hc
    go_wp2_with fail
    go_ret2
    exact ⟨fun _ => rfl, fun h => absurd h H.out, o3⟩

set_option maxRecDepth 100000 in
set_option maxHeartbeats 4000000 in
theorem maskHide_arg (xs : List Nat) (ax : Option Addr) (n cx : Nat) (hx : xs.length = n) (hn : n ≤ 35184372088832) (who : Int) (sd : List Nat) (s : Nat) (l : List Crd) (a : Option Addr) (m cap : Nat) (hl : l.length = m) (hm : m ≤ 9223372036854775807) (w : World) (rd : CrdIn w a l) (hB : argB who n l = false) :
    Calls Tryd.prog 16 #[.slice ax n cx, .int .i64 who, .agg (nums .u8 sd).toArray, .int .u64 s, .slice a m cap] w fun e w' => e = .returned (.tuple #[.slice none 0 0, .int .i64 1]) ∧ Old w w' := by
  have C1 := hide (maskDonor_any who)
  have C2 := hide (fun (w' : World) (o : Old w w') => maskRise_any l a m cap hl hm w' (rd.mono o))
  have O0 := hide (Old.of_alloc w (.cells (nums .u8 sd).toArray 32))
  unfold argB at hB
  clear hl hm rd
  cases h1 : (decide (1 ≤ who) && decide (who ≤ 64))
  · rw [h1] at C1
    clear h1 hB C2
    go_enter Tryd.func16, Tryd.ntmps16
    go_wp2_with fail
    refine (C1.out _).mono ?_
    rintro e w1 ⟨rfl, rfl⟩
    go_wp2_with fail
    go_ret2
    exact ⟨rfl, O0.out⟩
  · rw [h1] at C1 hB
    rw [Bool.true_and] at hB
    by_cases h3 : 256 < n
    · have t3 : decide ((256 : Int) < (n : Int)) = true := decide_eq_true (by omega)
      clear h1 hB C2 h3
      go_enter Tryd.func16, Tryd.ntmps16
      go_wp2_with fail
      refine (C1.out _).mono ?_
      rintro e w1 ⟨rfl, rfl⟩
      go_wp2_with fail
      go_ret2
      exact ⟨rfl, O0.out⟩
    · have t3 : decide ((256 : Int) < (n : Int)) = false := decide_eq_false (by omega)
      rw [decide_eq_true (p := 0 ≤ (n : Int)) (by omega), decide_eq_true (p := (n : Int) ≤ 256) (by omega), Bool.true_and, Bool.true_and] at hB
      rw [hB] at C2
      clear h1 hB h3
      go_enter Tryd.func16, Tryd.ntmps16
      go_wp2_with fail
      refine (C1.out _).mono ?_
      rintro e w1 ⟨rfl, rfl⟩
      go_wp2_with fail
      refine (C2.out _ O0.out).mono ?_
      rintro e w1 ⟨rfl, o1⟩
      go_wp2_with fail
      go_ret2
      exact ⟨rfl, O0.out.trans o1⟩

set_option maxRecDepth 100000 in
set_option maxHeartbeats 4000000 in
theorem maskHide_run (xs : List Nat) (ax : Option Addr) (n cx : Nat) (hx : xs.length = n) (hn : n ≤ 35184372088832) (hxb : ∀ x ∈ xs, x < 4294967296) (who : Int) (sd : List Nat) (hsd : sd.length = 32) (hsb : ∀ x ∈ sd, x < 256) (s : Nat) (l : List Crd) (a : Option Addr) (m cap : Nat) (hl : l.length = m) (hm : m ≤ 9223372036854775807) (hk : CrdOk l) (w : World) (rx : Rd w ax (nums .u32 xs)) (rd : CrdIn w a l) (q : QTab w) (hB : argB who n l = true) :
    Calls Tryd.prog 16 #[.slice ax n cx, .int .i64 who, .agg (nums .u8 sd).toArray, .int .u64 s, .slice a m cap] w (MR w (mskE who s l) n (hidV xs (ownV sd n) (mskL who s n false l))) := by
  have C1 := hide (maskDonor_any who)
  have C2 := hide (fun (w' : World) (o : Old w w') => maskRise_any l a m cap hl hm w' (rd.mono o))
  obtain ⟨⟨⟨h1, h2⟩, h3, h4⟩, hr⟩ : ((1 ≤ who ∧ who ≤ 64) ∧ 0 ≤ (n : Int) ∧ (n : Int) ≤ 256) ∧ riseB l = true := by
    unfold argB at hB
    simpa [Bool.and_eq_true, decide_eq_true_eq] using hB
  rw [decide_eq_true h1, decide_eq_true h2, Bool.and_self] at C1
  rw [hr] at C2
  have t3 : decide ((256 : Int) < (n : Int)) = false := decide_eq_false (by omega)
  have n1 : n ≤ 256 := by omega
  have kn : kept (n : Int) 256 = n := by unfold kept; omega
  have C3 := hide (fun (w' : World) (q : QTab w') => maskOwn_any sd hsd hsb n w' q)
  rw [kn] at C3
  have HI : Hid ((Tryd.prog.info? 32).map (·.size) = some (nums .u8 sd).length) := info_k hsd
  have O0 := hide (Old.of_alloc w (.cells (nums .u8 sd).toArray 32))
  have R0 : Hid (Row (w.alloc (.cells (nums .u8 sd).toArray 32)) w.heap.size 32 (nums .u8 sd)) := Row.new w _ _
  go_enter Tryd.func16, Tryd.ntmps16
  go_wp2_with fail
  refine (C1.out _).mono ?_
  rintro e w1 ⟨rfl, rfl⟩
  go_wp2_with fail
  refine (C2.out _ O0.out).mono ?_
  rintro e w2 ⟨rfl, o1⟩
  have R1 := hide (R0.out.mono o1)
  go_wp2_with (refine wp_load_whole rfl 32 _ rfl w.heap.size rfl R1.out Tryd.underlying32 rfl HI.out ?_)
  refine (C3.out _ (q.mono (O0.out.trans o1))).mono ?_
  rintro e w3 ⟨g, g0, rfl, r3, o3⟩
  have O3 := hide ((O0.out.trans o1).trans o3)
  have X3 := rx.mono O3.out
  have V0 : Hid (Cov w w3.heap.size n (ownV sd n) (w3.alloc (.cells #[.slice (some ⟨g, 0, none⟩) n n] 59))) := by
    refine ⟨O3.out.alloc _, O3.out.size, g, Nat.le_trans (O0.out.trans o1).size g0, Row.new _ _ _, r3.mono (Old.of_alloc _ _)⟩
  have A := hide (coverAdd_any (c := w3.heap.size) (ownV sd n) xs ax cx _ (by omega) (ownV_length sd n) hx V0.out (X3.mono (Old.of_alloc _ _)))
  have E := hide (fun (w' : World) (V : Cov w w3.heap.size n (List.zipWith add32 (ownV sd n) xs) w') => eachPair_add (w0 := w) (c := w3.heap.size) who s l a m cap n false hl hm hk n1 rd q add32 sub32 (fun x hx => by unfold sgn; rw [decide_eq_true hx]; rfl) (fun x hx => by unfold sgn; rw [decide_eq_false hx]; rfl)
    (fun xs ys b cb w' hx hy hb C r => coverAdd_any xs ys b cb w' (by omega) hx hy C r) (fun xs ys b cb w' hx hy hb C r => coverTake_any xs ys b cb w' (by omega) hx hy hb C r) (List.zipWith add32 (ownV sd n) xs) (by rw [List.length_zipWith, ownV_length, hx, Nat.min_self]) w' V)
  have EO : Hid (mskO who s n false (List.zipWith add32 (ownV sd n) xs) l = hidV xs (ownV sd n) (mskL who s n false l)) := by
    show _ = _
    rw [mskO_of _ _ _ _ _ _ (by rw [List.length_zipWith, ownV_length, hx, Nat.min_self]) (zip_lt add32 add32_lt _ _), add_comm32 (ownV sd n) xs]
    rfl
  rw [EO.out] at E
  clear C1 C2 C3 HI R0 R1 V0 X3 EO
  generalize hidV xs (ownV sd n) (mskL who s n false l) = ms at *
  generalize mskE who s l = er at *
  clear O0 rx rd q hx hxb hsb hl hk hB o1 o3 r3 g0 O3
  go_wp2_with fail
  refine A.out.mono ?_
  clear A
  generalize w3.heap.size = c at *
  rintro e w4 ⟨rfl, V4⟩
  have E4 := hide (E.out _ V4)
  clear E V4
  go_wp2_with fail
  refine E4.out.mono ?_
  clear E4
  rintro e w5 ⟨rfl, hc, o5⟩
  by_cases h0 : er = 0
  · subst h0
    obtain ⟨g, g0, R1, R2⟩ := (hc rfl).box
    have c0 := R1.cell (i := 0) rfl
    have H := hide R2
    clear hc R1 R2
    rw [show ((0 : Nat) : Int) = 0 from rfl]
    go_wp2_with fail
    go_ret2
    exact ⟨fun h => absurd rfl h, fun _ => ⟨g, g0, rfl, H.out⟩, o5⟩
  · have t1 : ((er : Int) != 0) = true := by rw [bne_iff_ne]; omega
    have H := hide h0
    clear h0 hc
    go_wp2_with fail
    go_ret2
    exact ⟨fun _ => rfl, fun h => absurd h H.out, o5⟩

theorem maskK : MaskK := by
  refine ⟨fun s hl hb n w q => maskOwn_any s hl hb n w q, fun s p _ hp n w q => maskPair_any s p hp n w q, ?_, ?_⟩
  · intro xs ax n cx hx hn hxb who sd hsd hsb s hs l a m cap hl hm hk w rx rd q
    cases hB : argB who n l
    · have e : masksE who s n l = 1 := by unfold masksE; rw [hB]; rfl
      rw [e]
      exact (maskHide_arg xs ax n cx hx hn who sd s l a m cap hl hm w rd hB).mono fun _ _ ⟨h1, h2⟩ => ⟨fun _ => h1, fun h => absurd h (by decide), h2⟩
    · have e : masksE who s n l = mskE who s l := by unfold masksE; rw [hB]; rfl
      rw [e]
      exact maskHide_run xs ax n cx hx hn hxb who sd hsd hsb s l a m cap hl hm hk w rx rd q hB
  · intro who s hs l a m cap hl hm hk n w rd q
    cases hB : argB who n l
    · have e : masksE who s n l = 1 := by unfold masksE; rw [hB]; rfl
      rw [e]
      exact (maskLeft_arg who s l a m cap hl hm n w rd hB).mono fun _ _ ⟨h1, h2⟩ => ⟨fun _ => h1, fun h => absurd h (by decide), h2⟩
    · have e : masksE who s n l = mskE who s l := by unfold masksE; rw [hB]; rfl
      have hn := argB_n hB
      obtain ⟨k, rfl⟩ : ∃ k : Nat, n = k := ⟨n.toNat, by omega⟩
      rw [e]
      exact maskLeft_run who s l a m cap k hl hm hk w rd q hB
end Go.Proofs.YtjbpnhibgafdmaaDoor
