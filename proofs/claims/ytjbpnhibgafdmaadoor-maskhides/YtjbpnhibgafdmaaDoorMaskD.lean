/-
  The landed mask, third part: the masks of two laid over a vector one by one (eachPair).
-/
import Derived.Test.YtjbpnhibgafdmaaDoorMaskB
namespace Go.Proofs.YtjbpnhibgafdmaaDoor
open Go.RowKit Cha M Vec Sl Mk
set_option linter.unusedVariables false

namespace Mk
/-- Masks laid over acc. -/
def mskO (who : Int) (s n : Nat) (turned : Bool) (acc : List Nat) (l : List Crd) : List Nat := l.foldl (mskS who s n turned) acc
theorem mskO_length {who : Int} {s n : Nat} {turned : Bool} {acc : List Nat} {l : List Crd} (h : acc.length = n) : (mskO who s n turned acc l).length = n := foldl_length _ _ _ _ _ _ h
theorem mskO_next (who : Int) (s n : Nat) (turned : Bool) (acc : List Nat) {l : List Crd} {k : Nat} {c : Crd} (h : l[k]? = some c) : mskO who s n turned acc (l.take (k + 1)) = mskS who s n turned (mskO who s n turned acc (l.take k)) c := by
  unfold mskO
  rw [List.take_add_one, h, List.foldl_append]
  rfl
theorem zip_over (f : Nat → Nat → Nat) (h : ∀ a m p, p < 4294967296 → f (add32 a m) p = add32 a (f m p)) : ∀ (bs ms ps : List Nat), (∀ p ∈ ps, p < 4294967296) → List.zipWith f (List.zipWith add32 bs ms) ps = List.zipWith add32 bs (List.zipWith f ms ps)
  | [], _, _, _ => by simp
  | _ :: _, [], _, _ => by simp
  | _ :: _, _ :: _, [], _ => by simp
  | a :: bs, m :: ms, p :: ps, hp => by
    simp only [List.zipWith_cons_cons]
    rw [h a m p (hp p (by simp)), zip_over f h bs ms ps (fun q hq => hp q (by simp [hq]))]
theorem sgn_over (who x : Int) (turned : Bool) (a m p : Nat) (hp : p < 4294967296) : sgn who x turned (add32 a m) p = add32 a (sgn who x turned m p) := by
  unfold sgn
  split
  · unfold add32; omega
  · unfold add32 sub32; omega
theorem mskS_over (who : Int) (s n : Nat) (turned : Bool) (bs ms : List Nat) (c : Crd) : mskS who s n turned (List.zipWith add32 bs ms) c = List.zipWith add32 bs (mskS who s n turned ms c) := by
  unfold mskS
  split
  · rfl
  · exact zip_over _ (sgn_over who c.who turned) _ _ _ (pairV_lt _ _)
theorem mskO_over (who : Int) (s n : Nat) (turned : Bool) (bs : List Nat) : ∀ (l : List Crd) (ms : List Nat), mskO who s n turned (List.zipWith add32 bs ms) l = List.zipWith add32 bs (mskO who s n turned ms l)
  | [], _ => rfl
  | c :: r, ms => by
    show mskO who s n turned (mskS who s n turned (List.zipWith add32 bs ms) c) r = List.zipWith add32 bs (mskO who s n turned (mskS who s n turned ms c) r)
    rw [mskS_over, mskO_over who s n turned bs r]
theorem add_zeros : ∀ (bs : List Nat), (∀ x ∈ bs, x < 4294967296) → List.zipWith add32 bs (List.replicate bs.length 0) = bs
  | [], _ => rfl
  | a :: bs, h => by
    rw [List.length_cons, List.replicate_succ, List.zipWith_cons_cons, add_zeros bs (fun x hx => h x (by simp [hx]))]
    rw [show add32 a 0 = a by unfold add32; have := h a (by simp); omega]
/-- Laid over one's vector they are that of nothing, added. -/
theorem mskO_of (who : Int) (s n : Nat) (turned : Bool) (bs : List Nat) (l : List Crd) (hl : bs.length = n) (h : ∀ x ∈ bs, x < 4294967296) : mskO who s n turned bs l = List.zipWith add32 bs (mskL who s n turned l) := by
  conv => lhs; rw [← add_zeros bs h, hl]
  rw [mskO_over]
  rfl
theorem add_comm32 (xs ys : List Nat) : List.zipWith add32 xs ys = List.zipWith add32 ys xs := by
  rw [List.zipWith_comm]
  congr 1
  funext x y
  unfold add32
  rw [Nat.add_comm]
end Mk

set_option maxRecDepth 100000 in
set_option maxHeartbeats 8000000 in
theorem eachPair_add {w0 : World} {c : Nat} (who : Int) (s : Nat) (l : List Crd) (a : Option Addr) (m cap n : Nat) (turned : Bool) (hl : l.length = m) (hm : m ≤ 9223372036854775807) (hk : CrdOk l) (hn : n ≤ 256) (rd : CrdIn w0 a l) (q : QTab w0)
    (up down : Nat → Nat → Nat) (hu : ∀ x, who < x → sgn who x turned = up) (hd : ∀ x, ¬ who < x → sgn who x turned = down)
    (KA : ∀ (xs ys : List Nat) (b : Option Addr) (cb : Nat) (w : World), xs.length = n → ys.length = n → (∀ y ∈ ys, y < 4294967296) → Cov w0 c n xs w → Rd w b (nums .u32 ys) → Calls Tryd.prog 29 #[.pointer (some ⟨c, 0, none⟩), .slice b n cb] w fun e w' => e = .returned (.tuple #[]) ∧ Cov w0 c n (List.zipWith up xs ys) w')
    (KB : ∀ (xs ys : List Nat) (b : Option Addr) (cb : Nat) (w : World), xs.length = n → ys.length = n → (∀ y ∈ ys, y < 4294967296) → Cov w0 c n xs w → Rd w b (nums .u32 ys) → Calls Tryd.prog 31 #[.pointer (some ⟨c, 0, none⟩), .slice b n cb] w fun e w' => e = .returned (.tuple #[]) ∧ Cov w0 c n (List.zipWith down xs ys) w')
    (acc : List Nat) (ha : acc.length = n) (w : World) (C : Cov w0 c n acc w) :
    Calls Tryd.prog 30 #[.int .i64 who, .int .u64 s, .slice a m cap, .int .i64 n, .func (.func 29) #[.pointer (some ⟨c, 0, none⟩)] #[], .func (.func 31) #[.pointer (some ⟨c, 0, none⟩)] #[]] w fun e w' =>
      e = .returned (.int .i64 (mskE who s l : Nat)) ∧ (mskE who s l = 0 → Cov w0 c n (mskO who s n turned acc l) w') ∧ Old w0 w' := by
  have RD := hide rd
  have HL := hide hl
  have HK := hide hk
  have HM := hide hm
  have HQ := hide q
  have HU := hide hu
  have HD := hide hd
  have HA := hide KA
  have HB := hide KB
  have LA := hide ha
  have X0 : Hid (Cov w0 c n (mskO who s n turned acc (l.take 0)) w ∧ mskE who s (l.take 0) = 0) := ⟨C, rfl⟩
  have kn : Hid (kept (n : Int) 256 = n) := by show _ = _; unfold kept; omega
  clear hl hm rd hk q hu hd KA KB ha C hn
  go_enter Tryd.func30, Tryd.ntmps30
  go_wp2_with fail
  go_loopw [19] (fun vi wr => ∃ i : Nat, i ≤ m ∧ vi = .int .i64 (i : Int) ∧ Hid (Cov w0 c n (mskO who s n turned acc (l.take i)) wr ∧ mskE who s (l.take i) = 0)) (fun vi _ => m - (intOf vi).toNat)
  case atStart => exact ⟨0, Nat.zero_le _, rfl, X0⟩
  case round =>
    clear X0
    obtain ⟨i, hi, rfl, R⟩ := hrel
    by_cases him : i = m
    · subst him
      have TA : l.take i = l := List.take_of_length_le (by rw [HL.out]; exact Nat.le_refl _)
      rw [TA] at R
      have ti : decide ((i : Int) < (i : Int)) = false := by simp
      clear TA
      go_wp2
      go_ret
      rw [R.out.2]
      exact ⟨rfl, fun _ => R.out.1, R.out.1.old⟩
    · have hlt : i < m := by omega
      have hil : i < l.length := by rw [HL.out]; exact hlt
      have ti : decide ((i : Int) < (m : Int)) = true := by simp; omega
      have q0 : (0 : Int) ≤ i := by omega
      have q1 : (i : Int) < m := by omega
      have iw : wrap64 ((i : Int) + 1) = ((i + 1 : Nat) : Int) := by have := HM.out; unfold wrap64; omega
      obtain ⟨b, off, rfl, cx0, cy0, ck0⟩ := RD.out i l[i] (by simp [hil])
      have cx := R.out.1.old.cell cx0
      have cy := R.out.1.old.cell cy0
      have ck := R.out.1.old.cell ck0
      have kb := (HK.out l[i] (by simp)).2.2.2
      have NL := hide (mskO_next who s n turned acc (l := l) (k := i) (c := l[i]) (by simp [hil]))
      have NE := hide (mskE_next who s (l := l) (k := i) (c := l[i]) (by simp [hil]) R.out.2)
      have W1 := hide (Old.of_alloc wr (.cells #[.int .i64 l[i].who, .int .u64 (l[i].lock : Nat), .int .u64 (l[i].key : Nat)] 49))
      generalize l[i] = cc at *
      obtain ⟨x, y, k⟩ := cc
      dsimp only at *
      by_cases hw : x = who
      · have tw : (x == who) = true := by rw [beq_iff_eq]; exact hw
        have R2 : Hid (Cov w0 c n (mskO who s n turned acc (l.take (i + 1))) (wr.alloc (.cells #[.int .i64 x, .int .u64 (y : Nat), .int .u64 (k : Nat)] 49)) ∧ mskE who s (l.take (i + 1)) = 0) := by
          refine ⟨?_, ?_⟩
          · rw [NL.out, mskS, if_pos hw]; exact R.out.1.mono W1.out
          · rw [NE.out, if_pos hw]
        clear hw NL NE R ck0 cx0 cy0 W1
        go_wp2_with fail
        try rw [iw]
        go_roundw
        case rel => exact ⟨i + 1, by omega, by simp, R2⟩
        case measure => simp [intOf]; omega
      · have tw : (x == who) = false := by rw [beq_eq_false_iff_ne]; exact hw
        have NS : Hid (mskO who s n turned acc (l.take (i + 1)) = List.zipWith (sgn who x turned) (mskO who s n turned acc (l.take i)) (pairV (powP k s) n)) := by
          show _ = _
          rw [NL.out, mskS, if_neg hw]
        rw [if_neg hw] at NE
        have CP := hide (fun (w' : World) (q : QTab w') => maskPair_any s k kb n w' q)
        rw [kn.out] at CP
        have ML : Hid ((mskO who s n turned acc (l.take i)).length = n) := mskO_length LA.out
        have PL := hide (pairV_length (powP k s) n)
        have PB := hide (pairV_lt (powP k s) n)
        by_cases hE : agE s k = 0
        · have CQ : Hid (∀ w', QTab w' → Calls Tryd.prog 8 #[.int .u64 s, .int .u64 (k : Nat), .int .i64 n] w' fun e w'' => ∃ g, w'.heap.size ≤ g ∧ e = .returned (.tuple #[.slice (some ⟨g, 0, none⟩) n n, .int .i64 0]) ∧ Row w'' g 41 (nums .u32 (pairV (powP k s) n)) ∧ Old w' w'') := fun w' q => MR.yes (CP.out w' q) hE
          rw [hE] at NE
          generalize pairV (powP k s) n = ps at *
          generalize mskO who s n turned acc (l.take i) = ms at *
          clear hE NL kb ck0 cx0 cy0 CP hw
          go_wp2_with fail
          refine (CQ.out _ (HQ.out.mono (R.out.1.old.trans W1.out))).mono ?_
          rintro e w3 ⟨gm, gm0, rfl, gm1, o3⟩
          have C3 := hide (R.out.1.mono (W1.out.trans o3))
          have r3 := hide gm1.rd
          have c30 := (Row.mono (Row.new wr 49 [.int .i64 x, .int .u64 (y : Nat), .int .u64 (k : Nat)]) o3).cell (i := 0) rfl
          by_cases hx : who < x
          · have tx : decide (who < x) = true := decide_eq_true hx
            rw [HU.out x hx] at NS
            have C4 := HA.out ms ps (some ⟨gm, 0, none⟩) n w3 ML.out PL.out PB.out C3.out r3.out
            clear hx C3
            go_wp2_with fail
            refine C4.mono ?_
            rintro e w4 ⟨rfl, c4⟩
            have R2 : Hid (Cov w0 c n (mskO who s n turned acc (l.take (i + 1))) w4 ∧ mskE who s (l.take (i + 1)) = 0) := by
              refine ⟨?_, NE.out⟩
              rw [NS.out]
              exact c4
            clear R NS NE c4 C4
            go_wp2
            try rw [iw]
            go_roundw
            case rel => exact ⟨i + 1, by omega, by simp, R2⟩
            case measure => simp [intOf]; omega
          · have tx : decide (who < x) = false := decide_eq_false hx
            rw [HD.out x (by omega)] at NS
            have C4 := HB.out ms ps (some ⟨gm, 0, none⟩) n w3 ML.out PL.out PB.out C3.out r3.out
            clear hx C3
            go_wp2_with fail
            refine C4.mono ?_
            rintro e w4 ⟨rfl, c4⟩
            have R2 : Hid (Cov w0 c n (mskO who s n turned acc (l.take (i + 1))) w4 ∧ mskE who s (l.take (i + 1)) = 0) := by
              refine ⟨?_, NE.out⟩
              rw [NS.out]
              exact c4
            clear R NS NE c4 C4
            go_wp2
            try rw [iw]
            go_roundw
            case rel => exact ⟨i + 1, by omega, by simp, R2⟩
            case measure => simp [intOf]; omega
        · have tE : ((agE s k : Int) != 0) = true := by rw [bne_iff_ne]; omega
          have ST : Hid (mskE who s l = agE s k) := by
            show _ = _
            rw [mskE_stop who s (l := l) (k := i + 1) (by rw [NE.out]; exact hE), NE.out]
          have CQ : Hid (∀ w', QTab w' → Calls Tryd.prog 8 #[.int .u64 s, .int .u64 (k : Nat), .int .i64 n] w' fun e w'' => e = .returned (.tuple #[.slice none 0 0, .int .i64 (agE s k : Nat)]) ∧ Old w' w'') := fun w' q => MR.no (CP.out w' q) hE
          have HE := hide hE
          clear hE hw NL NE kb ck0 cx0 cy0 CP NS ML PL PB
          generalize agE s k = E at *
          go_wp2_with fail
          refine (CQ.out _ (HQ.out.mono (R.out.1.old.trans W1.out))).mono ?_
          rintro e w2 ⟨rfl, o2⟩
          go_wp2_with fail
          go_ret
          rw [ST.out]
          exact ⟨rfl, fun h => absurd h HE.out, R.out.1.old.trans (W1.out.trans o2)⟩
set_option maxRecDepth 100000 in
set_option maxHeartbeats 8000000 in
theorem eachPair_take {w0 : World} {c : Nat} (who : Int) (s : Nat) (l : List Crd) (a : Option Addr) (m cap n : Nat) (turned : Bool) (hl : l.length = m) (hm : m ≤ 9223372036854775807) (hk : CrdOk l) (hn : n ≤ 256) (rd : CrdIn w0 a l) (q : QTab w0)
    (up down : Nat → Nat → Nat) (hu : ∀ x, who < x → sgn who x turned = up) (hd : ∀ x, ¬ who < x → sgn who x turned = down)
    (KA : ∀ (xs ys : List Nat) (b : Option Addr) (cb : Nat) (w : World), xs.length = n → ys.length = n → (∀ y ∈ ys, y < 4294967296) → Cov w0 c n xs w → Rd w b (nums .u32 ys) → Calls Tryd.prog 31 #[.pointer (some ⟨c, 0, none⟩), .slice b n cb] w fun e w' => e = .returned (.tuple #[]) ∧ Cov w0 c n (List.zipWith up xs ys) w')
    (KB : ∀ (xs ys : List Nat) (b : Option Addr) (cb : Nat) (w : World), xs.length = n → ys.length = n → (∀ y ∈ ys, y < 4294967296) → Cov w0 c n xs w → Rd w b (nums .u32 ys) → Calls Tryd.prog 29 #[.pointer (some ⟨c, 0, none⟩), .slice b n cb] w fun e w' => e = .returned (.tuple #[]) ∧ Cov w0 c n (List.zipWith down xs ys) w')
    (acc : List Nat) (ha : acc.length = n) (w : World) (C : Cov w0 c n acc w) :
    Calls Tryd.prog 30 #[.int .i64 who, .int .u64 s, .slice a m cap, .int .i64 n, .func (.func 31) #[.pointer (some ⟨c, 0, none⟩)] #[], .func (.func 29) #[.pointer (some ⟨c, 0, none⟩)] #[]] w fun e w' =>
      e = .returned (.int .i64 (mskE who s l : Nat)) ∧ (mskE who s l = 0 → Cov w0 c n (mskO who s n turned acc l) w') ∧ Old w0 w' := by
  have RD := hide rd
  have HL := hide hl
  have HK := hide hk
  have HM := hide hm
  have HQ := hide q
  have HU := hide hu
  have HD := hide hd
  have HA := hide KA
  have HB := hide KB
  have LA := hide ha
  have X0 : Hid (Cov w0 c n (mskO who s n turned acc (l.take 0)) w ∧ mskE who s (l.take 0) = 0) := ⟨C, rfl⟩
  have kn : Hid (kept (n : Int) 256 = n) := by show _ = _; unfold kept; omega
  clear hl hm rd hk q hu hd KA KB ha C hn
  go_enter Tryd.func30, Tryd.ntmps30
  go_wp2_with fail
  go_loopw [19] (fun vi wr => ∃ i : Nat, i ≤ m ∧ vi = .int .i64 (i : Int) ∧ Hid (Cov w0 c n (mskO who s n turned acc (l.take i)) wr ∧ mskE who s (l.take i) = 0)) (fun vi _ => m - (intOf vi).toNat)
  case atStart => exact ⟨0, Nat.zero_le _, rfl, X0⟩
  case round =>
    clear X0
    obtain ⟨i, hi, rfl, R⟩ := hrel
    by_cases him : i = m
    · subst him
      have TA : l.take i = l := List.take_of_length_le (by rw [HL.out]; exact Nat.le_refl _)
      rw [TA] at R
      have ti : decide ((i : Int) < (i : Int)) = false := by simp
      clear TA
      go_wp2
      go_ret
      rw [R.out.2]
      exact ⟨rfl, fun _ => R.out.1, R.out.1.old⟩
    · have hlt : i < m := by omega
      have hil : i < l.length := by rw [HL.out]; exact hlt
      have ti : decide ((i : Int) < (m : Int)) = true := by simp; omega
      have q0 : (0 : Int) ≤ i := by omega
      have q1 : (i : Int) < m := by omega
      have iw : wrap64 ((i : Int) + 1) = ((i + 1 : Nat) : Int) := by have := HM.out; unfold wrap64; omega
      obtain ⟨b, off, rfl, cx0, cy0, ck0⟩ := RD.out i l[i] (by simp [hil])
      have cx := R.out.1.old.cell cx0
      have cy := R.out.1.old.cell cy0
      have ck := R.out.1.old.cell ck0
      have kb := (HK.out l[i] (by simp)).2.2.2
      have NL := hide (mskO_next who s n turned acc (l := l) (k := i) (c := l[i]) (by simp [hil]))
      have NE := hide (mskE_next who s (l := l) (k := i) (c := l[i]) (by simp [hil]) R.out.2)
      have W1 := hide (Old.of_alloc wr (.cells #[.int .i64 l[i].who, .int .u64 (l[i].lock : Nat), .int .u64 (l[i].key : Nat)] 49))
      generalize l[i] = cc at *
      obtain ⟨x, y, k⟩ := cc
      dsimp only at *
      by_cases hw : x = who
      · have tw : (x == who) = true := by rw [beq_iff_eq]; exact hw
        have R2 : Hid (Cov w0 c n (mskO who s n turned acc (l.take (i + 1))) (wr.alloc (.cells #[.int .i64 x, .int .u64 (y : Nat), .int .u64 (k : Nat)] 49)) ∧ mskE who s (l.take (i + 1)) = 0) := by
          refine ⟨?_, ?_⟩
          · rw [NL.out, mskS, if_pos hw]; exact R.out.1.mono W1.out
          · rw [NE.out, if_pos hw]
        clear hw NL NE R ck0 cx0 cy0 W1
        go_wp2_with fail
        try rw [iw]
        go_roundw
        case rel => exact ⟨i + 1, by omega, by simp, R2⟩
        case measure => simp [intOf]; omega
      · have tw : (x == who) = false := by rw [beq_eq_false_iff_ne]; exact hw
        have NS : Hid (mskO who s n turned acc (l.take (i + 1)) = List.zipWith (sgn who x turned) (mskO who s n turned acc (l.take i)) (pairV (powP k s) n)) := by
          show _ = _
          rw [NL.out, mskS, if_neg hw]
        rw [if_neg hw] at NE
        have CP := hide (fun (w' : World) (q : QTab w') => maskPair_any s k kb n w' q)
        rw [kn.out] at CP
        have ML : Hid ((mskO who s n turned acc (l.take i)).length = n) := mskO_length LA.out
        have PL := hide (pairV_length (powP k s) n)
        have PB := hide (pairV_lt (powP k s) n)
        by_cases hE : agE s k = 0
        · have CQ : Hid (∀ w', QTab w' → Calls Tryd.prog 8 #[.int .u64 s, .int .u64 (k : Nat), .int .i64 n] w' fun e w'' => ∃ g, w'.heap.size ≤ g ∧ e = .returned (.tuple #[.slice (some ⟨g, 0, none⟩) n n, .int .i64 0]) ∧ Row w'' g 41 (nums .u32 (pairV (powP k s) n)) ∧ Old w' w'') := fun w' q => MR.yes (CP.out w' q) hE
          rw [hE] at NE
          generalize pairV (powP k s) n = ps at *
          generalize mskO who s n turned acc (l.take i) = ms at *
          clear hE NL kb ck0 cx0 cy0 CP hw
          go_wp2_with fail
          refine (CQ.out _ (HQ.out.mono (R.out.1.old.trans W1.out))).mono ?_
          rintro e w3 ⟨gm, gm0, rfl, gm1, o3⟩
          have C3 := hide (R.out.1.mono (W1.out.trans o3))
          have r3 := hide gm1.rd
          have c30 := (Row.mono (Row.new wr 49 [.int .i64 x, .int .u64 (y : Nat), .int .u64 (k : Nat)]) o3).cell (i := 0) rfl
          by_cases hx : who < x
          · have tx : decide (who < x) = true := decide_eq_true hx
            rw [HU.out x hx] at NS
            have C4 := HA.out ms ps (some ⟨gm, 0, none⟩) n w3 ML.out PL.out PB.out C3.out r3.out
            clear hx C3
            go_wp2_with fail
            refine C4.mono ?_
            rintro e w4 ⟨rfl, c4⟩
            have R2 : Hid (Cov w0 c n (mskO who s n turned acc (l.take (i + 1))) w4 ∧ mskE who s (l.take (i + 1)) = 0) := by
              refine ⟨?_, NE.out⟩
              rw [NS.out]
              exact c4
            clear R NS NE c4 C4
            go_wp2
            try rw [iw]
            go_roundw
            case rel => exact ⟨i + 1, by omega, by simp, R2⟩
            case measure => simp [intOf]; omega
          · have tx : decide (who < x) = false := decide_eq_false hx
            rw [HD.out x (by omega)] at NS
            have C4 := HB.out ms ps (some ⟨gm, 0, none⟩) n w3 ML.out PL.out PB.out C3.out r3.out
            clear hx C3
            go_wp2_with fail
            refine C4.mono ?_
            rintro e w4 ⟨rfl, c4⟩
            have R2 : Hid (Cov w0 c n (mskO who s n turned acc (l.take (i + 1))) w4 ∧ mskE who s (l.take (i + 1)) = 0) := by
              refine ⟨?_, NE.out⟩
              rw [NS.out]
              exact c4
            clear R NS NE c4 C4
            go_wp2
            try rw [iw]
            go_roundw
            case rel => exact ⟨i + 1, by omega, by simp, R2⟩
            case measure => simp [intOf]; omega
        · have tE : ((agE s k : Int) != 0) = true := by rw [bne_iff_ne]; omega
          have ST : Hid (mskE who s l = agE s k) := by
            show _ = _
            rw [mskE_stop who s (l := l) (k := i + 1) (by rw [NE.out]; exact hE), NE.out]
          have CQ : Hid (∀ w', QTab w' → Calls Tryd.prog 8 #[.int .u64 s, .int .u64 (k : Nat), .int .i64 n] w' fun e w'' => e = .returned (.tuple #[.slice none 0 0, .int .i64 (agE s k : Nat)]) ∧ Old w' w'') := fun w' q => MR.no (CP.out w' q) hE
          have HE := hide hE
          clear hE hw NL NE kb ck0 cx0 cy0 CP NS ML PL PB
          generalize agE s k = E at *
          go_wp2_with fail
          refine (CQ.out _ (HQ.out.mono (R.out.1.old.trans W1.out))).mono ?_
          rintro e w2 ⟨rfl, o2⟩
          go_wp2_with fail
          go_ret
          rw [ST.out]
          exact ⟨rfl, fun h => absurd h HE.out, R.out.1.old.trans (W1.out.trans o2)⟩
end Go.Proofs.YtjbpnhibgafdmaaDoor
