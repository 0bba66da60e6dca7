/-
  What is read of fields, thing by thing: the word that they tell, and when they tell just one.
-/
import Derived.Test.YtepchjpdfmleoaaMgText
import Derived.Test.YtepchjpdfmleoaaRefTake
namespace Go.Proofs.Ytepchjpdfmleoaa
open Go.RowKit Cn Wn
set_option linter.unusedVariables false

namespace Rn
/-- What a reader has left: the bytes, what was wrong, whether there was a thing that no good word has. -/
structure Rs where
  l : List Nat
  er : Int
  st : Bool
def rSm (s : Rs) : Nat × Rs := (nmN s.l s.er 4, ⟨tkL s.l s.er 4, tkE s.l s.er 4, s.st⟩)
def rGr (s : Rs) : Nat × Rs := (nmN s.l s.er 8, ⟨tkL s.l s.er 8, tkE s.l s.er 8, s.st⟩)
def rBy (s : Rs) : List Nat × Rs := (tkS (tkL s.l s.er 4) (tkE s.l s.er 4) (nmN s.l s.er 4), ⟨tkL (tkL s.l s.er 4) (tkE s.l s.er 4) (nmN s.l s.er 4), tkE (tkL s.l s.er 4) (tkE s.l s.er 4) (nmN s.l s.er 4), s.st⟩)
def rMk (s : Rs) : Bool × Rs := (decide ((rSm s).1 = 1), ⟨(rSm s).2.l, (rSm s).2.er, (rSm s).2.st || decide (1 < (rSm s).1)⟩)
def rWho (s : Rs) : Int × Rs := (((rSm s).1 : Nat), (rSm s).2)
def rMany {α : Type} (r : Rs → α × Rs) : Nat → Rs → List α × Rs
  | 0, s => ([], s)
  | n + 1, s => ((rMany r n s).1 ++ [(r (rMany r n s).2).1], (r (rMany r n s).2).2)
def rList {α : Type} (most : Nat) (r : Rs → α × Rs) (s : Rs) : List α × Rs :=
  if most < (rSm s).1 then ([], ⟨(rSm s).2.l, (rSm s).2.er, true⟩) else rMany r (rSm s).1 (rSm s).2
def rCard (s : Rs) : Card × Rs := (⟨(rWho s).1, (rGr (rWho s).2).1, (rGr (rGr (rWho s).2).2).1⟩, (rGr (rGr (rWho s).2).2).2)
def rParcel (s : Rs) : Parcel × Rs := (⟨(rWho s).1, (rWho (rWho s).2).1, (rBy (rWho (rWho s).2).2).1⟩, (rBy (rWho (rWho s).2).2).2)
def rOpening (s : Rs) : Opening × Rs := (⟨(rWho s).1, (rMk (rWho s).2).1, (rList 5 rGr (rMk (rWho s).2).2).1⟩, (rList 5 rGr (rMk (rWho s).2).2).2)
/-- The states behind the fields of a word, one behind the other. -/
def s1 (s : Rs) := (rWho s).2
def s2 (s : Rs) := (rWho (s1 s)).2
def s3 (s : Rs) := (rWho (s2 s)).2
def s4 (s : Rs) := (rList 64 rCard (s3 s)).2
def s5 (s : Rs) := (rList 64 rParcel (s4 s)).2
def s6 (s : Rs) := (rList 256 rSm (s5 s)).2
def s7 (s : Rs) := (rList 64 rWho (s6 s)).2
def s8 (s : Rs) := (rList 64 rOpening (s7 s)).2
def rWord (s : Rs) : Wd × Rs := (⟨(rWho s).1, (rWho (s1 s)).1, (rWho (s2 s)).1, (rList 64 rCard (s3 s)).1, (rList 64 rParcel (s4 s)).1, (rList 256 rSm (s5 s)).1, (rList 64 rWho (s6 s)).1, (rList 64 rOpening (s7 s)).1⟩, s8 s)

/-- All bytes are bytes. -/
def By (s : Rs) : Prop := ∀ x ∈ s.l, x < 256
/-- What is read is what lies there (T: a thing's fields); and of a thing that may be (Ok) just that is read. -/
structure Got {α : Type} (T : α → List Nat) (Ok : α → Prop) (r : Rs → α × Rs) : Prop where
  by_ : ∀ s, By s → By (r s).2
  fwd : ∀ s, By s → (r s).2.er = 0 → (r s).2.st = false → s.er = 0 ∧ s.st = false ∧ s.l = T (r s).1 ++ (r s).2.l
  bwd : ∀ x l', Ok x → r ⟨T x ++ l', 0, false⟩ = (x, ⟨l', 0, false⟩)

theorem tkE_zero {l : List Nat} {er : Int} {n : Nat} (h : tkE l er n = 0) : er = 0 ∧ n ≤ l.length := by
  unfold tkE at h
  split at h
  · rename_i h1; exact absurd h h1
  · rename_i h1
    split at h
    · cases h
    · exact ⟨by omega, by omega⟩
theorem tk_ok {l : List Nat} {n : Nat} (h : n ≤ l.length) : tkS l 0 n = l.take n ∧ tkL l 0 n = l.drop n ∧ tkE l 0 n = 0 := by
  unfold tkS tkL tkE
  simp [show ¬ l.length < n by omega]
theorem numL_le4 {l : List Nat} (hl : l.length = 4) (hx : ∀ x ∈ l, x < 256) : le4 (numL l) = l := by
  match l, hl with
  | [a, b, c, d], _ =>
    simp at hx
    simp [numL, le4]
    omega
theorem numL_two {l : List Nat} (hl : l.length = 4) (m : List Nat) : numL (l ++ m) = numL l + 4294967296 * numL m := by
  match l, hl with
  | [a, b, c, d], _ =>
    simp [numL]
    omega
theorem numL_small {l : List Nat} (hl : l.length = 4) (hx : ∀ x ∈ l, x < 256) : numL l < 4294967296 := by
  match l, hl with
  | [a, b, c, d], _ =>
    simp at hx
    simp [numL]
    omega
theorem numL_le8 {l : List Nat} (hl : l.length = 8) (hx : ∀ x ∈ l, x < 256) : le8 (numL l) = l := by
  have h1 : (l.take 4).length = 4 := by rw [List.length_take]; omega
  have h2 : (l.drop 4).length = 4 := by rw [List.length_drop]; omega
  have b1 : ∀ x ∈ l.take 4, x < 256 := fun x h => hx x (List.mem_of_mem_take h)
  have b2 : ∀ x ∈ l.drop 4, x < 256 := fun x h => hx x (List.mem_of_mem_drop h)
  have e := numL_two h1 (l.drop 4)
  rw [List.take_append_drop] at e
  have s1 := numL_small h1 b1
  have q1 := numL_le4 h1 b1
  have q2 := numL_le4 h2 b2
  generalize numL (l.take 4) = x at *
  generalize numL (l.drop 4) = y at *
  rw [e]
  unfold le8
  rw [show (x + 4294967296 * y) % 4294967296 = x by omega, show (x + 4294967296 * y) / 4294967296 = y by omega, q1, q2, List.take_append_drop]
theorem le4_numL (n : Nat) (h : n < 4294967296) : numL (le4 n) = n := by
  simp [numL, le4]
  omega
theorem le8_numL (n : Nat) (h : n < 18446744073709551616) : numL (le8 n) = n := by
  unfold le8
  rw [numL_two (le4_len _), le4_numL _ (by omega), le4_numL _ (by omega)]
  omega
theorem take_app {a b : List Nat} {n : Nat} (h : a.length = n) : (a ++ b).take n = a ∧ (a ++ b).drop n = b := by
  subst h
  exact ⟨List.take_left, List.drop_left⟩
theorem got_small : Got le4 (fun x => x < 4294967296) rSm where
  by_ := fun s hs => tkL_lt hs _ _
  fwd := fun s hs h h2 => by
    obtain ⟨he, hl⟩ := tkE_zero h
    refine ⟨he, h2, ?_⟩
    obtain ⟨e1, e2, _⟩ := tk_ok hl
    show s.l = le4 (nmN s.l s.er 4) ++ tkL s.l s.er 4
    rw [he, e2]
    unfold nmN
    rw [e1, numL_le4 (by rw [List.length_take]; omega) (fun x hx => hs x (List.mem_of_mem_take hx)), List.take_append_drop]
  bwd := fun x l' hx => by
    have hl : 4 ≤ (le4 x ++ l').length := by rw [List.length_append, le4_len]; omega
    obtain ⟨e1, e2, e3⟩ := tk_ok hl
    unfold rSm nmN
    simp only [e1, e2, e3, (take_app (le4_len x)).1, (take_app (le4_len x)).2, le4_numL x hx]
theorem got_great : Got le8 (fun x => x < 18446744073709551616) rGr where
  by_ := fun s hs => tkL_lt hs _ _
  fwd := fun s hs h h2 => by
    obtain ⟨he, hl⟩ := tkE_zero h
    refine ⟨he, h2, ?_⟩
    obtain ⟨e1, e2, _⟩ := tk_ok hl
    show s.l = le8 (nmN s.l s.er 8) ++ tkL s.l s.er 8
    rw [he, e2]
    unfold nmN
    rw [e1, numL_le8 (by rw [List.length_take]; omega) (fun x hx => hs x (List.mem_of_mem_take hx)), List.take_append_drop]
  bwd := fun x l' hx => by
    have hl : 8 ≤ (le8 x ++ l').length := by rw [List.length_append, le8_len]; omega
    obtain ⟨e1, e2, e3⟩ := tk_ok hl
    unfold rGr nmN
    simp only [e1, e2, e3, (take_app (le8_len x)).1, (take_app (le8_len x)).2, le8_numL x hx]
theorem got_bytes : Got fieldB (fun x => x.length < 4294967296) rBy where
  by_ := fun s hs => tkL_lt (tkL_lt hs _ _) _ _
  fwd := fun s hs h h2 => by
    obtain ⟨he, hl⟩ := tkE_zero h
    obtain ⟨h0, h1, h3⟩ := got_small.fwd s hs he h2
    refine ⟨h0, h1, ?_⟩
    obtain ⟨e1, e2, _⟩ := tk_ok hl
    rw [h3]
    show le4 (nmN s.l s.er 4) ++ tkL s.l s.er 4 = fieldB (tkS (tkL s.l s.er 4) (tkE s.l s.er 4) (nmN s.l s.er 4)) ++ tkL (tkL s.l s.er 4) (tkE s.l s.er 4) (nmN s.l s.er 4)
    rw [he, e1, e2]
    unfold fieldB
    rw [List.length_take, Nat.min_eq_left hl, List.append_assoc, List.take_append_drop]
  bwd := fun x l' hx => by
    have h := got_small.bwd x.length (x ++ l') hx
    unfold rSm at h
    simp only [Prod.mk.injEq, Rs.mk.injEq, and_true] at h
    unfold rBy fieldB
    simp only [List.append_assoc]
    rw [h.1, h.2.1, h.2.2]
    obtain ⟨e1, e2, e3⟩ := tk_ok (l := x ++ l') (n := x.length) (by rw [List.length_append]; omega)
    rw [e1, e2, e3, (take_app rfl).1, (take_app rfl).2]
def markT (b : Bool) : List Nat := le4 (if b then 1 else 0)
theorem got_mark : Got markT (fun _ => True) rMk where
  by_ := fun s hs => tkL_lt hs _ _
  fwd := fun s hs h h2 => by
    have h2' : s.st = false ∧ ¬ 1 < (rSm s).1 := by
      have h4 : ((rSm s).2.st || decide (1 < (rSm s).1)) = false := h2
      exact ⟨(Bool.or_eq_false_iff.1 h4).1, of_decide_eq_false (Bool.or_eq_false_iff.1 h4).2⟩
    obtain ⟨h0, h1, h3⟩ := got_small.fwd s hs h h2'.1
    refine ⟨h0, h1, ?_⟩
    rw [h3]
    show le4 (rSm s).1 ++ (rSm s).2.l = markT (decide ((rSm s).1 = 1)) ++ (rSm s).2.l
    unfold markT
    have := h2'.2
    generalize (rSm s).1 = n at *
    by_cases hn : n = 1
    · subst hn; rfl
    · obtain rfl : n = 0 := by omega
      rfl
  bwd := fun x l' _ => by
    have h := got_small.bwd (if x then 1 else 0) l' (by split <;> omega)
    unfold rMk markT
    rw [h]
    cases x <;> rfl
def whoT4 (n : Int) : List Nat := le4 n.toNat
theorem got_who : Got whoT4 (fun n => 0 ≤ n ∧ n < 4294967296) rWho where
  by_ := fun s hs => tkL_lt hs _ _
  fwd := fun s hs h h2 => by
    obtain ⟨h0, h1, h3⟩ := got_small.fwd s hs h h2
    exact ⟨h0, h1, by rw [h3]; show _ = whoT4 (((rSm s).1 : Nat) : Int) ++ _; unfold whoT4; rfl⟩
  bwd := fun x l' hx => by
    have h := got_small.bwd x.toNat l' (by omega)
    unfold rWho whoT4
    rw [h]
    simp only [Int.toNat_of_nonneg hx.1]

section
variable {α : Type} {T : α → List Nat} {Ok : α → Prop} {r : Rs → α × Rs}
theorem rMany_len (r : Rs → α × Rs) : ∀ (n : Nat) (s : Rs), (rMany r n s).1.length = n
  | 0, s => rfl
  | n + 1, s => by rw [rMany, List.length_append, rMany_len r n s]; rfl
theorem rMany_by (G : Got T Ok r) : ∀ (n : Nat) (s : Rs), By s → By (rMany r n s).2
  | 0, s, h => h
  | n + 1, s, h => G.by_ _ (rMany_by G n s h)
theorem rMany_fwd (G : Got T Ok r) : ∀ (n : Nat) (s : Rs), By s → (rMany r n s).2.er = 0 → (rMany r n s).2.st = false → s.er = 0 ∧ s.st = false ∧ s.l = (rMany r n s).1.flatMap T ++ (rMany r n s).2.l
  | 0, s, _, h1, h2 => ⟨h1, h2, by simp [rMany]⟩
  | n + 1, s, h, h1, h2 => by
    obtain ⟨a1, a2, a3⟩ := G.fwd _ (rMany_by G n s h) h1 h2
    obtain ⟨b1, b2, b3⟩ := rMany_fwd G n s h a1 a2
    refine ⟨b1, b2, ?_⟩
    rw [b3, a3]
    simp only [rMany, List.flatMap_append, List.flatMap_cons, List.flatMap_nil, List.append_nil, List.append_assoc]
theorem rMany_bwd (G : Got T Ok r) (l : List α) (l' : List Nat) (hl : ∀ x ∈ l, Ok x) : ∀ n, n ≤ l.length → rMany r n ⟨l.flatMap T ++ l', 0, false⟩ = (l.take n, ⟨(l.drop n).flatMap T ++ l', 0, false⟩)
  | 0, _ => by simp [rMany]
  | n + 1, h => by
    have ih := rMany_bwd G l l' hl n (by omega)
    rw [rMany, ih]
    simp only
    have hd : l.drop n = l[n] :: l.drop (n + 1) := List.drop_eq_getElem_cons (by omega)
    rw [hd, List.flatMap_cons, List.append_assoc, G.bwd l[n] _ (hl _ (List.getElem_mem _))]
    simp only
    rw [List.take_add_one, List.getElem?_eq_getElem (by omega)]
    rfl
theorem Got.list (G : Got T Ok r) (most : Nat) (hm : most < 4294967296) : Got (fun l => le4 l.length ++ l.flatMap T) (fun l => l.length ≤ most ∧ ∀ x ∈ l, Ok x) (rList most r) where
  by_ := fun s hs => by
    unfold rList
    split
    · exact tkL_lt hs _ _
    · exact rMany_by G _ _ (got_small.by_ s hs)
  fwd := fun s hs h h2 => by
    unfold rList at h h2 ⊢
    split at h
    · rename_i hb
      rw [if_pos hb] at h2
      cases h2
    · rename_i hb
      rw [if_neg hb] at h2 ⊢
      obtain ⟨a1, a2, a3⟩ := rMany_fwd G _ _ (got_small.by_ s hs) h h2
      obtain ⟨b1, b2, b3⟩ := got_small.fwd s hs a1 a2
      refine ⟨b1, b2, ?_⟩
      rw [b3, a3, rMany_len, List.append_assoc]
  bwd := fun x l' hx => by
    have h := got_small.bwd x.length (x.flatMap T ++ l') (by omega)
    unfold rList
    simp only [List.append_assoc]
    rw [h]
    simp only
    rw [if_neg (by omega), rMany_bwd G x l' hx.2 x.length (Nat.le_refl _)]
    simp
end
theorem got_card : Got cardT (fun x => (0 ≤ x.who ∧ x.who < 4294967296) ∧ x.lock < 18446744073709551616 ∧ x.key < 18446744073709551616) rCard where
  by_ := fun s hs => got_great.by_ _ (got_great.by_ _ (got_who.by_ s hs))
  fwd := fun s hs h h2 => by
    obtain ⟨a1, a2, a3⟩ := got_great.fwd _ (got_great.by_ _ (got_who.by_ s hs)) h h2
    obtain ⟨b1, b2, b3⟩ := got_great.fwd _ (got_who.by_ s hs) a1 a2
    obtain ⟨c1, c2, c3⟩ := got_who.fwd s hs b1 b2
    refine ⟨c1, c2, ?_⟩
    rw [c3, b3, a3]
    simp [cardT, rCard, whoT4]
  bwd := fun x l' hx => by
    have h1 := got_who.bwd x.who (le8 x.lock ++ (le8 x.key ++ l')) hx.1
    have h2 := got_great.bwd x.lock (le8 x.key ++ l') hx.2.1
    have h3 := got_great.bwd x.key l' hx.2.2
    unfold whoT4 at h1
    unfold rCard cardT
    simp only [List.append_assoc]
    rw [h1]; simp only
    rw [h2]; simp only
    rw [h3]
theorem got_parcel : Got parcelT (fun x => (0 ≤ x.frm ∧ x.frm < 4294967296) ∧ (0 ≤ x.to ∧ x.to < 4294967296) ∧ x.data.length < 4294967296) rParcel where
  by_ := fun s hs => got_bytes.by_ _ (got_who.by_ _ (got_who.by_ s hs))
  fwd := fun s hs h h2 => by
    obtain ⟨a1, a2, a3⟩ := got_bytes.fwd _ (got_who.by_ _ (got_who.by_ s hs)) h h2
    obtain ⟨b1, b2, b3⟩ := got_who.fwd _ (got_who.by_ s hs) a1 a2
    obtain ⟨c1, c2, c3⟩ := got_who.fwd s hs b1 b2
    refine ⟨c1, c2, ?_⟩
    rw [c3, b3, a3]
    simp [parcelT, rParcel, whoT4]
  bwd := fun x l' hx => by
    have h1 := got_who.bwd x.frm (le4 x.to.toNat ++ (fieldB x.data ++ l')) hx.1
    have h2 := got_who.bwd x.to (fieldB x.data ++ l') hx.2.1
    have h3 := got_bytes.bwd x.data l' hx.2.2
    unfold whoT4 at h1 h2
    unfold rParcel parcelT
    simp only [List.append_assoc]
    rw [h1]; simp only
    rw [h2]; simp only
    rw [h3]
theorem got_greats : Got (fun l => le4 l.length ++ l.flatMap le8) (fun l => l.length ≤ 5 ∧ ∀ x ∈ l, x < 18446744073709551616) (rList 5 rGr) := got_great.list 5 (by omega)
theorem got_opening : Got openingT (fun x => (0 ≤ x.who ∧ x.who < 4294967296) ∧ x.vals.length ≤ 5 ∧ ∀ y ∈ x.vals, y < 18446744073709551616) rOpening where
  by_ := fun s hs => got_greats.by_ _ (got_mark.by_ _ (got_who.by_ s hs))
  fwd := fun s hs h h2 => by
    obtain ⟨a1, a2, a3⟩ := got_greats.fwd _ (got_mark.by_ _ (got_who.by_ s hs)) h h2
    obtain ⟨b1, b2, b3⟩ := got_mark.fwd _ (got_who.by_ s hs) a1 a2
    obtain ⟨c1, c2, c3⟩ := got_who.fwd s hs b1 b2
    refine ⟨c1, c2, ?_⟩
    rw [c3, b3, a3]
    simp only [openingT, rOpening, whoT4, markT, List.append_assoc]
    rfl
  bwd := fun x l' hx => by
    have h1 := got_who.bwd x.who (markT x.own ++ (le4 x.vals.length ++ (x.vals.flatMap le8 ++ l'))) hx.1
    have h2 := got_mark.bwd x.own (le4 x.vals.length ++ (x.vals.flatMap le8 ++ l')) trivial
    have h3 := got_greats.bwd x.vals l' hx.2
    unfold whoT4 at h1
    unfold markT at h1 h2
    unfold rOpening openingT
    simp only [List.append_assoc] at h3 ⊢
    rw [h1]; simp only
    rw [h2]; simp only
    rw [h3]
theorem got_cards : Got (fun l => le4 l.length ++ l.flatMap cardT) (fun l => l.length ≤ 64 ∧ ∀ x ∈ l, (fun x => (0 ≤ x.who ∧ x.who < 4294967296) ∧ x.lock < 18446744073709551616 ∧ x.key < 18446744073709551616) x) (rList 64 rCard) := got_card.list 64 (by omega)
theorem got_parcels : Got (fun l => le4 l.length ++ l.flatMap parcelT) (fun l => l.length ≤ 64 ∧ ∀ x ∈ l, (fun x => (0 ≤ x.frm ∧ x.frm < 4294967296) ∧ (0 ≤ x.to ∧ x.to < 4294967296) ∧ x.data.length < 4294967296) x) (rList 64 rParcel) := got_parcel.list 64 (by omega)
theorem got_vector : Got (fun l => le4 l.length ++ l.flatMap le4) (fun l => l.length ≤ 256 ∧ ∀ x ∈ l, (fun x => x < 4294967296) x) (rList 256 rSm) := got_small.list 256 (by omega)
theorem got_whos : Got (fun l => le4 l.length ++ l.flatMap whoT4) (fun l => l.length ≤ 64 ∧ ∀ x ∈ l, (fun n => 0 ≤ n ∧ n < 4294967296) x) (rList 64 rWho) := got_who.list 64 (by omega)
theorem got_openings : Got (fun l => le4 l.length ++ l.flatMap openingT) (fun l => l.length ≤ 64 ∧ ∀ x ∈ l, (fun x => (0 ≤ x.who ∧ x.who < 4294967296) ∧ x.vals.length ≤ 5 ∧ ∀ y ∈ x.vals, y < 18446744073709551616) x) (rList 64 rOpening) := got_opening.list 64 (by omega)
/-- What is asked of a word that is read again. -/
structure Rd15 (c : Wd) : Prop where
  kind : 0 ≤ c.kind ∧ c.kind < 4294967296
  frm : 0 ≤ c.frm ∧ c.frm < 4294967296
  why : 0 ≤ c.why ∧ c.why < 4294967296
  cards : c.cards.length ≤ 64 ∧ ∀ x ∈ c.cards, (0 ≤ x.who ∧ x.who < 4294967296) ∧ x.lock < 18446744073709551616 ∧ x.key < 18446744073709551616
  parcels : c.parcels.length ≤ 64 ∧ ∀ x ∈ c.parcels, (0 ≤ x.frm ∧ x.frm < 4294967296) ∧ (0 ≤ x.to ∧ x.to < 4294967296) ∧ x.data.length < 4294967296
  vector : c.vector.length ≤ 256 ∧ ∀ x ∈ c.vector, x < 4294967296
  who : c.who.length ≤ 64 ∧ ∀ x ∈ c.who, 0 ≤ x ∧ x < 4294967296
  openings : c.openings.length ≤ 64 ∧ ∀ x ∈ c.openings, (0 ≤ x.who ∧ x.who < 4294967296) ∧ x.vals.length ≤ 5 ∧ ∀ y ∈ x.vals, y < 18446744073709551616
theorem q1 (s : Rs) : (rWho s).2 = s1 s := by unfold s1; rfl
theorem q2 (s : Rs) : (rWho (s1 s)).2 = s2 s := by unfold s2; rfl
theorem q3 (s : Rs) : (rWho (s2 s)).2 = s3 s := by unfold s3; rfl
theorem q4 (s : Rs) : (rList 64 rCard (s3 s)).2 = s4 s := by unfold s4; rfl
theorem q5 (s : Rs) : (rList 64 rParcel (s4 s)).2 = s5 s := by unfold s5; rfl
theorem q6 (s : Rs) : (rList 256 rSm (s5 s)).2 = s6 s := by unfold s6; rfl
theorem q7 (s : Rs) : (rList 64 rWho (s6 s)).2 = s7 s := by unfold s7; rfl
theorem q8 (s : Rs) : (rList 64 rOpening (s7 s)).2 = s8 s := by unfold s8; rfl
theorem word_by (s : Rs) (hs : By s) : By (s1 s) ∧ By (s2 s) ∧ By (s3 s) ∧ By (s4 s) ∧ By (s5 s) ∧ By (s6 s) ∧ By (s7 s) ∧ By (s8 s) := by
  have y1 := got_who.by_ s hs
  rw [q1] at y1
  have y2 := got_who.by_ _ y1
  rw [q2] at y2
  have y3 := got_who.by_ _ y2
  rw [q3] at y3
  have y4 := got_cards.by_ _ y3
  rw [q4] at y4
  have y5 := got_parcels.by_ _ y4
  rw [q5] at y5
  have y6 := got_vector.by_ _ y5
  rw [q6] at y6
  have y7 := got_whos.by_ _ y6
  rw [q7] at y7
  have y8 := got_openings.by_ _ y7
  rw [q8] at y8
  exact ⟨y1, y2, y3, y4, y5, y6, y7, y8⟩
theorem word_fwd (s : Rs) (hs : By s) (h : (s8 s).er = 0) (h2 : (s8 s).st = false) : s.er = 0 ∧ s.st = false ∧ s.l = textT (rWord s).1 ++ (s8 s).l := by
  obtain ⟨y1, y2, y3, y4, y5, y6, y7, y8⟩ := word_by s hs
  have g7 := got_openings.fwd (s7 s) y7
  rw [q8] at g7
  obtain ⟨a7, b7, e7⟩ := g7 h h2
  have g6 := got_whos.fwd (s6 s) y6
  rw [q7] at g6
  obtain ⟨a6, b6, e6⟩ := g6 a7 b7
  have g5 := got_vector.fwd (s5 s) y5
  rw [q6] at g5
  obtain ⟨a5, b5, e5⟩ := g5 a6 b6
  have g4 := got_parcels.fwd (s4 s) y4
  rw [q5] at g4
  obtain ⟨a4, b4, e4⟩ := g4 a5 b5
  have g3 := got_cards.fwd (s3 s) y3
  rw [q4] at g3
  obtain ⟨a3, b3, e3⟩ := g3 a4 b4
  have g2 := got_who.fwd (s2 s) y2
  rw [q3] at g2
  obtain ⟨a2, b2, e2⟩ := g2 a3 b3
  have g1 := got_who.fwd (s1 s) y1
  rw [q2] at g1
  obtain ⟨a1, b1, e1⟩ := g1 a2 b2
  have g0 := got_who.fwd s hs
  rw [q1] at g0
  obtain ⟨a0, b0, e0⟩ := g0 a1 b1
  refine ⟨a0, b0, ?_⟩
  rw [e0, e1, e2, e3, e4, e5, e6, e7]
  unfold rWord textT whoT4
  simp only [List.append_assoc]
theorem rWord2 (s : Rs) : (rWord s).2 = s8 s := by unfold rWord; rfl
theorem got_word : Got textT Rd15 rWord where
  by_ := fun s hs => by rw [rWord2]; exact (word_by s hs).2.2.2.2.2.2.2
  fwd := fun s hs h h2 => by rw [rWord2] at h h2 ⊢; exact word_fwd s hs h h2
  bwd := fun c l' hc => by
    have h8 := got_openings.bwd c.openings l' hc.openings
    have h7 := got_whos.bwd c.who (le4 c.openings.length ++ (c.openings.flatMap openingT ++ l')) hc.who
    have h6 := got_vector.bwd c.vector (le4 c.who.length ++ (c.who.flatMap whoT4 ++ (le4 c.openings.length ++ (c.openings.flatMap openingT ++ l')))) hc.vector
    have h5 := got_parcels.bwd c.parcels (le4 c.vector.length ++ (c.vector.flatMap le4 ++ (le4 c.who.length ++ (c.who.flatMap whoT4 ++ (le4 c.openings.length ++ (c.openings.flatMap openingT ++ l')))))) hc.parcels
    have h4 := got_cards.bwd c.cards (le4 c.parcels.length ++ (c.parcels.flatMap parcelT ++ (le4 c.vector.length ++ (c.vector.flatMap le4 ++ (le4 c.who.length ++ (c.who.flatMap whoT4 ++ (le4 c.openings.length ++ (c.openings.flatMap openingT ++ l')))))))) hc.cards
    have h3 := got_who.bwd c.why (le4 c.cards.length ++ (c.cards.flatMap cardT ++ (le4 c.parcels.length ++ (c.parcels.flatMap parcelT ++ (le4 c.vector.length ++ (c.vector.flatMap le4 ++ (le4 c.who.length ++ (c.who.flatMap whoT4 ++ (le4 c.openings.length ++ (c.openings.flatMap openingT ++ l')))))))))) hc.why
    have h2 := got_who.bwd c.frm (whoT4 c.why ++ (le4 c.cards.length ++ (c.cards.flatMap cardT ++ (le4 c.parcels.length ++ (c.parcels.flatMap parcelT ++ (le4 c.vector.length ++ (c.vector.flatMap le4 ++ (le4 c.who.length ++ (c.who.flatMap whoT4 ++ (le4 c.openings.length ++ (c.openings.flatMap openingT ++ l'))))))))))) hc.frm
    have h1 := got_who.bwd c.kind (whoT4 c.frm ++ (whoT4 c.why ++ (le4 c.cards.length ++ (c.cards.flatMap cardT ++ (le4 c.parcels.length ++ (c.parcels.flatMap parcelT ++ (le4 c.vector.length ++ (c.vector.flatMap le4 ++ (le4 c.who.length ++ (c.who.flatMap whoT4 ++ (le4 c.openings.length ++ (c.openings.flatMap openingT ++ l')))))))))))) hc.kind
    have et : textT c ++ l' = whoT4 c.kind ++ (whoT4 c.frm ++ (whoT4 c.why ++ (le4 c.cards.length ++ (c.cards.flatMap cardT ++ (le4 c.parcels.length ++ (c.parcels.flatMap parcelT ++ (le4 c.vector.length ++ (c.vector.flatMap le4 ++ (le4 c.who.length ++ (c.who.flatMap whoT4 ++ (le4 c.openings.length ++ (c.openings.flatMap openingT ++ l')))))))))))) := by
      simp only [textT, List.append_assoc]
      rfl
    simp only [List.append_assoc] at h4 h5 h6 h7 h8
    unfold rWord s8 s7 s6 s5 s4 s3 s2 s1
    simp only [et, h1, h2, h3, h4, h5, h6, h7, h8]
end Rn
end Go.Proofs.Ytepchjpdfmleoaa
