import PyProof.Rows.All
import Wide.All
import OpenK.AllK
import Wide.FinOn
import Open.SpecLaws
import KE.OsGo
import HandS.ForSpec
import HandS.ForMost
import HandS.Evl
import HandS.CallLocal
import HandS.Codes
import HandS.Flow
import HandS.More
import HandS.Zip
import HandS.SortInts
import KE.OsArith
import HandS.Conv
import HandS.Steps
import PySem.Challenge.RW_sharedtable_s01_answers
set_option Elab.async false
set_option linter.all false
namespace Tbl
/-! The flat list: what the reader of calls finds at a place. -/
theorem whole_id (c : List (List Int)) : PyVbecaf.whole c = c := by
  unfold PyVbecaf.whole
  split <;> rfl
theorem map_whole (cs : List (List (List Int))) : cs.map PyVbecaf.whole = cs := by
  induction cs with
  | nil => rfl
  | cons c r ih => rw [List.map_cons, ih, whole_id]
theorem row_drop {l : List Int} {i : Nat} {x s : List Int} (h : PyFlat.row (l.drop i) = some (x, s)) :
    ∃ n : Nat, l[i]? = some (n : Int) ∧ i + 1 + n ≤ l.length ∧ x = (l.drop (i + 1)).take n ∧ s = l.drop (i + 1 + n) := by
  cases e : l.drop i with
  | nil => rw [e] at h; cases h
  | cons m r =>
    rw [e] at h
    have hi : l[i]? = some m := by
      rw [← List.head?_drop, e]; rfl
    have hr : r = l.drop (i + 1) := by
      rw [← List.drop_drop, e]; rfl
    simp only [PyFlat.row] at h
    split at h
    · rename_i c
      injection h with h
      injection h with h1 h2
      refine ⟨m.toNat, ?_, ?_, ?_, ?_⟩
      · rw [hi, Int.toNat_of_nonneg c.1]
      · have c2 := c.2
        have hl := congrArg List.length e
        rw [List.length_drop, List.length_cons] at hl
        omega
      · rw [← h1, hr]
      · rw [← h2, hr, List.drop_drop]
    · cases h
theorem rows_zero {r : List Int} {xs : List (List Int)} {t : List Int} (h : PyFlat.rows 0 r = some (xs, t)) : xs = [] ∧ t = r := by
  simp only [PyFlat.rows] at h
  injection h with h
  injection h with h1 h2
  exact ⟨h1.symm, h2.symm⟩
theorem rows_succ {k : Nat} {r : List Int} {xs : List (List Int)} {t : List Int} (h : PyFlat.rows (k + 1) r = some (xs, t)) :
    ∃ x s ys, PyFlat.row r = some (x, s) ∧ PyFlat.rows k s = some (ys, t) ∧ xs = x :: ys := by
  simp only [PyFlat.rows] at h
  split at h
  · cases h
  · rename_i x s e
    split at h
    · cases h
    · rename_i ys t' e2
      injection h with h
      injection h with h1 h2
      exact ⟨x, s, ys, e, by rw [e2, h2], h1.symm⟩
theorem call_parts {p : Int} {r : List Int} {c : List (List Int)} {t : List Int} (h : PyFlat.call PyVbecaf.shape (p :: r) = some (c, t)) :
    ∃ n k xs, PyVbecaf.shape p = some (n, k) ∧ n ≤ r.length ∧ PyFlat.rows k (r.drop n) = some (xs, t) ∧ c = (p :: r.take n) :: xs := by
  simp only [PyFlat.call] at h
  split at h
  · cases h
  · rename_i n k e
    split at h
    · cases h
    · rename_i hn
      split at h
      · cases h
      · rename_i xs t' e2
        injection h with h
        injection h with h1 h2
        exact ⟨n, k, xs, e, by omega, by rw [e2, h2], h1.symm⟩
theorem calls_cons {f : Nat} {p : Int} {r : List Int} {cs : List (List (List Int))} (h : PyFlat.calls PyVbecaf.shape f (p :: r) = some cs) :
    ∃ f' c t cs', f = f' + 1 ∧ PyFlat.call PyVbecaf.shape (p :: r) = some (c, t) ∧ PyFlat.calls PyVbecaf.shape f' t = some cs' ∧ cs = c :: cs' := by
  cases f with
  | zero => cases h
  | succ f =>
    simp only [PyFlat.calls] at h
    split at h
    · cases h
    · rename_i c t e
      split at h
      · cases h
      · rename_i cs' e2
        injection h with h
        exact ⟨f, c, t, cs', rfl, e, e2, h.symm⟩
theorem calls_nil {f : Nat} {cs : List (List (List Int))} (h : PyFlat.calls PyVbecaf.shape f [] = some cs) : cs = [] := by
  cases f <;> (simp only [PyFlat.calls] at h; injection h with h; exact h.symm)
/-- the twelve places of a call, by its first number -/
theorem shape_cases {p : Int} {n k : Nat} (h : PyVbecaf.shape p = some (n, k)) :
    (p = 0 ∧ n = 0 ∧ k = 2) ∨ (p = 1 ∧ n = 1 ∧ k = 1) ∨ (p = 2 ∧ n = 2 ∧ k = 0) ∨ (p = 3 ∧ n = 2 ∧ k = 0) ∨ (p = 4 ∧ n = 0 ∧ k = 0) ∨ (p = 5 ∧ n = 0 ∧ k = 1) ∨
    (p = 6 ∧ n = 0 ∧ k = 1) ∨ (p = 7 ∧ n = 0 ∧ k = 1) ∨ (p = 8 ∧ n = 0 ∧ k = 0) ∨ (p = 9 ∧ n = 0 ∧ k = 0) ∨ (p = 10 ∧ n = 0 ∧ k = 0) ∨ (p = 11 ∧ n = 0 ∧ k = 1) := by
  unfold PyVbecaf.shape at h
  by_cases e0 : p = 0
  · rw [if_pos e0] at h
    injection h with h
    injection h with h1 h2
    exact .inl ⟨e0, h1.symm, h2.symm⟩
  rw [if_neg e0] at h
  refine .inr ?_
  by_cases e1 : p = 1
  · rw [if_pos e1] at h
    injection h with h
    injection h with h1 h2
    exact .inl ⟨e1, h1.symm, h2.symm⟩
  rw [if_neg e1] at h
  refine .inr ?_
  by_cases e2 : p = 2
  · rw [if_pos e2] at h
    injection h with h
    injection h with h1 h2
    exact .inl ⟨e2, h1.symm, h2.symm⟩
  rw [if_neg e2] at h
  refine .inr ?_
  by_cases e3 : p = 3
  · rw [if_pos e3] at h
    injection h with h
    injection h with h1 h2
    exact .inl ⟨e3, h1.symm, h2.symm⟩
  rw [if_neg e3] at h
  refine .inr ?_
  by_cases e4 : p = 4
  · rw [if_pos e4] at h
    injection h with h
    injection h with h1 h2
    exact .inl ⟨e4, h1.symm, h2.symm⟩
  rw [if_neg e4] at h
  refine .inr ?_
  by_cases e5 : p = 5
  · rw [if_pos e5] at h
    injection h with h
    injection h with h1 h2
    exact .inl ⟨e5, h1.symm, h2.symm⟩
  rw [if_neg e5] at h
  refine .inr ?_
  by_cases e6 : p = 6
  · rw [if_pos e6] at h
    injection h with h
    injection h with h1 h2
    exact .inl ⟨e6, h1.symm, h2.symm⟩
  rw [if_neg e6] at h
  refine .inr ?_
  by_cases e7 : p = 7
  · rw [if_pos e7] at h
    injection h with h
    injection h with h1 h2
    exact .inl ⟨e7, h1.symm, h2.symm⟩
  rw [if_neg e7] at h
  refine .inr ?_
  by_cases e8 : p = 8
  · rw [if_pos e8] at h
    injection h with h
    injection h with h1 h2
    exact .inl ⟨e8, h1.symm, h2.symm⟩
  rw [if_neg e8] at h
  refine .inr ?_
  by_cases e9 : p = 9
  · rw [if_pos e9] at h
    injection h with h
    injection h with h1 h2
    exact .inl ⟨e9, h1.symm, h2.symm⟩
  rw [if_neg e9] at h
  refine .inr ?_
  by_cases e10 : p = 10
  · rw [if_pos e10] at h
    injection h with h
    injection h with h1 h2
    exact .inl ⟨e10, h1.symm, h2.symm⟩
  rw [if_neg e10] at h
  refine .inr ?_
  by_cases e11 : p = 11
  · rw [if_pos e11] at h
    injection h with h
    injection h with h1 h2
    exact ⟨e11, h1.symm, h2.symm⟩
  rw [if_neg e11] at h
  cases h
/-- one call at a place of the whole list -/
structure At (l : List Int) (i : Nat) (p : Int) (ns : List Int) (xs : List (List Int)) (j : Nat) : Prop where
  num : l[i]? = some p
  nums : ns = (l.drop (i + 1)).take ns.length
  room : i + 1 + ns.length ≤ l.length
  rows : PyFlat.rows xs.length (l.drop (i + 1 + ns.length)) = some (xs, l.drop j)
  le : j ≤ l.length
  shape : PyVbecaf.shape p = some (ns.length, xs.length)
theorem rows_len : ∀ {k : Nat} {r : List Int} {xs : List (List Int)} {t : List Int}, PyFlat.rows k r = some (xs, t) → xs.length = k
  | 0, _, _, _, h => by rw [(rows_zero h).1]; rfl
  | k + 1, _, _, _, h => by
    obtain ⟨x, s, ys, _, h2, e⟩ := rows_succ h
    rw [e, List.length_cons, rows_len h2]
theorem rows_drop : ∀ {k : Nat} {l : List Int} {i : Nat} {xs : List (List Int)} {t : List Int}, i ≤ l.length → PyFlat.rows k (l.drop i) = some (xs, t) → ∃ j, i ≤ j ∧ j ≤ l.length ∧ t = l.drop j
  | 0, l, i, _, _, hi, h => ⟨i, Nat.le_refl _, hi, (rows_zero h).2⟩
  | k + 1, l, i, _, _, hi, h => by
    obtain ⟨x, s, ys, h1, h2, e⟩ := rows_succ h
    obtain ⟨n, _, hn, _, hs⟩ := row_drop h1
    rw [hs] at h2
    obtain ⟨j, h3, h4, h5⟩ := rows_drop hn h2
    exact ⟨j, by omega, h4, h5⟩
theorem calls_at {f : Nat} {l : List Int} {i : Nat} {cs : List (List (List Int))} (hi : i < l.length) (h : PyFlat.calls PyVbecaf.shape f (l.drop i) = some cs) :
    ∃ f' p ns xs j cs', At l i p ns xs j ∧ i < j ∧ PyFlat.calls PyVbecaf.shape f' (l.drop j) = some cs' ∧ cs = ((p :: ns) :: xs) :: cs' := by
  cases e : l.drop i with
  | nil =>
    have := congrArg List.length e
    rw [List.length_drop, List.length_nil] at this
    omega
  | cons p r =>
    have hp : l[i]? = some p := by rw [← List.head?_drop, e]; rfl
    have hr : r = l.drop (i + 1) := by rw [← List.drop_drop, e]; rfl
    rw [e] at h
    obtain ⟨f', c, t, cs', _, h1, h2, h3⟩ := calls_cons h
    obtain ⟨n, k, xs, s1, s2, s3, s4⟩ := call_parts h1
    have hl : r.length = l.length - (i + 1) := by rw [hr, List.length_drop]
    rw [hr, List.drop_drop] at s3
    obtain ⟨j, j1, j2, j3⟩ := rows_drop (by omega) s3
    have hn : (r.take n).length = n := by rw [List.length_take]; omega
    have hk := rows_len s3
    refine ⟨f', p, r.take n, xs, j, cs', ⟨hp, ?_, ?_, ?_, j2, ?_⟩, by omega, by rw [← j3]; exact h2, by rw [h3, s4]⟩
    · rw [hn, hr]
    · rw [hn]; omega
    · rw [hn, hk, s3, j3]
    · rw [hn, hk]; exact s1
end Tbl
namespace Tbl
open Vbecaf
/-! Sets of mouths as numbers. -/
theorem has_bit (s i : Nat) : has s i = s.testBit i := by
  unfold has
  rw [Nat.testBit_eq_decide_div_mod_eq]
  by_cases h : s / 2 ^ i % 2 = 1
  · rw [h]; rfl
  · have : s / 2 ^ i % 2 = 0 := by omega
    rw [this]; rfl
theorem setOf_append (a b : List Nat) : setOf (a ++ b) = setOf a + setOf b := by
  unfold setOf
  rw [List.map_append, List.sum_append]
theorem setOf_nil : setOf [] = 0 := rfl
theorem setOf_one (i : Nat) : setOf [i] = 2 ^ i := by simp [setOf]
/-- numbers going up, each below n -/
def Up (l : List Nat) : Prop := l.Pairwise (· < ·)
theorem up_snoc {l : List Nat} {a : Nat} : Up (l ++ [a]) ↔ Up l ∧ ∀ x ∈ l, x < a := by
  unfold Up
  rw [List.pairwise_append]
  simp
/-- induction from the greatest -/
theorem up_ind {P : List Nat → Prop} (h0 : P []) (h1 : ∀ l a, Up l → (∀ x ∈ l, x < a) → P l → P (l ++ [a])) : ∀ n l, l.length = n → Up l → P l
  | 0, l, hl, _ => by rw [List.length_eq_zero_iff.mp hl]; exact h0
  | n + 1, l, hl, hu => by
    have hne : l ≠ [] := by intro e; rw [e] at hl; cases hl
    have e := List.dropLast_concat_getLast hne
    rw [← e] at hu ⊢
    have := up_snoc.mp hu
    refine h1 _ _ this.1 this.2 (up_ind h0 h1 n _ ?_ this.1)
    rw [List.length_dropLast, hl]; rfl
theorem setOf_lt {l : List Nat} (hu : Up l) : ∀ n, (∀ x ∈ l, x < n) → setOf l < 2 ^ n := by
  refine up_ind (P := fun l => ∀ n, (∀ x ∈ l, x < n) → setOf l < 2 ^ n) ?_ ?_ _ l rfl hu
  · intro n _; exact Nat.two_pow_pos n
  · intro l a hl hx ih n hn
    rw [setOf_append, setOf_one]
    have h1 := ih a hx
    have h2 : a < n := hn a (by simp)
    have h3 : 2 ^ (a + 1) ≤ 2 ^ n := Nat.pow_le_pow_right (by decide) h2
    rw [Nat.pow_succ] at h3
    omega
theorem bit_snoc {m a : Nat} (h : m < 2 ^ a) (i : Nat) : (m + 2 ^ a).testBit i = (m.testBit i || decide (i = a)) := by
  have e : m + 2 ^ a = 2 ^ a ||| m := by
    have := Nat.two_pow_add_eq_or_of_lt h 1
    rw [Nat.mul_one] at this
    rw [Nat.add_comm, this]
  rw [e, Nat.testBit_or, Nat.testBit_two_pow, Bool.or_comm]
  congr 1
  by_cases q : a = i
  · simp [q]
  · simp [q, Ne.symm q]
theorem bit_setOf {l : List Nat} (hu : Up l) (i : Nat) : (setOf l).testBit i = decide (i ∈ l) := by
  refine up_ind (P := fun l => (setOf l).testBit i = decide (i ∈ l)) ?_ ?_ _ l rfl hu
  · simp [setOf_nil]
  · intro l a hl hx ih
    rw [setOf_append, setOf_one, bit_snoc (setOf_lt hl a hx), ih]
    simp
theorem up_filter {l : List Nat} (f : Nat → Bool) (h : Up l) : Up (l.filter f) := h.filter _
theorem up_range (n : Nat) : Up (List.range n) := List.pairwise_lt_range
theorem members_up (t : Table) (s : Nat) : Up (members t s) := up_filter _ (up_range _)
theorem mem_members {t : Table} {s i : Nat} : i ∈ members t s ↔ i < mouths t ∧ s.testBit i = true := by
  unfold members
  rw [List.mem_filter, List.mem_range, has_bit]
theorem up_ext : ∀ {a b : List Nat}, Up a → Up b → (∀ i, i ∈ a ↔ i ∈ b) → a = b
  | [], [], _, _, _ => rfl
  | [], y :: ys, _, _, h => by have := (h y).mpr (by simp); cases this
  | x :: xs, [], _, _, h => by have := (h x).mp (by simp); cases this
  | x :: xs, y :: ys, ha, hb, h => by
    have ha' := List.pairwise_cons.mp ha
    have hb' := List.pairwise_cons.mp hb
    have e : x = y := by
      have h1 := (h x).mp (by simp)
      have h2 := (h y).mpr (by simp)
      rcases List.mem_cons.mp h1 with e | h1
      · exact e
      · rcases List.mem_cons.mp h2 with e | h2
        · exact e.symm
        · have := ha'.1 y h2
          have := hb'.1 x h1
          omega
    subst e
    congr 1
    refine up_ext ha'.2 hb'.2 fun i => ?_
    have hi := h i
    rw [List.mem_cons, List.mem_cons] at hi
    constructor
    · intro m
      have := ha'.1 i m
      rcases hi.mp (.inr m) with e | e
      · omega
      · exact e
    · intro m
      have := hb'.1 i m
      rcases hi.mpr (.inr m) with e | e
      · omega
      · exact e
theorem setOf_bits {l : List Nat} {s n : Nat} (hu : Up l) (hs : s < 2 ^ n) (hl : ∀ i ∈ l, i < n) (h : ∀ i, i < n → (i ∈ l ↔ s.testBit i = true)) : setOf l = s := by
  apply Nat.eq_of_testBit_eq
  intro i
  rw [bit_setOf hu]
  by_cases hi : i < n
  · have := h i hi
    by_cases q : i ∈ l
    · simp [q, this.mp q]
    · simp only [q, decide_false]
      cases e : s.testBit i with
      | false => rfl
      | true => exact (q (this.mpr e)).elim
  · have q : i ∉ l := fun m => hi (hl i m)
    simp only [q, decide_false]
    rw [Nat.testBit_lt_two_pow (Nat.lt_of_lt_of_le hs (Nat.pow_le_pow_right (by decide) (by omega)))]
theorem setOf_members {t : Table} {s : Nat} (hs : s < 2 ^ mouths t) : setOf (members t s) = s :=
  setOf_bits (members_up t s) hs (fun i h => (mem_members.mp h).1) fun i hi => by
    rw [mem_members]
    exact ⟨fun h => h.2, fun h => ⟨hi, h⟩⟩
theorem members_setOf {t : Table} {l : List Nat} (hu : Up l) (hl : ∀ i ∈ l, i < mouths t) : members t (setOf l) = l :=
  up_ext (members_up _ _) hu fun i => by
    rw [mem_members, bit_setOf hu, decide_eq_true_eq]
    exact ⟨fun h => h.2, fun h => ⟨hl i h, h⟩⟩
theorem subset_iff {t : Table} {a b : Nat} : subset t a b = true ↔ ∀ i, i < mouths t → a.testBit i = true → b.testBit i = true := by
  unfold subset
  rw [List.all_eq_true]
  constructor
  · intro h i hi ha
    have := h i (mem_members.mpr ⟨hi, ha⟩)
    rw [has_bit] at this
    exact this
  · intro h i hi
    rw [mem_members] at hi
    rw [has_bit]
    exact h i hi.1 hi.2
theorem mem_subsets {t : Table} {a s : Nat} : a ∈ subsets t s ↔ a < 2 ^ mouths t ∧ ∀ i, i < mouths t → a.testBit i = true → s.testBit i = true := by
  unfold subsets
  rw [List.mem_filter, List.mem_range, subset_iff]
theorem bit_lt {s n i : Nat} (hs : s < 2 ^ n) (h : s.testBit i = true) : i < n := by
  by_cases q : i < n
  · exact q
  · rw [Nat.testBit_lt_two_pow (Nat.lt_of_lt_of_le hs (Nat.pow_le_pow_right (by decide) (by omega)))] at h
    cases h
theorem setOf_filter_lt {n : Nat} (f : Nat → Bool) : setOf ((List.range n).filter f) < 2 ^ n :=
  setOf_lt (up_filter _ (up_range n)) n fun x h => List.mem_range.mp (List.mem_filter.mp h).1
theorem bit_both {t : Table} {s a i : Nat} : (both t s a).testBit i = (decide (i < mouths t) && (s.testBit i || a.testBit i)) := by
  unfold both
  rw [bit_setOf (up_filter _ (up_range _))]
  simp only [List.mem_filter, List.mem_range, has_bit]
  by_cases h : i < mouths t <;> simp [h]
theorem both_lt (t : Table) (s a : Nat) : both t s a < 2 ^ mouths t := setOf_filter_lt _
theorem both_or {t : Table} {s a : Nat} (hs : s < 2 ^ mouths t) (ha : a < 2 ^ mouths t) : both t s a = s ||| a := by
  apply Nat.eq_of_testBit_eq
  intro i
  rw [bit_both, Nat.testBit_or]
  by_cases h : i < mouths t
  · simp [h]
  · have h1 : s.testBit i = false := by
      cases q : s.testBit i with
      | false => rfl
      | true => exact (h (bit_lt hs q)).elim
    have h2 : a.testBit i = false := by
      cases q : a.testBit i with
      | false => rfl
      | true => exact (h (bit_lt ha q)).elim
    simp [h1, h2]
theorem bit_without {t : Table} {s a i : Nat} : (without t s a).testBit i = (decide (i < mouths t) && (s.testBit i && !a.testBit i)) := by
  unfold without
  rw [bit_setOf (up_filter _ (members_up _ _))]
  simp only [List.mem_filter, mem_members, has_bit]
  by_cases h : i < mouths t <;> simp [h]
theorem without_lt (t : Table) (s a : Nat) : without t s a < 2 ^ mouths t := by
  unfold without
  refine setOf_lt (up_filter _ (members_up _ _)) _ fun x h => ?_
  exact (mem_members.mp (List.mem_filter.mp h).1).1
theorem everyone_lt (t : Table) : everyone t < 2 ^ mouths t := by
  unfold everyone
  have := Nat.two_pow_pos (mouths t)
  omega
theorem bit_everyone {t : Table} {i : Nat} : (everyone t).testBit i = decide (i < mouths t) := by
  unfold everyone
  rw [Nat.testBit_two_pow_sub_one]
theorem members_everyone (t : Table) : members t (everyone t) = List.range (mouths t) :=
  up_ext (members_up _ _) (up_range _) fun i => by rw [mem_members, bit_everyone, List.mem_range, decide_eq_true_eq]; omega
theorem members_zero (t : Table) : members t 0 = [] := by
  unfold members
  rw [List.filter_eq_nil_iff]
  intro i _
  rw [has_bit]; simp
end Tbl
namespace Tbl
open Vbecaf
theorem rising_iff : ∀ ns : List Int, rising ns = true ↔ ∀ (i : Nat) (x y : Int), ns[i]? = some x → ns[i + 1]? = some y → x < y
  | [] => by simp [rising]
  | [a] => by
    simp only [rising, true_iff]
    intro i x y h1 h2
    simp at h2
  | a :: b :: l => by
    rw [rising, Bool.and_eq_true, decide_eq_true_eq, rising_iff (b :: l)]
    constructor
    · rintro ⟨h1, h2⟩ i x y hx hy
      cases i with
      | zero =>
        cases hx
        cases hy
        exact h1
      | succ i => exact h2 i x y hx hy
    · intro h
      exact ⟨h 0 a b rfl rfl, fun i x y hx hy => h (i + 1) x y hx hy⟩
theorem rising_pair : ∀ {ns : List Int}, rising ns = true → ns.Pairwise (· < ·)
  | [], _ => .nil
  | [a], _ => by simp
  | a :: b :: l, h => by
    rw [rising, Bool.and_eq_true, decide_eq_true_eq] at h
    have ih := rising_pair h.2
    rw [List.pairwise_cons]
    refine ⟨fun x hx => ?_, ih⟩
    rcases List.mem_cons.mp hx with e | hx
    · rw [e]; exact h.1
    · have := (List.pairwise_cons.mp ih).1 x hx
      omega
end Tbl
namespace Tbl
open Vbecaf
/-- numbers of a table as the program holds them -/
structure WfT (t : Table) : Prop where
  f1 : 1 ≤ t.food.length
  f8 : t.food.length ≤ 8
  fa : ∀ x ∈ t.food, x ≤ 100
  a1 : 1 ≤ t.appetites.length
  a8 : t.appetites.length ≤ 8
  aa : ∀ x ∈ t.appetites, x ≤ 100
  rl : t.reach.length = t.appetites.length
  ru : ∀ x ∈ t.reach, Up x ∧ ∀ c ∈ x, c < t.food.length
def amountOk (n : Int) : Bool := decide (0 ≤ n) && decide (n ≤ 100)
def amountRow (ns : List Int) : Bool := (decide (1 ≤ (ns.length : Int)) && decide ((ns.length : Int) ≤ 8)) && ns.all fun n => decide (0 ≤ n) && decide (n ≤ 100)
def inAll (ns : List Int) (c : Int) : Bool := ns.all fun n => decide (0 ≤ n) && decide (n < c)
theorem start_wf : WfT start.table := by
  constructor <;> simp [start, Up]
theorem mem_toNat {l : List Int} {n : Nat} (h : ∀ x ∈ l, 0 ≤ x ∧ x ≤ (n : Int)) : ∀ x ∈ l.map Int.toNat, x ≤ n := by
  intro x hx
  obtain ⟨y, hy, rfl⟩ := List.mem_map.mp hx
  have := h y hy
  omega
theorem row_all {l : List Int} (h : amountRow l = true) : (1 ≤ l.length ∧ l.length ≤ 8) ∧ ∀ x ∈ l, 0 ≤ x ∧ x ≤ 100 := by
  unfold amountRow at h
  simp only [Bool.and_eq_true, decide_eq_true_eq, List.all_eq_true] at h
  exact ⟨⟨by omega, by omega⟩, fun x hx => h.2 x hx⟩
theorem table_cond {f a : List Int} : (1 ≤ f.length ∧ f.length ≤ 8 ∧ 1 ≤ a.length ∧ a.length ≤ 8 ∧ amounts f = true ∧ amounts a = true) ↔ (amountRow f = true ∧ amountRow a = true) := by
  have e : ∀ l : List Int, amountRow l = true ↔ (1 ≤ l.length ∧ l.length ≤ 8) ∧ amounts l = true := fun l => by
    unfold amountRow amounts isBetween
    rw [Bool.and_eq_true, Bool.and_eq_true, decide_eq_true_eq, decide_eq_true_eq]
    constructor
    · rintro ⟨⟨h1, h2⟩, h3⟩
      exact ⟨⟨by omega, by omega⟩, h3⟩
    · rintro ⟨⟨h1, h2⟩, h3⟩
      exact ⟨⟨by omega, by omega⟩, h3⟩
  rw [e, e]
  constructor
  · rintro ⟨h1, h2, h3, h4, h5, h6⟩
    exact ⟨⟨⟨h1, h2⟩, h5⟩, ⟨⟨h3, h4⟩, h6⟩⟩
  · rintro ⟨⟨⟨h1, h2⟩, h5⟩, ⟨⟨h3, h4⟩, h6⟩⟩
    exact ⟨h1, h2, h3, h4, h5, h6⟩
theorem step_table_yes {t : Table} {f a : List Int} (h : amountRow f = true ∧ amountRow a = true) : step ⟨t⟩ [[0], f, a] = (put { food := f.map Int.toNat, appetites := a.map Int.toNat, reach := List.replicate a.length [] }, [0]) :=
  if_pos (table_cond.mpr h)
theorem step_table_no {t : Table} {f a : List Int} (h : ¬ (amountRow f = true ∧ amountRow a = true)) : step ⟨t⟩ [[0], f, a] = (⟨t⟩, [-1]) :=
  if_neg fun c => h (table_cond.mp c)
theorem table_wf {f a : List Int} (h : amountRow f = true ∧ amountRow a = true) : WfT { food := f.map Int.toNat, appetites := a.map Int.toNat, reach := List.replicate a.length [] } := by
  have hf := row_all h.1
  have ha := row_all h.2
  refine ⟨?_, ?_, mem_toNat (n := 100) hf.2, ?_, ?_, mem_toNat (n := 100) ha.2, ?_, ?_⟩ <;> simp
  · omega
  · omega
  · omega
  · omega
  · intro _; simp [Up]
theorem toNat_map {l : List Int} (h : ∀ x ∈ l, 0 ≤ x) : (l.map Int.toNat).map (fun (n : Nat) => (n : Int)) = l := by
  rw [List.map_map]
  refine (List.map_congr_left (g := id) fun x hx => ?_).trans (List.map_id l)
  exact Int.toNat_of_nonneg (h x hx)
/-- a set told -/
theorem listOf_eq {n : Nat} {l : List Int} : listOf n l = if (rising l && inAll l (n : Int)) = true then some (l.map Int.toNat) else none := by
  have e : ((l.all fun x => isBetween x 0 ((n : Int) - 1)) = true ∧ rising l = true) ↔ (rising l && inAll l (n : Int)) = true := by
    unfold inAll isBetween
    simp only [Bool.and_eq_true, List.all_eq_true, decide_eq_true_eq]
    constructor
    · rintro ⟨h1, h2⟩
      exact ⟨h2, fun x hx => ⟨(h1 x hx).1, by have := (h1 x hx).2; omega⟩⟩
    · rintro ⟨h1, h2⟩
      exact ⟨fun x hx => ⟨(h2 x hx).1, by have := (h2 x hx).2; omega⟩, h1⟩
  unfold listOf
  by_cases h : (rising l && inAll l (n : Int)) = true
  · rw [if_pos h, if_pos (e.mpr h)]
  · rw [if_neg h, if_neg fun z => h (e.mp z)]
theorem told_up {l : List Int} {n : Nat} (h : (rising l && inAll l (n : Int)) = true) : Up (l.map Int.toNat) ∧ (∀ c ∈ l.map Int.toNat, c < n) ∧ ∀ x ∈ l, 0 ≤ x := by
  rw [Bool.and_eq_true] at h
  have h1 := rising_pair h.1
  have h2 := h.2
  unfold inAll at h2
  simp only [List.all_eq_true, Bool.and_eq_true, decide_eq_true_eq] at h2
  refine ⟨?_, ?_, fun x hx => (h2 x hx).1⟩
  · unfold Up
    rw [List.pairwise_map]
    refine h1.imp_of_mem fun {a b} ha hb c => ?_
    have := h2 a ha
    have := h2 b hb
    omega
  · intro c hc
    obtain ⟨y, hy, rfl⟩ := List.mem_map.mp hc
    have := h2 y hy
    omega
def thereB (i : Int) (n : Nat) : Bool := decide (0 ≤ i) && decide (i < (n : Int))
theorem between_there {i : Int} {n : Nat} : isBetween i 0 ((n : Int) - 1) = thereB i n := by
  unfold isBetween thereB
  congr 1
  by_cases h : i < (n : Int)
  · rw [decide_eq_true h, decide_eq_true (by omega)]
  · rw [decide_eq_false h, decide_eq_false (by omega)]
theorem there_iff {i : Int} {n : Nat} : thereB i n = true ↔ 0 ≤ i ∧ i.toNat < n := by
  unfold thereB
  rw [Bool.and_eq_true, decide_eq_true_eq, decide_eq_true_eq]
  omega
theorem step_reach {t : Table} {i : Int} {l : List Int} : step ⟨t⟩ [[1, i], l] = if thereB i (mouths t) = false then (⟨t⟩, [-2]) else if (rising l && inAll l (t.food.length : Int)) = false then (⟨t⟩, [-3]) else
    (put { food := t.food, appetites := t.appetites, reach := t.reach.set i.toNat (l.map Int.toNat) }, [0]) := by
  show act ⟨t⟩ (.reach i l) = _
  unfold act
  dsimp only
  rw [between_there, listOf_eq]
  by_cases h : thereB i (mouths t) = false
  · rw [if_pos h, if_pos h]
  · rw [if_neg h, if_neg h]
    by_cases h2 : (rising l && inAll l (t.food.length : Int)) = true
    · rw [if_pos h2, if_neg (by rw [h2]; decide)]
    · rw [if_neg h2, if_pos (by simpa using h2)]
theorem step_food {t : Table} {c u : Int} : step ⟨t⟩ [[2, c, u]] = if thereB c t.food.length = false then (⟨t⟩, [-3]) else if amountOk u = false then (⟨t⟩, [-4]) else
    (put { food := t.food.set c.toNat u.toNat, appetites := t.appetites, reach := t.reach }, [0]) := by
  show act ⟨t⟩ (.food c u) = _
  unfold act
  dsimp only
  rw [between_there]
  rfl
theorem step_appetite {t : Table} {c u : Int} : step ⟨t⟩ [[3, c, u]] = if thereB c (mouths t) = false then (⟨t⟩, [-2]) else if amountOk u = false then (⟨t⟩, [-4]) else
    (put { food := t.food, appetites := t.appetites.set c.toNat u.toNat, reach := t.reach }, [0]) := by
  show act ⟨t⟩ (.appetite c u) = _
  unfold act
  dsimp only
  rw [between_there]
  rfl
theorem amount_iff {u : Int} : amountOk u = true ↔ 0 ≤ u ∧ u ≤ 100 := by
  unfold amountOk
  rw [Bool.and_eq_true, decide_eq_true_eq, decide_eq_true_eq]
theorem mem_set {α : Type} {l : List α} {i : Nat} {a x : α} (h : x ∈ l.set i a) : x ∈ l ∨ x = a := List.mem_or_eq_of_mem_set h
theorem reach_wf {t : Table} (h : WfT t) {i : Nat} {m : List Nat} (hu : Up m) (hm : ∀ c ∈ m, c < t.food.length) : WfT { food := t.food, appetites := t.appetites, reach := t.reach.set i m } :=
  ⟨h.f1, h.f8, h.fa, h.a1, h.a8, h.aa, by rw [List.length_set]; exact h.rl, fun x hx => by
    rcases mem_set hx with q | q
    · exact h.ru x q
    · rw [q]; exact ⟨hu, hm⟩⟩
theorem food_wf {t : Table} (h : WfT t) {i u : Nat} (hu : u ≤ 100) : WfT { food := t.food.set i u, appetites := t.appetites, reach := t.reach } :=
  ⟨by rw [List.length_set]; exact h.f1, by rw [List.length_set]; exact h.f8, fun x hx => by
    rcases mem_set hx with q | q
    · exact h.fa x q
    · omega, h.a1, h.a8, h.aa, h.rl, fun x hx => by rw [List.length_set]; exact h.ru x hx⟩
theorem appetite_wf {t : Table} (h : WfT t) {i u : Nat} (hu : u ≤ 100) : WfT { food := t.food, appetites := t.appetites.set i u, reach := t.reach } :=
  ⟨h.f1, h.f8, h.fa, by rw [List.length_set]; exact h.a1, by rw [List.length_set]; exact h.a8, fun x hx => by
    rcases mem_set hx with q | q
    · exact h.aa x q
    · omega, by rw [List.length_set]; exact h.rl, h.ru⟩
theorem put_table (t : Table) : (put t).table = t := rfl
end Tbl
namespace Tbl
open Vbecaf
theorem up_len {l : List Nat} (hu : Up l) : ∀ n, (∀ x ∈ l, x < n) → l.length ≤ n := by
  refine up_ind (P := fun l => ∀ n, (∀ x ∈ l, x < n) → l.length ≤ n) (fun n _ => Nat.zero_le n) ?_ _ l rfl hu
  intro l a _ hx ih n hn
  have h1 := ih a hx
  have h2 : a < n := hn a (by simp)
  rw [List.length_append]
  simp only [List.length_cons, List.length_nil]
  omega
def toldRow (l : List Nat) : List Int := (l.length : Int) :: Vbecaf.ints l
theorem toldRows_len {n : Nat} : ∀ (rs : List (List Nat)), (∀ x ∈ rs, x.length ≤ n) → (rs.flatMap toldRow).length ≤ rs.length * (n + 1)
  | [], _ => by simp
  | x :: rs, h => by
    have ih := toldRows_len rs fun y hy => h y (by simp [hy])
    have hx := h x (by simp)
    rw [List.flatMap_cons, List.length_append, List.length_cons, Nat.succ_mul]
    have : (toldRow x).length = x.length + 1 := by simp [toldRow, Vbecaf.ints]
    omega
theorem step_told {t : Table} : step ⟨t⟩ [[4]] = (⟨t⟩, ([0, (t.food.length : Int), (t.appetites.length : Int)] ++ Vbecaf.ints t.food ++ Vbecaf.ints t.appetites) ++ t.reach.flatMap toldRow) := by
  show (_, _) = _
  rw [List.append_assoc, List.append_assoc]
  rfl
theorem wf_row {t : Table} (h : WfT t) {x : List Nat} (hx : x ∈ t.reach) : x.length ≤ 8 := Nat.le_trans (up_len (h.ru x hx).1 _ (h.ru x hx).2) h.f8
end Tbl
namespace Tbl
open Vbecaf
theorem nodup_sub_len : ∀ (a b : List Int), a.Nodup → (∀ x ∈ a, x ∈ b) → a.length ≤ b.length
  | [], b, _, _ => Nat.zero_le _
  | x :: a, b, hn, hs => by
    have hx : x ∈ b := hs x (by simp)
    have hn' := List.nodup_cons.mp hn
    have ih := nodup_sub_len a (b.erase x) hn'.2 fun y hy => by
      have hne : y ≠ x := fun e => hn'.1 (by rw [← e]; exact hy)
      exact (List.mem_erase_of_ne hne).mpr (hs y (by simp [hy]))
    rw [List.length_erase_of_mem hx] at ih
    have : 0 < b.length := List.length_pos_of_mem hx
    rw [List.length_cons]
    omega
theorem range_nodup (n : Nat) : ((List.range n).map fun (i : Nat) => (i : Int)).Nodup := by
  rw [List.nodup_iff_pairwise_ne, List.pairwise_map]
  exact List.pairwise_lt_range.imp fun {a b} h => by omega
/-- an order holds each mouth just once -/
theorem order_mem {n : Nat} {l : List Int} (h : isOrder n l = true) : l.length = n ∧ ∀ x ∈ l, 0 ≤ x ∧ x < (n : Int) := by
  unfold isOrder at h
  rw [Bool.and_eq_true, beq_iff_eq, List.all_eq_true] at h
  obtain ⟨hl, hc⟩ := h
  refine ⟨hl, fun x hx => ?_⟩
  by_cases q : 0 ≤ x ∧ x < (n : Int)
  · exact q
  · have hs := nodup_sub_len ((List.range n).map fun (i : Nat) => (i : Int)) (l.erase x) (range_nodup n) fun y hy => by
      obtain ⟨i, hi, rfl⟩ := List.mem_map.mp hy
      have h1 := hc i hi
      have hne : (i : Int) ≠ x := fun e => q (by have := List.mem_range.mp hi; omega)
      exact (List.mem_erase_of_ne hne).mpr (by simpa using h1)
    rw [List.length_erase_of_mem hx, List.length_map, List.length_range, hl] at hs
    have : 0 < l.length := List.length_pos_of_mem hx
    omega
theorem at_mem {l : List Nat} {i : Nat} (h : i < l.length) : at_ l i ∈ l := by
  unfold at_
  rw [List.getD_eq_getElem?_getD, List.getElem?_eq_getElem h]
  exact List.getElem_mem h
theorem getD_mem {l : List (List Nat)} {i : Nat} (h : i < l.length) : l.getD i [] ∈ l := by
  rw [List.getD_eq_getElem?_getD, List.getElem?_eq_getElem h]
  exact List.getElem_mem h
theorem renamed_wf {t : Table} (h : WfT t) {l : List Int} (ho : isOrder (mouths t) l = true) : WfT (renamed t (l.map Int.toNat)) := by
  have hm := order_mem ho
  have hl : ∀ i ∈ l.map Int.toNat, i < t.appetites.length := fun i hi => by
    obtain ⟨x, hx, rfl⟩ := List.mem_map.mp hi
    have := hm.2 x hx
    unfold mouths at this
    omega
  have hlen : (l.map Int.toNat).length = t.appetites.length := by rw [List.length_map]; exact hm.1
  refine ⟨h.f1, h.f8, h.fa, ?_, ?_, ?_, ?_, ?_⟩
  · show 1 ≤ ((l.map Int.toNat).map _).length
    rw [List.length_map, hlen]
    exact h.a1
  · show ((l.map Int.toNat).map _).length ≤ 8
    rw [List.length_map, hlen]
    exact h.a8
  · intro x hx
    obtain ⟨i, hi, rfl⟩ := List.mem_map.mp (show x ∈ (l.map Int.toNat).map _ from hx)
    exact h.aa _ (at_mem (hl i hi))
  · show ((l.map Int.toNat).map _).length = ((l.map Int.toNat).map _).length
    rw [List.length_map, List.length_map, List.length_map, List.length_map]
  · intro x hx
    obtain ⟨i, hi, rfl⟩ := List.mem_map.mp (show x ∈ (l.map Int.toNat).map _ from hx)
    exact h.ru _ (getD_mem (by rw [h.rl]; exact hl i hi))
theorem act_wf {s : State} (h : WfT s.table) (d : Call) : WfT (act s d).1.table := by
  obtain ⟨t⟩ := s
  cases d with
  | table f a =>
    by_cases c : amountRow f = true ∧ amountRow a = true
    · have e := step_table_yes (t := t) c
      rw [show act ⟨t⟩ (.table f a) = _ from e]
      exact table_wf c
    · have e := step_table_no (t := t) c
      rw [show act ⟨t⟩ (.table f a) = _ from e]
      exact h
  | reach i l =>
    rw [show act ⟨t⟩ (.reach i l) = _ from step_reach]
    by_cases c : thereB i (mouths t) = false
    · rw [if_pos c]; exact h
    · rw [if_neg c]
      by_cases c2 : (rising l && inAll l (t.food.length : Int)) = false
      · rw [if_pos c2]; exact h
      · rw [if_neg c2]
        have u := told_up (by simpa using c2 : (rising l && inAll l (t.food.length : Int)) = true)
        exact reach_wf h u.1 u.2.1
  | food i u =>
    rw [show act ⟨t⟩ (.food i u) = _ from step_food]
    by_cases c : thereB i t.food.length = false
    · rw [if_pos c]; exact h
    · rw [if_neg c]
      by_cases c2 : amountOk u = false
      · rw [if_pos c2]; exact h
      · rw [if_neg c2]
        have := amount_iff.mp (by simpa using c2 : amountOk u = true)
        exact food_wf h (by omega)
  | appetite i u =>
    rw [show act ⟨t⟩ (.appetite i u) = _ from step_appetite]
    by_cases c : thereB i (mouths t) = false
    · rw [if_pos c]; exact h
    · rw [if_neg c]
      by_cases c2 : amountOk u = false
      · rw [if_pos c2]; exact h
      · rw [if_neg c2]
        have := amount_iff.mp (by simpa using c2 : amountOk u = true)
        exact appetite_wf h (by omega)
  | rename l =>
    show WfT (if isOrder (mouths t) l = true then (put (renamed t (l.map Int.toNat)), [0]) else (⟨t⟩, [-5])).1.table
    by_cases c : isOrder (mouths t) l = true
    · rw [if_pos c]; exact renamed_wf h c
    · rw [if_neg c]; exact h
  | _ => exact h
theorem step_wf {t : Table} (h : WfT t) (c : List (List Int)) : WfT (step ⟨t⟩ c).1.table := by
  unfold step
  split
  · exact h
  · exact act_wf h _
theorem inside_small {p : Int} {ns : List Int} {xs : List (List Int)} (hs : PyVbecaf.shape p = some (ns.length, xs.length)) (h : PyInside.call PyVbecaf.bound ((p :: ns) :: xs) = true) : ∀ x ∈ xs, x.length ≤ 100 := by
  have key : ∀ (b : List (Int × Int)) (lo hi : Int), PyVbecaf.bound p = (b, [(lo, hi, 0, 100)]) → xs.length = 1 → ∀ x ∈ xs, x.length ≤ 100 := by
    intro b lo hi e hx
    match xs, hx with
    | [x], _ =>
      unfold PyInside.call at h
      dsimp only at h
      rw [e, Bool.and_eq_true] at h
      have h2 := h.2
      simp only [PyInside.lists, Bool.and_eq_true, decide_eq_true_eq] at h2
      intro y hy
      rw [List.mem_singleton.mp hy]
      exact h2.1.1.2
  have none_ : xs.length = 0 → ∀ x ∈ xs, x.length ≤ 100 := fun e x hx => by
    rw [List.eq_nil_of_length_eq_zero e] at hx
    cases hx
  rcases shape_cases hs with k | k | k | k | k | k | k | k | k | k | k | k
  · obtain ⟨rfl, _, hx⟩ := k
    match xs, hx with
    | [x, y], _ =>
      have h2 : (PyInside.each [] ns && PyInside.lists [((-9223372036854775808 : Int), (9223372036854775807 : Int), 0, 100), (-9223372036854775808, 9223372036854775807, 0, 100)] [x, y]) = true := h
      rw [Bool.and_eq_true] at h2
      have h3 := h2.2
      simp only [PyInside.lists, Bool.and_eq_true, decide_eq_true_eq] at h3
      intro z hz
      rcases List.mem_cons.mp hz with e | hz
      · rw [e]; exact h3.1.1.2
      · rw [List.mem_singleton.mp hz]; exact h3.2.1.1.2
  · obtain ⟨rfl, _, hx⟩ := k; exact key _ _ _ rfl hx
  · exact none_ k.2.2
  · exact none_ k.2.2
  · exact none_ k.2.2
  · obtain ⟨rfl, _, hx⟩ := k; exact key _ _ _ rfl hx
  · obtain ⟨rfl, _, hx⟩ := k; exact key _ _ _ rfl hx
  · obtain ⟨rfl, _, hx⟩ := k; exact key _ _ _ rfl hx
  · exact none_ k.2.2
  · exact none_ k.2.2
  · exact none_ k.2.2
  · obtain ⟨rfl, _, hx⟩ := k; exact key _ _ _ rfl hx
/-- what is asked of the list of calls -/
theorem asked_parts {l : List Int} (h : PyVbecaf.answers_asked l = true) : ∃ cs, PyFlat.calls PyVbecaf.shape l.length l = some cs ∧ (∀ c ∈ cs, PyInside.call PyVbecaf.bound c = true) ∧ PyVbecaf.answers l = PyFlat.told (PyFlat.played step start cs) ∧ (PyVbecaf.answers l).length ≤ 10000000 := by
  unfold PyVbecaf.answers_asked at h
  split at h
  · cases h
  · rename_i raw e
    simp only [Bool.and_eq_true] at h
    obtain ⟨⟨⟨⟨h1, h2⟩, h3⟩, h4⟩, h5⟩ := h
    refine ⟨raw, e, fun c hc => List.all_eq_true.mp h3 c hc, ?_, of_decide_eq_true h5⟩
    unfold PyVbecaf.answers PyVbecaf.calls
    rw [e]
    dsimp only
    rw [map_whole]
    rfl
end Tbl
namespace Tbl
theorem sum_filter (g : Nat → Nat) (p : Nat → Bool) : ∀ l : List Nat, (l.map fun c => if p c = true then g c else 0).sum = ((l.filter p).map g).sum
  | [] => rfl
  | x :: l => by
    rw [List.map_cons, List.sum_cons, sum_filter g p l, List.filter_cons]
    cases p x with
    | true => simp
    | false => simp
end Tbl
namespace Tbl
open Vbecaf
/-! The most of a set, by its bounds. -/
def foodL (t : Table) (ms : List Nat) : Nat := ((List.range t.food.length).map fun c => if (ms.any fun i => (t.reach.getD i []).contains c) = true then at_ t.food c else 0).sum
def appL (t : Table) (ms : List Nat) : Nat := (ms.map fun i => at_ t.appetites i).sum
theorem foodOf_set {t : Table} {ms : List Nat} (hu : Up ms) (hl : ∀ i ∈ ms, i < mouths t) : foodOf t (setOf ms) = foodL t ms := by
  unfold foodOf
  rw [members_setOf hu hl]
  rfl
theorem appOf_set {t : Table} {ms : List Nat} (hu : Up ms) (hl : ∀ i ∈ ms, i < mouths t) : appetiteOf t (setOf ms) = appL t ms := by
  unfold appetiteOf
  rw [members_setOf hu hl]
  rfl
theorem at_range {f : Nat → Nat} {a N : Nat} (h : a < N) : at_ ((List.range N).map f) a = f a := by
  unfold at_
  rw [List.getD_eq_getElem?_getD, List.getElem?_map, List.getElem?_range h]
  rfl
theorem bound_sums {t : Table} {s a : Nat} (hs : s < 2 ^ mouths t) (ha : a < 2 ^ mouths t) : bound (sums t) s a = foodOf t a + (appetiteOf t s - appetiteOf t a) := by
  unfold bound sums
  dsimp only
  rw [at_range ha, at_range hs, at_range ha]
theorem fold_min {α : Type} (g : α → Nat) : ∀ (l : List α) (b : Nat), (l.foldl (fun m a => min m (g a)) b ≤ b) ∧ (∀ a ∈ l, l.foldl (fun m a => min m (g a)) b ≤ g a) ∧ (l.foldl (fun m a => min m (g a)) b = b ∨ ∃ a ∈ l, l.foldl (fun m a => min m (g a)) b = g a)
  | [], b => ⟨Nat.le_refl _, fun a h => (by cases h), .inl rfl⟩
  | x :: l, b => by
    obtain ⟨h1, h2, h3⟩ := fold_min g l (min b (g x))
    rw [List.foldl_cons]
    refine ⟨Nat.le_trans h1 (Nat.min_le_left _ _), fun a ha => ?_, ?_⟩
    · rcases List.mem_cons.mp ha with e | ha
      · rw [e]; exact Nat.le_trans h1 (Nat.min_le_right _ _)
      · exact h2 a ha
    · rcases h3 with h3 | ⟨a, ha, h3⟩
      · by_cases c : b ≤ g x
        · exact .inl (h3.trans (Nat.min_eq_left c))
        · exact .inr ⟨x, by simp, h3.trans (Nat.min_eq_right (by omega))⟩
      · exact .inr ⟨a, by simp [ha], h3⟩
theorem zero_subset {t : Table} {s : Nat} : 0 ∈ subsets t s := mem_subsets.mpr ⟨Nat.two_pow_pos _, fun i _ h => by simp at h⟩
theorem bound_zero {t : Table} {s : Nat} (hs : s < 2 ^ mouths t) : bound (sums t) s 0 = appetiteOf t s := by
  rw [bound_sums hs (Nat.two_pow_pos _)]
  have h1 : foodOf t 0 = 0 := by
    unfold foodOf
    rw [members_zero]
    simp [List.sum_eq_zero_iff_forall_eq_nat]
  have h2 : appetiteOf t 0 = 0 := by
    unfold appetiteOf
    rw [members_zero]
    rfl
  rw [h1, h2]
  omega
/-- the most is the least bound -/
theorem mostOf_le {t : Table} {s a : Nat} (ha : a ∈ subsets t s) : mostOf t (sums t) s ≤ bound (sums t) s a := (fold_min (fun a => bound (sums t) s a) (subsets t s) _).2.1 a ha
theorem mostOf_eq {t : Table} {s : Nat} (hs : s < 2 ^ mouths t) : ∃ a ∈ subsets t s, mostOf t (sums t) s = bound (sums t) s a := by
  rcases (fold_min (fun a => bound (sums t) s a) (subsets t s) (at_ (sums t).appetite s)).2.2 with h | h
  · refine ⟨0, zero_subset, ?_⟩
    rw [bound_zero hs]
    refine Eq.trans (show mostOf t (sums t) s = _ from h) ?_
    unfold sums
    dsimp only
    rw [at_range hs]
  · exact h
/-- the choices of members, as the program lists them -/
def chs (ms : List Nat) : List (List Nat) := ms.foldl (fun cs m => cs ++ cs.map fun c => c ++ [m]) [[]]
theorem chs_snoc (ms : List Nat) (m : Nat) : chs (ms ++ [m]) = chs ms ++ (chs ms).map fun c => c ++ [m] := by
  unfold chs
  rw [List.foldl_append]
  rfl
theorem chs_nil : chs [] = [[]] := rfl
theorem chs_len (ms : List Nat) : (chs ms).length = 2 ^ ms.length := by
  suffices h : ∀ n (ms : List Nat), ms.length = n → (chs ms).length = 2 ^ n from h _ ms rfl
  intro n
  induction n with
  | zero =>
    intro ms h
    rw [List.length_eq_zero_iff.mp h]
    rfl
  | succ n ih =>
    intro ms h
    have hne : ms ≠ [] := by intro e; rw [e] at h; cases h
    rw [← List.dropLast_concat_getLast hne, chs_snoc, List.length_append, List.length_map, ih ms.dropLast (by rw [List.length_dropLast, h]; rfl), Nat.pow_succ]
    omega
theorem mem_chs {c : List Nat} (ms : List Nat) : c ∈ chs ms ↔ c.Sublist ms := by
  suffices h : ∀ n (ms c : List Nat), ms.length = n → (c ∈ chs ms ↔ c.Sublist ms) from h _ ms c rfl
  intro n
  induction n with
  | zero =>
    intro ms c h
    rw [List.length_eq_zero_iff.mp h, chs_nil, List.mem_singleton, List.sublist_nil]
  | succ n ih =>
    intro ms c h
    have hne : ms ≠ [] := by intro e; rw [e] at h; cases h
    have hl : ms.dropLast.length = n := by rw [List.length_dropLast, h]; rfl
    rw [← List.dropLast_concat_getLast hne, chs_snoc, List.mem_append, ih _ _ hl, List.sublist_append_iff]
    constructor
    · rintro (h1 | h1)
      · exact ⟨c, [], (List.append_nil c).symm, h1, List.nil_sublist _⟩
      · obtain ⟨d, hd, rfl⟩ := List.mem_map.mp h1
        exact ⟨d, [_], rfl, (ih _ _ hl).mp hd, List.Sublist.refl _⟩
    · rintro ⟨a, b, rfl, h1, h2⟩
      cases b with
      | nil =>
        rw [List.append_nil]
        exact .inl h1
      | cons x b =>
        have e : x :: b = [ms.getLast hne] := by
          have := h2.length_le
          have hb : b = [] := by simpa using this
          rw [hb] at h2 ⊢
          exact List.singleton_sublist.mp h2 |> List.mem_singleton.mp |> fun z => by rw [z]
        rw [e]
        exact .inr (List.mem_map.mpr ⟨a, (ih _ _ hl).mpr h1, rfl⟩)
theorem sub_up {c ms : List Nat} (h : c.Sublist ms) (hu : Up ms) : Up c := List.Pairwise.sublist h hu
theorem filter_mem_eq {c ms : List Nat} (h : c.Sublist ms) (hu : Up ms) : ms.filter (fun m => c.contains m) = c := by
  refine up_ext (up_filter _ hu) (sub_up h hu) fun i => ?_
  rw [List.mem_filter]
  simp only [List.contains_iff_mem]
  exact ⟨fun q => q.2, fun q => ⟨h.subset q, q⟩⟩
theorem sum_split (g : Nat → Nat) (p : Nat → Bool) : ∀ l : List Nat, (l.map g).sum = ((l.filter p).map g).sum + ((l.filter fun x => !p x).map g).sum
  | [] => rfl
  | x :: l => by
    rw [List.map_cons, List.sum_cons, sum_split g p l, List.filter_cons, List.filter_cons]
    cases p x with
    | true =>
      simp only [if_true, Bool.not_true, Bool.false_eq_true, if_false, List.map_cons, List.sum_cons]
      omega
    | false =>
      simp only [Bool.false_eq_true, if_false, Bool.not_false, if_true, List.map_cons, List.sum_cons]
      omega
/-- a bound, over lists -/
def boundL (t : Table) (ms c : List Nat) : Nat := foodL t c + appL t (ms.filter fun m => !c.contains m)
theorem boundL_eq {t : Table} {ms c : List Nat} (hu : Up ms) (hl : ∀ i ∈ ms, i < mouths t) (h : c.Sublist ms) : bound (sums t) (setOf ms) (setOf c) = boundL t ms c := by
  have hc := sub_up h hu
  have hcl : ∀ i ∈ c, i < mouths t := fun i hi => hl i (h.subset hi)
  rw [bound_sums (setOf_lt hu _ hl) (setOf_lt hc _ hcl), foodOf_set hc hcl, appOf_set hu hl, appOf_set hc hcl]
  unfold boundL
  have e : appL t ms = appL t c + appL t (ms.filter fun m => !c.contains m) := by
    have := sum_split (fun i => at_ t.appetites i) (fun m => c.contains m) ms
    rw [filter_mem_eq h hu] at this
    exact this
  rw [e]
  omega
/-- each subset, as a number, is a choice -/
theorem subset_choice {t : Table} {ms : List Nat} (hu : Up ms) {a : Nat} (ha : a ∈ subsets t (setOf ms)) : (ms.filter fun m => has a m).Sublist ms ∧ setOf (ms.filter fun m => has a m) = a := by
  refine ⟨List.filter_sublist, ?_⟩
  obtain ⟨h1, h2⟩ := mem_subsets.mp ha
  apply Nat.eq_of_testBit_eq
  intro i
  rw [bit_setOf (up_filter _ hu)]
  simp only [List.mem_filter, has_bit]
  cases e : a.testBit i with
  | false => simp
  | true =>
    have hi := bit_lt h1 e
    have := h2 i hi e
    rw [bit_setOf hu] at this
    simp [of_decide_eq_true this]
theorem choice_subset {t : Table} {ms c : List Nat} (hu : Up ms) (hl : ∀ i ∈ ms, i < mouths t) (h : c.Sublist ms) : setOf c ∈ subsets t (setOf ms) := by
  have hc := sub_up h hu
  refine mem_subsets.mpr ⟨setOf_lt hc _ fun i hi => hl i (h.subset hi), fun i _ hi => ?_⟩
  rw [bit_setOf hc, decide_eq_true_eq] at hi
  rw [bit_setOf hu, decide_eq_true_eq]
  exact h.subset hi
/-- the least of all bounds over the choices is the most -/
theorem least_most {t : Table} {ms : List Nat} (hu : Up ms) (hl : ∀ i ∈ ms, i < mouths t) {m : Int} (hm : m ∈ (chs ms).map fun c => ((boundL t ms c : Nat) : Int)) (hle : ∀ y ∈ (chs ms).map fun c => ((boundL t ms c : Nat) : Int), m ≤ y) : m = ((mostOf t (sums t) (setOf ms) : Nat) : Int) := by
  obtain ⟨c, hc, rfl⟩ := List.mem_map.mp hm
  have hs := (mem_chs ms).mp hc
  have h1 : mostOf t (sums t) (setOf ms) ≤ boundL t ms c := by
    rw [← boundL_eq hu hl hs]
    exact mostOf_le (choice_subset hu hl hs)
  obtain ⟨a, ha, e⟩ := mostOf_eq (t := t) (setOf_lt hu _ hl)
  have hq := subset_choice hu ha
  have h2 := hle _ (List.mem_map.mpr ⟨_, (mem_chs ms).mpr hq.1, rfl⟩)
  rw [← boundL_eq hu hl hq.1, hq.2, ← e] at h2
  have : (boundL t ms c : Int) ≤ ((mostOf t (sums t) (setOf ms) : Nat) : Int) := h2
  have : boundL t ms c = mostOf t (sums t) (setOf ms) := by omega
  rw [this]
theorem step_most {t : Table} {l : List Int} : step ⟨t⟩ [[5], l] = (⟨t⟩, if (rising l && inAll l (mouths t : Int)) = true then [((mostOf t (sums t) (setOf (l.map Int.toNat)) : Nat) : Int)] else [-2]) := by
  show act ⟨t⟩ (.most l) = _
  unfold act
  dsimp only
  rw [listOf_eq]
  by_cases h : (rising l && inAll l (mouths t : Int)) = true
  · rw [if_pos h, if_pos h]
  · rw [if_neg h, if_neg h]
end Tbl
namespace Tbl
open Vbecaf
/-! ### bound by food -/
theorem fold_union (t : Table) (P : Nat → Prop) [DecidablePred P] : ∀ (l : List Nat) (b i : Nat), (l.foldl (fun b a => if P a then both t b a else b) b).testBit i = true ↔ (b.testBit i = true ∧ (i < mouths t ∨ ∀ a ∈ l, ¬ P a)) ∨ (i < mouths t ∧ ∃ a ∈ l, P a ∧ a.testBit i = true)
  | [], b, i => by simp
  | x :: l, b, i => by
    rw [List.foldl_cons, fold_union t P l]
    by_cases h : P x
    · rw [if_pos h, bit_both]
      constructor
      · rintro (⟨h1, _⟩ | ⟨h1, a, ha, hp, hb⟩)
        · rw [Bool.and_eq_true, decide_eq_true_eq, Bool.or_eq_true] at h1
          rcases h1 with ⟨h1, h2 | h2⟩
          · exact .inl ⟨h2, .inl h1⟩
          · exact .inr ⟨h1, x, by simp, h, h2⟩
        · exact .inr ⟨h1, a, by simp [ha], hp, hb⟩
      · rintro (⟨h1, h2 | h2⟩ | ⟨h1, a, ha, hp, hb⟩)
        · exact .inl ⟨by simp [h1, h2], .inl h2⟩
        · exact (h2 x (by simp) h).elim
        · rcases List.mem_cons.mp ha with e | ha
          · subst e
            exact .inl ⟨by simp [h1, hb], .inl h1⟩
          · exact .inr ⟨h1, a, ha, hp, hb⟩
    · rw [if_neg h]
      constructor
      · rintro (⟨h1, h2 | h2⟩ | ⟨h1, a, ha, hp, hb⟩)
        · exact .inl ⟨h1, .inl h2⟩
        · refine .inl ⟨h1, .inr fun a ha => ?_⟩
          rcases List.mem_cons.mp ha with e | ha
          · rw [e]; exact h
          · exact h2 a ha
        · exact .inr ⟨h1, a, by simp [ha], hp, hb⟩
      · rintro (⟨h1, h2 | h2⟩ | ⟨h1, a, ha, hp, hb⟩)
        · exact .inl ⟨h1, .inl h2⟩
        · exact .inl ⟨h1, .inr fun a ha => h2 a (by simp [ha])⟩
        · rcases List.mem_cons.mp ha with e | ha
          · subst e
            exact (h hp).elim
          · exact .inr ⟨h1, a, ha, hp, hb⟩
theorem bit_binding {t : Table} {s i : Nat} : (binding t (sums t) s).testBit i = true ↔ i < mouths t ∧ ∃ a ∈ subsets t s, bound (sums t) s a = mostOf t (sums t) s ∧ a.testBit i = true := by
  unfold binding
  dsimp only
  rw [fold_union]
  simp
theorem step_binding {t : Table} {l : List Int} : step ⟨t⟩ [[6], l] = (⟨t⟩, if (rising l && inAll l (mouths t : Int)) = true then 0 :: Vbecaf.ints (members t (binding t (sums t) (setOf (l.map Int.toNat)))) else [-2]) := by
  show act ⟨t⟩ (.binding l) = _
  unfold act
  dsimp only
  rw [listOf_eq]
  by_cases h : (rising l && inAll l (mouths t : Int)) = true
  · rw [if_pos h, if_pos h]
  · rw [if_neg h, if_neg h]
/-- the members that are bound by food, by the choices of the program -/
theorem binding_choices {t : Table} {ms : List Nat} (hu : Up ms) (hl : ∀ i ∈ ms, i < mouths t) {i : Nat} : i ∈ members t (binding t (sums t) (setOf ms)) ↔ ∃ c, c.Sublist ms ∧ boundL t ms c = mostOf t (sums t) (setOf ms) ∧ i ∈ c := by
  rw [mem_members, bit_binding]
  constructor
  · rintro ⟨h1, _, a, ha, he, hb⟩
    have hq := subset_choice hu ha
    refine ⟨_, hq.1, ?_, ?_⟩
    · rw [← boundL_eq hu hl hq.1, hq.2, he]
    · have := hb
      rw [← hq.2, bit_setOf (up_filter _ hu), decide_eq_true_eq] at this
      exact this
  · rintro ⟨c, hs, he, hi⟩
    have hc := sub_up hs hu
    have h1 := hl i (hs.subset hi)
    refine ⟨h1, h1, setOf c, choice_subset hu hl hs, ?_, ?_⟩
    · rw [boundL_eq hu hl hs, he]
    · rw [bit_setOf hc, decide_eq_true_eq]
      exact hi
theorem binding_sub {t : Table} {ms : List Nat} (hu : Up ms) (hl : ∀ i ∈ ms, i < mouths t) {i : Nat} (h : i ∈ members t (binding t (sums t) (setOf ms))) : i ∈ ms := by
  obtain ⟨c, hs, _, hi⟩ := (binding_choices hu hl).mp h
  exact hs.subset hi
/-! ### what is too much -/
theorem at_mosts {t : Table} {s : Nat} (h : s < 2 ^ mouths t) : at_ (mosts t) s = mostOf t (sums t) s := at_range h
def sumOf (t : Table) (x : List Nat) (s : Nat) : Nat := ((members t s).map fun i => at_ x i).sum
theorem sumOf_set {t : Table} {x ms : List Nat} (hu : Up ms) (hl : ∀ i ∈ ms, i < mouths t) : sumOf t x (setOf ms) = (ms.map fun i => at_ x i).sum := by
  unfold sumOf
  rw [members_setOf hu hl]
theorem overfull_some {t : Table} {x : List Nat} {a : Nat} : overfull t (mosts t) x = some a ↔ a < 2 ^ mouths t ∧ mostOf t (sums t) a < sumOf t x a ∧ ∀ b, b < a → sumOf t x b ≤ mostOf t (sums t) b := by
  unfold overfull
  rw [List.find?_range_eq_some]
  constructor
  · rintro ⟨h1, h2, h3⟩
    rw [List.mem_range] at h2
    have h1' := of_decide_eq_true h1
    rw [at_mosts h2] at h1'
    refine ⟨h2, h1', fun b hb => ?_⟩
    have := h3 b hb
    rw [Bool.not_eq_true', decide_eq_false_iff_not, at_mosts (Nat.lt_trans hb h2)] at this
    exact Nat.not_lt.mp this
  · rintro ⟨h1, h2, h3⟩
    refine ⟨?_, List.mem_range.mpr h1, fun b hb => ?_⟩
    · rw [at_mosts h1]
      exact decide_eq_true h2
    · rw [Bool.not_eq_true', decide_eq_false_iff_not, at_mosts (Nat.lt_trans hb h1)]
      exact Nat.not_lt.mpr (h3 b hb)
theorem overfull_none {t : Table} {x : List Nat} : overfull t (mosts t) x = none ↔ ∀ s, s < 2 ^ mouths t → sumOf t x s ≤ mostOf t (sums t) s := by
  unfold overfull
  rw [List.find?_eq_none]
  constructor
  · intro h s hs
    have := h s (List.mem_range.mpr hs)
    rw [decide_eq_true_eq, at_mosts hs] at this
    exact Nat.not_lt.mp this
  · intro h s hs
    have hs' := List.mem_range.mp hs
    rw [decide_eq_true_eq, at_mosts hs']
    exact Nat.not_lt.mpr (h s hs')
theorem feasible_iff {t : Table} {x : List Nat} : feasible t (mosts t) x = true ↔ ∀ s, s < 2 ^ mouths t → sumOf t x s ≤ mostOf t (sums t) s := by
  unfold feasible
  rw [Option.isNone_iff_eq_none, overfull_none]
theorem step_can {t : Table} {x : List Int} : step ⟨t⟩ [[7], x] = (⟨t⟩, if x.length = mouths t ∧ (x.all fun v => decide (0 ≤ v)) = true then (match overfull t (mosts t) (x.map Int.toNat) with
    | none => [1]
    | some a => 0 :: Vbecaf.ints (members t a)) else [-4]) := rfl
end Tbl
namespace Tbl
open Vbecaf
/-! ### fractions -/
def fle (a b : Frac) : Prop := a.num * b.den ≤ b.num * a.den
theorem fle_refl (a : Frac) : fle a a := Nat.le_refl _
theorem fle_trans {a b c : Frac} (hb : 0 < b.den) (h1 : fle a b) (h2 : fle b c) : fle a c := by
  unfold fle at *
  have e1 := Nat.mul_le_mul_right c.den h1
  have e2 := Nat.mul_le_mul_right a.den h2
  have : b.den * (a.num * c.den) ≤ b.den * (c.num * a.den) := by
    calc b.den * (a.num * c.den) = a.num * b.den * c.den := by rw [← Nat.mul_assoc, Nat.mul_comm b.den a.num]
      _ ≤ b.num * a.den * c.den := e1
      _ = b.num * c.den * a.den := by rw [Nat.mul_assoc, Nat.mul_comm a.den c.den, Nat.mul_assoc]
      _ ≤ c.num * b.den * a.den := e2
      _ = b.den * (c.num * a.den) := by rw [Nat.mul_comm c.num b.den, Nat.mul_assoc]
  exact Nat.le_of_mul_le_mul_left this hb
theorem less_iff {a b : Frac} : less a b = true ↔ ¬ fle b a := by
  unfold less fle
  rw [decide_eq_true_eq]
  omega
theorem same_iff {a b : Frac} : same a b = true ↔ fle a b ∧ fle b a := by
  unfold same fle
  rw [beq_iff_eq]
  omega
/-! ### the least share, and all that have it -/
def shr (t : Table) (f : List Nat) (served s : Nat) : Frac := { num := at_ f (both t s served) - at_ f served, den := (members t s).length }
structure LvInv (t : Table) (sh : Nat → Frac) (D : Nat → Prop) (q : Frac) (S : Nat) : Prop where
  some_ : ∃ s, D s ∧ q = sh s
  le : ∀ s, D s → fle q (sh s)
  bits : ∀ i, S.testBit i = true ↔ ∃ s, D s ∧ fle (sh s) q ∧ s.testBit i = true
theorem lv_step {t : Table} {sh : Nat → Frac} {D : Nat → Prop} {q : Frac} {S s : Nat} (h : LvInv t sh D q S) (hD : ∀ d, D d → d < 2 ^ mouths t ∧ 0 < (sh d).den) (hs : s < 2 ^ mouths t) (hp : 0 < (sh s).den) :
    LvInv t sh (fun x => D x ∨ x = s) (if less (sh s) q = true then (sh s, s) else if same (sh s) q = true then (q, both t S s) else (q, S)).1
      (if less (sh s) q = true then (sh s, s) else if same (sh s) q = true then (q, both t S s) else (q, S)).2 := by
  obtain ⟨s0, hs0, hq⟩ := h.some_
  have hqd : 0 < q.den := by rw [hq]; exact (hD s0 hs0).2
  by_cases c : less (sh s) q = true
  · rw [if_pos c]
    have c' := less_iff.mp c
    have c2 : fle (sh s) q := by unfold fle at *; omega
    refine ⟨⟨s, .inr rfl, rfl⟩, fun x hx => ?_, fun i => ?_⟩
    · rcases hx with hx | hx
      · exact fle_trans hqd c2 (h.le x hx)
      · rw [hx]; exact fle_refl _
    · dsimp only
      constructor
      · intro hb
        exact ⟨s, .inr rfl, fle_refl _, hb⟩
      · rintro ⟨x, hx | hx, h1, h2⟩
        · exact (c' (fle_trans (hD x hx).2 (h.le x hx) h1)).elim
        · rw [← hx]; exact h2
  · rw [if_neg c]
    have c1 : fle q (sh s) := by
      cases Nat.decLe (q.num * (sh s).den) ((sh s).num * q.den) with
      | isTrue h => exact h
      | isFalse h => exact (c (less_iff.mpr h)).elim
    by_cases c2 : same (sh s) q = true
    · rw [if_pos c2]
      have c3 := (same_iff.mp c2).1
      refine ⟨⟨s0, .inl hs0, hq⟩, fun x hx => ?_, fun i => ?_⟩
      · rcases hx with hx | hx
        · exact h.le x hx
        · rw [hx]; exact c1
      · dsimp only
        rw [bit_both, Bool.and_eq_true, decide_eq_true_eq, Bool.or_eq_true, h.bits]
        constructor
        · rintro ⟨_, ⟨x, hx, h1, h2⟩ | h2⟩
          · exact ⟨x, .inl hx, h1, h2⟩
          · exact ⟨s, .inr rfl, c3, h2⟩
        · rintro ⟨x, hx | hx, h1, h2⟩
          · exact ⟨bit_lt (hD x hx).1 h2, .inl ⟨x, hx, h1, h2⟩⟩
          · rw [hx] at h2
            exact ⟨bit_lt hs h2, .inr h2⟩
    · rw [if_neg c2]
      refine ⟨⟨s0, .inl hs0, hq⟩, fun x hx => ?_, fun i => ?_⟩
      · rcases hx with hx | hx
        · exact h.le x hx
        · rw [hx]; exact c1
      · dsimp only
        rw [h.bits]
        constructor
        · rintro ⟨x, hx, h1, h2⟩
          exact ⟨x, .inl hx, h1, h2⟩
        · rintro ⟨x, hx | hx, h1, h2⟩
          · exact ⟨x, hx, h1, h2⟩
          · rw [hx] at h1
            exact (c2 (same_iff.mpr ⟨h1, c1⟩)).elim
theorem lv_fold {t : Table} {sh : Nat → Frac} : ∀ (l : List Nat) (D : Nat → Prop) (b : Frac × Nat), LvInv t sh D b.1 b.2 → (∀ d, D d → d < 2 ^ mouths t ∧ 0 < (sh d).den) → (∀ s ∈ l, s < 2 ^ mouths t ∧ 0 < (sh s).den) →
    LvInv t sh (fun x => D x ∨ x ∈ l) (l.foldl (fun (b : Frac × Nat) s => if less (sh s) b.1 = true then (sh s, s) else if same (sh s) b.1 = true then (b.1, both t b.2 s) else b) b).1
      (l.foldl (fun (b : Frac × Nat) s => if less (sh s) b.1 = true then (sh s, s) else if same (sh s) b.1 = true then (b.1, both t b.2 s) else b) b).2
  | [], D, b, h, _, _ => ⟨by obtain ⟨s, h1, h2⟩ := h.some_; exact ⟨s, .inl h1, h2⟩, fun s hs => h.le s (by simpa using hs), fun i => by rw [List.foldl_nil, h.bits]; simp⟩
  | s :: l, D, b, h, hD, hl => by
    rw [List.foldl_cons]
    have hs := hl s (by simp)
    have h1 := lv_step h hD hs.1 hs.2
    have h2 := lv_fold l (fun x => D x ∨ x = s) _ h1 (fun d hd => by
      rcases hd with hd | hd
      · exact hD d hd
      · rw [hd]; exact hs) fun x hx => hl x (by simp [hx])
    have e : (fun x => (D x ∨ x = s) ∨ x ∈ l) = fun x => D x ∨ x ∈ s :: l := by
      funext x
      rw [List.mem_cons, or_assoc]
    rw [e] at h2
    exact h2
/-- the sets of those that aren't served yet, not empty -/
def Cand (t : Table) (served s : Nat) : Prop := s ≠ 0 ∧ s < 2 ^ mouths t ∧ ∀ i, s.testBit i = true → served.testBit i = false
theorem members_pos {t : Table} {s : Nat} (h0 : s ≠ 0) (hs : s < 2 ^ mouths t) : 0 < (members t s).length := by
  refine List.length_pos_iff.mpr fun e => ?_
  apply h0
  have := setOf_members hs
  rw [e] at this
  exact this.symm
theorem cand_iff {t : Table} {served s : Nat} : (s ∈ (subsets t (without t (everyone t) served)).filter fun s => s != 0) ↔ Cand t served s := by
  rw [List.mem_filter, mem_subsets, bne_iff_ne]
  unfold Cand
  constructor
  · rintro ⟨⟨h1, h2⟩, h3⟩
    refine ⟨h3, h1, fun i hi => ?_⟩
    have := h2 i (bit_lt h1 hi) hi
    rw [bit_without, bit_everyone] at this
    simp only [Bool.and_eq_true, Bool.not_eq_true', decide_eq_true_eq] at this
    exact this.2.2
  · rintro ⟨h1, h2, h3⟩
    refine ⟨⟨h2, fun i hi hb => ?_⟩, h1⟩
    rw [bit_without, bit_everyone]
    simp [hi, h3 i hb]
theorem level_inv {t : Table} {f : List Nat} {served : Nat} (hr : without t (everyone t) served ≠ 0) : LvInv t (shr t f served) (Cand t served) (level t f served).1 (level t f served).2 := by
  have hrc : Cand t served (without t (everyone t) served) := by
    refine cand_iff.mp (List.mem_filter.mpr ⟨mem_subsets.mpr ⟨without_lt _ _ _, fun i _ h => h⟩, ?_⟩)
    rw [bne_iff_ne]
    exact hr
  have pos : ∀ s, Cand t served s → s < 2 ^ mouths t ∧ 0 < (shr t f served s).den := fun s h => ⟨h.2.1, members_pos h.1 h.2.1⟩
  have h0 : LvInv t (shr t f served) (fun x => x = without t (everyone t) served) (shr t f served (without t (everyone t) served)) (without t (everyone t) served) :=
    ⟨⟨_, rfl, rfl⟩, fun s hs => by rw [hs]; exact fle_refl _, fun i => ⟨fun h => ⟨_, rfl, fle_refl _, h⟩, fun ⟨s, e, _, h⟩ => by rw [← e]; exact h⟩⟩
  have h1 := lv_fold ((subsets t (without t (everyone t) served)).filter fun s => s != 0) _ (shr t f served (without t (everyone t) served), without t (everyone t) served) h0 (fun d hd => by rw [hd]; exact pos _ hrc) fun s hs => pos s (cand_iff.mp hs)
  have e : (fun x => x = without t (everyone t) served ∨ x ∈ (subsets t (without t (everyone t) served)).filter fun s => s != 0) = Cand t served := by
    funext x
    rw [cand_iff]
    refine propext ⟨fun h => ?_, .inr⟩
    rcases h with h | h
    · rw [h]; exact hrc
    · exact h
  rw [e] at h1
  exact h1
/-- whoever finds the least share and all that have it has found the level -/
theorem level_unique {t : Table} {f : List Nat} {served : Nat} (hr : without t (everyone t) served ≠ 0) {q : Frac} {S : Nat} (h : LvInv t (shr t f served) (Cand t served) q S) : fle q (level t f served).1 ∧ fle (level t f served).1 q ∧ S = (level t f served).2 := by
  have h2 := level_inv (f := f) hr
  obtain ⟨a, ha, ea⟩ := h.some_
  obtain ⟨b, hb, eb⟩ := h2.some_
  have h3 : fle q (level t f served).1 := by rw [eb]; exact h.le b hb
  have h4 : fle (level t f served).1 q := by rw [ea]; exact h2.le a ha
  have pa : 0 < q.den := by rw [ea]; exact members_pos ha.1 ha.2.1
  have pb : 0 < (level t f served).1.den := by rw [eb]; exact members_pos hb.1 hb.2.1
  refine ⟨h3, h4, ?_⟩
  apply Nat.eq_of_testBit_eq
  intro i
  rw [Bool.eq_iff_iff, h.bits, h2.bits]
  exact ⟨fun ⟨s, h1, h5, h6⟩ => ⟨s, h1, fle_trans pa h5 h3, h6⟩, fun ⟨s, h1, h5, h6⟩ => ⟨s, h1, fle_trans pb h5 h4, h6⟩⟩
theorem lowest_same {a b : Frac} (ha : 0 < a.den) (hb : 0 < b.den) (h : a.num * b.den = b.num * a.den) : lowest a = lowest b := by
  have key : ∀ c : Frac, 0 < c.den → lowest c = { num := (mkRat (c.num : Int) c.den).num.toNat, den := (mkRat (c.num : Int) c.den).den } := by
    intro c hc
    have hg : 0 < Nat.gcd c.num c.den := Nat.gcd_pos_of_pos_right _ hc
    unfold lowest
    dsimp only
    rw [if_neg (by omega)]
    have hne : c.den ≠ 0 := by omega
    have e1 : (mkRat (c.num : Int) c.den).num = ((c.num / Nat.gcd c.num c.den : Nat) : Int) := by
      rw [Rat.num_mkRat, if_neg hne, Nat.gcd_comm]
      simp
    have e2 : (mkRat (c.num : Int) c.den).den = c.den / Nat.gcd c.num c.den := by
      rw [Rat.den_mkRat, if_neg hne, Nat.gcd_comm]
      simp
    rw [e1, e2, Int.toNat_natCast]
  have e : mkRat (a.num : Int) a.den = mkRat (b.num : Int) b.den := by
    rw [Rat.mkRat_eq_iff (by omega) (by omega)]
    exact_mod_cast h
  rw [key a ha, key b hb, e]
end Tbl
namespace Tbl
open Vbecaf
/-! ### whole units -/
def bump (x : List Nat) (i : Nat) : List Nat := x.set i (at_ x i + 1)
/-- of the mouths that may have one more, one with the least so far, the first -/
def NextIs (t : Table) (f x : List Nat) (n : Nat) (b : Option Nat) : Prop := match b with
  | none => ∀ i, i < n → feasible t f (bump x i) = false
  | some i => i < n ∧ feasible t f (bump x i) = true ∧ (∀ j, j < n → feasible t f (bump x j) = true → at_ x i ≤ at_ x j) ∧ ∀ j, j < i → feasible t f (bump x j) = true → at_ x i < at_ x j
theorem next_fold (t : Table) (f x : List Nat) : ∀ n, NextIs t f x n ((List.range n).foldl (fun (b : Option Nat) i =>
    if feasible t f (x.set i (at_ x i + 1)) = false then b else match b with
      | none => some i
      | some j => if at_ x i < at_ x j then some i else some j) none)
  | 0 => fun i h => by omega
  | n + 1 => by
    rw [List.range_succ, List.foldl_append, List.foldl_cons, List.foldl_nil]
    have ih := next_fold t f x n
    generalize (List.range n).foldl (fun (b : Option Nat) i =>
      if feasible t f (x.set i (at_ x i + 1)) = false then b else match b with
        | none => some i
        | some j => if at_ x i < at_ x j then some i else some j) none = b at ih
    by_cases c : feasible t f (x.set n (at_ x n + 1)) = false
    · rw [if_pos c]
      cases b with
      | none =>
        intro i hi
        by_cases e : i = n
        · rw [e]; exact c
        · exact ih i (by omega)
      | some k =>
        obtain ⟨h1, h2, h3, h4⟩ := ih
        refine ⟨by omega, h2, fun j hj hf => ?_, h4⟩
        by_cases e : j = n
        · rw [e] at hf
          exact (by rw [show feasible t f (bump x n) = false from c] at hf; cases hf)
        · exact h3 j (by omega) hf
    · rw [if_neg c]
      have c' : feasible t f (bump x n) = true := by
        cases h : feasible t f (bump x n) with
        | true => rfl
        | false => exact (c h).elim
      cases b with
      | none =>
        refine ⟨by omega, c', fun j hj hf => ?_, fun j hj hf => ?_⟩
        · by_cases e : j = n
          · rw [e]; exact Nat.le_refl _
          · rw [ih j (by omega)] at hf
            cases hf
        · rw [ih j hj] at hf
          cases hf
      | some k =>
        obtain ⟨h1, h2, h3, h4⟩ := ih
        by_cases d : at_ x n < at_ x k
        · show NextIs t f x (n + 1) (if at_ x n < at_ x k then some n else some k)
          rw [if_pos d]
          refine ⟨by omega, c', fun j hj hf => ?_, fun j hj hf => ?_⟩
          · by_cases e : j = n
            · rw [e]; exact Nat.le_refl _
            · have := h3 j (by omega) hf
              omega
          · have := h3 j hj hf
            omega
        · show NextIs t f x (n + 1) (if at_ x n < at_ x k then some n else some k)
          rw [if_neg d]
          refine ⟨by omega, h2, fun j hj hf => ?_, h4⟩
          by_cases e : j = n
          · rw [e]; omega
          · exact h3 j (by omega) hf
theorem next_is (t : Table) (f x : List Nat) : NextIs t f x (mouths t) (nextMouth t f x) := next_fold t f x _
theorem next_unique {t : Table} {f x : List Nat} {n : Nat} : ∀ {b c : Option Nat}, NextIs t f x n b → NextIs t f x n c → b = c
  | none, none, _, _ => rfl
  | none, some i, h, ⟨h1, h2, _⟩ => by rw [h i h1] at h2; cases h2
  | some i, none, ⟨h1, h2, _⟩, h => by rw [h i h1] at h2; cases h2
  | some i, some j, ⟨a1, a2, a3, a4⟩, ⟨b1, b2, b3, b4⟩ => by
    have h1 := a3 j b1 b2
    have h2 := b3 i a1 a2
    by_cases c : i = j
    · rw [c]
    · by_cases d : i < j
      · have := b4 i d a2
        omega
      · have := a4 j (by omega) b2
        omega
/-- units handed out, one by one -/
def Walks (t : Table) (f : List Nat) : Nat → List Nat → List Nat → Prop
  | 0, x, y => x = y
  | k + 1, x, y => ∃ i, nextMouth t f x = some i ∧ Walks t f k (bump x i) y
theorem walks_snoc {t : Table} {f : List Nat} : ∀ {k : Nat} {x y : List Nat} {i : Nat}, Walks t f k x y → nextMouth t f y = some i → Walks t f (k + 1) x (bump y i)
  | 0, x, y, i, h, hn => by
    have e : x = y := h
    rw [e]
    exact ⟨i, hn, rfl⟩
  | k + 1, x, y, i, ⟨j, h1, h2⟩, hn => ⟨j, h1, walks_snoc h2 hn⟩
theorem served_walk {t : Table} {f : List Nat} : ∀ {k : Nat} {x y : List Nat}, Walks t f k x y → nextMouth t f y = none → ∀ m, served t f (k + m) x = y
  | 0, x, y, h, hn, m => by
    have e : x = y := h
    rw [e]
    cases m with
    | zero => rfl
    | succ m =>
      rw [Nat.zero_add]
      unfold served
      rw [hn]
  | k + 1, x, y, ⟨i, h1, h2⟩, hn, m => by
    rw [show k + 1 + m = (k + m) + 1 by omega]
    unfold served
    rw [h1]
    exact served_walk h2 hn m
theorem bump_len {x : List Nat} {i : Nat} : (bump x i).length = x.length := List.length_set
theorem bump_sum {x : List Nat} {i : Nat} (h : i < x.length) : (bump x i).sum = x.sum + 1 := by
  unfold bump at_
  rw [List.getD_eq_getElem?_getD, List.getElem?_eq_getElem h]
  show (x.set i (x[i] + 1)).sum = x.sum + 1
  induction x generalizing i with
  | nil => cases h
  | cons a x ih =>
    cases i with
    | zero => simp [List.set_cons_zero, List.sum_cons]; omega
    | succ i =>
      rw [List.set_cons_succ, List.sum_cons, List.sum_cons]
      have := ih (i := i) (by simpa using h)
      simp only [List.getElem_cons_succ]
      omega
theorem sum_range_at : ∀ (x : List Nat), ((List.range x.length).map fun i => at_ x i).sum = x.sum := by
  intro x
  congr 1
  apply List.ext_getElem?
  intro i
  rw [List.getElem?_map]
  by_cases h : i < x.length
  · rw [List.getElem?_range h, List.getElem?_eq_getElem h]
    unfold at_
    rw [Option.map_some, List.getD_eq_getElem?_getD, List.getElem?_eq_getElem h]
    rfl
  · rw [List.getElem?_eq_none_iff.mpr (by rw [List.length_range]; omega), List.getElem?_eq_none_iff.mpr (by omega)]
    rfl
theorem walks_sum {t : Table} {f : List Nat} : ∀ {k : Nat} {x y : List Nat}, x.length = mouths t → Walks t f k x y → y.length = mouths t ∧ y.sum = x.sum + k ∧ (0 < k → feasible t f y = true)
  | 0, x, y, hx, h => by
    have e : x = y := h
    rw [← e]
    exact ⟨hx, by omega, fun h => by omega⟩
  | k + 1, x, y, hx, ⟨i, h1, h2⟩ => by
    have hn := next_is t f x
    rw [h1] at hn
    obtain ⟨n1, n2, _⟩ := hn
    have hx' : (bump x i).length = mouths t := by rw [bump_len]; exact hx
    obtain ⟨a, b, c⟩ := walks_sum hx' h2
    rw [bump_sum (by omega)] at b
    refine ⟨a, by omega, fun _ => ?_⟩
    cases k with
    | zero =>
      have e : bump x i = y := h2
      rw [← e]
      exact n2
    | succ k => exact c (by omega)
theorem feasible_total {t : Table} {x : List Nat} (hx : x.length = mouths t) (h : feasible t (mosts t) x = true) : x.sum ≤ at_ (mosts t) (everyone t) := by
  have := feasible_iff.mp h (everyone t) (everyone_lt t)
  unfold sumOf at this
  rw [members_everyone, ← hx, sum_range_at] at this
  rw [at_mosts (everyone_lt t)]
  exact this
/-- whoever hands out till nobody may have more has the whole shares -/
theorem wholes_eq {t : Table} {k : Nat} {y : List Nat} (h : Walks t (mosts t) k (List.replicate (mouths t) 0) y) (hn : nextMouth t (mosts t) y = none) : wholes t = y := by
  obtain ⟨h1, h2, h3⟩ := walks_sum (by rw [List.length_replicate]) h
  have hk : k ≤ at_ (mosts t) (everyone t) := by
    by_cases c : 0 < k
    · have := feasible_total h1 (h3 c)
      rw [h2] at this
      simp at this
      omega
    · omega
  unfold wholes
  dsimp only
  have := served_walk h hn (at_ (mosts t) (everyone t) - k)
  rw [show k + (at_ (mosts t) (everyone t) - k) = at_ (mosts t) (everyone t) by omega] at this
  exact this
/-! ### levels, one behind the other -/
theorem rest_zero {t : Table} {served : Nat} (hs : served < 2 ^ mouths t) : without t (everyone t) served = 0 ↔ served = everyone t := by
  constructor
  · intro h
    apply Nat.eq_of_testBit_eq
    intro i
    have hb : (without t (everyone t) served).testBit i = false := by rw [h]; simp
    rw [bit_without, bit_everyone] at hb
    rw [bit_everyone]
    by_cases hi : i < mouths t
    · simp [hi] at hb
      simp [hi, hb]
    · have : served.testBit i = false := by
        cases e : served.testBit i with
        | false => rfl
        | true => exact (hi (bit_lt hs e)).elim
      simp [hi, this]
  · intro h
    apply Nat.eq_of_testBit_eq
    intro i
    rw [bit_without, h, bit_everyone]
    simp
/-- the levels by their own rule: each serves at least one more -/
theorem levels_cons {t : Table} {f : List Nat} {k served : Nat} (h : served ≠ everyone t) : levels t f (k + 1) served = (lowest (level t f served).1, (level t f served).2) :: levels t f k (both t served (level t f served).2) := by
  show (if served = everyone t then [] else _) = _
  rw [if_neg h]
theorem levels_end {t : Table} {f : List Nat} : ∀ {k : Nat}, levels t f k (everyone t) = []
  | 0 => rfl
  | k + 1 => by
    show (if everyone t = everyone t then [] else _) = _
    rw [if_pos rfl]
end Tbl
namespace Tbl
open Vbecaf
def unserved (t : Table) (served : Nat) : Nat := (members t (without t (everyone t) served)).length
theorem mem_unserved {t : Table} {served i : Nat} : i ∈ members t (without t (everyone t) served) ↔ i < mouths t ∧ served.testBit i = false := by
  rw [mem_members, bit_without, bit_everyone]
  constructor
  · rintro ⟨h1, h2⟩
    simp only [Bool.and_eq_true, Bool.not_eq_true', decide_eq_true_eq] at h2
    exact ⟨h1, h2.2.2⟩
  · rintro ⟨h1, h2⟩
    exact ⟨h1, by simp [h1, h2]⟩
/-- a level is of those that aren't served, and not empty -/
theorem level_set {t : Table} {f : List Nat} {served : Nat} (hs : served < 2 ^ mouths t) (hne : served ≠ everyone t) : (∀ i, (level t f served).2.testBit i = true → i < mouths t ∧ served.testBit i = false) ∧ ∃ i, (level t f served).2.testBit i = true := by
  have hr : without t (everyone t) served ≠ 0 := fun h => hne ((rest_zero hs).mp h)
  have h := level_inv (f := f) hr
  constructor
  · intro i hi
    obtain ⟨s, hc, _, hb⟩ := (h.bits i).mp hi
    exact ⟨bit_lt hc.2.1 hb, hc.2.2 i hb⟩
  · obtain ⟨s, hc, e⟩ := h.some_
    obtain ⟨i, hi⟩ := Nat.exists_testBit_of_ne_zero hc.1
    exact ⟨i, (h.bits i).mpr ⟨s, hc, by rw [e]; exact fle_refl _, hi⟩⟩
theorem unserved_lt {t : Table} {f : List Nat} {served : Nat} (hs : served < 2 ^ mouths t) (hne : served ≠ everyone t) : unserved t (both t served (level t f served).2) < unserved t served := by
  obtain ⟨h1, i, hi⟩ := level_set (f := f) hs hne
  have e : members t (without t (everyone t) (both t served (level t f served).2)) = (members t (without t (everyone t) served)).filter fun j => !(level t f served).2.testBit j := by
    refine up_ext (members_up _ _) (up_filter _ (members_up _ _)) fun j => ?_
    rw [mem_unserved, List.mem_filter, mem_unserved, bit_both]
    by_cases hj : j < mouths t <;> simp [hj]
  unfold unserved
  rw [e]
  rw [List.length_filter_lt_length_iff_exists]
  exact ⟨i, mem_unserved.mpr (h1 i hi), by rw [hi]; simp⟩
theorem unserved_le (t : Table) (served : Nat) : unserved t served ≤ mouths t := up_len (members_up _ _) _ fun i hi => (mem_members.mp hi).1
theorem unserved_zero {t : Table} {served : Nat} (hs : served < 2 ^ mouths t) (h : unserved t served = 0) : served = everyone t := by
  rw [← rest_zero hs]
  have hnil : members t (without t (everyone t) served) = [] := List.eq_nil_of_length_eq_zero h
  have := setOf_members (without_lt t (everyone t) served)
  rw [hnil] at this
  exact this.symm
/-- what the loop over levels keeps: those found, and what the specification says of the rest -/
structure Lvs (t : Table) (acc : List (Frac × Nat)) (served : Nat) : Prop where
  lt : served < 2 ^ mouths t
  ex : ∃ k, acc ++ levels t (mosts t) k served = allLevels t ∧ unserved t served ≤ k
theorem lvs_start (t : Table) : Lvs t [] 0 := ⟨Nat.two_pow_pos _, mouths t, rfl, unserved_le t 0⟩
theorem lvs_step {t : Table} {acc : List (Frac × Nat)} {served : Nat} (h : Lvs t acc served) (hne : served ≠ everyone t) : Lvs t (acc ++ [(lowest (level t (mosts t) served).1, (level t (mosts t) served).2)]) (both t served (level t (mosts t) served).2) := by
  obtain ⟨k, e, hk⟩ := h.ex
  have hlt := unserved_lt (f := mosts t) h.lt hne
  cases k with
  | zero => omega
  | succ k =>
    rw [levels_cons hne] at e
    exact ⟨both_lt _ _ _, k, by rw [List.append_assoc]; exact e, by omega⟩
theorem lvs_end {t : Table} {acc : List (Frac × Nat)} (h : Lvs t acc (everyone t)) : allLevels t = acc := by
  obtain ⟨k, e, _⟩ := h.ex
  rw [levels_end, List.append_nil] at e
  exact e.symm
/-- all levels are told apart by whom they serve -/
theorem levels_apart {t : Table} {f : List Nat} : ∀ (k served : Nat), served < 2 ^ mouths t → ∀ x ∈ levels t f k served, ∀ i, x.2.testBit i = true → i < mouths t ∧ served.testBit i = false
  | 0, _, _, x, hx => by cases hx
  | k + 1, served, hs, x, hx => by
    by_cases h : served = everyone t
    · rw [h, levels_end] at hx
      cases hx
    · rw [levels_cons h] at hx
      rcases List.mem_cons.mp hx with e | hx
      · rw [e]
        exact (level_set hs h).1
      · intro i hi
        have := levels_apart k _ (both_lt _ _ _) x hx i hi
        rw [bit_both] at this
        refine ⟨this.1, ?_⟩
        have h2 := this.2
        simp only [this.1, decide_true, Bool.true_and, Bool.or_eq_false_iff] at h2
        exact h2.1
end Tbl
set_option linter.all false
namespace Tbl
open Vbecaf
/-! ### weights of sets, modular -/
def wt (n : Nat) (w : Nat → Nat) (s : Nat) : Nat := ((List.range n).map fun i => if s.testBit i = true then w i else 0).sum
theorem wt_members {t : Table} {w : Nat → Nat} {s : Nat} : ((members t s).map w).sum = wt (mouths t) w s := by
  unfold wt members
  rw [sum_filter]
  congr 3
  funext i
  exact has_bit s i
theorem sum_pt4 {f g h k : Nat → Nat} : ∀ (l : List Nat), (∀ i ∈ l, f i + g i = h i + k i) → (l.map f).sum + (l.map g).sum = (l.map h).sum + (l.map k).sum
  | [], _ => rfl
  | x :: l, e => by
    have := sum_pt4 l fun i hi => e i (by simp [hi])
    have := e x (by simp)
    simp only [List.map_cons, List.sum_cons]
    omega
theorem sum_le4 {f g h k : Nat → Nat} : ∀ (l : List Nat), (∀ i ∈ l, f i + g i ≤ h i + k i) → (l.map f).sum + (l.map g).sum ≤ (l.map h).sum + (l.map k).sum
  | [], _ => Nat.le_refl _
  | x :: l, e => by
    have := sum_le4 l fun i hi => e i (by simp [hi])
    have := e x (by simp)
    simp only [List.map_cons, List.sum_cons]
    omega
theorem sum_le2 {f g : Nat → Nat} : ∀ (l : List Nat), (∀ i ∈ l, f i ≤ g i) → (l.map f).sum ≤ (l.map g).sum
  | [], _ => Nat.le_refl _
  | x :: l, e => by
    have := sum_le2 l fun i hi => e i (by simp [hi])
    have := e x (by simp)
    simp only [List.map_cons, List.sum_cons]
    omega
theorem wt_mod (n : Nat) (w : Nat → Nat) (a b : Nat) : wt n w (a ||| b) + wt n w (a &&& b) = wt n w a + wt n w b :=
  sum_pt4 _ fun i _ => by
    rw [Nat.testBit_or, Nat.testBit_and]
    cases a.testBit i <;> cases b.testBit i <;> simp
/-- a set within another -/
def Sub (a b : Nat) : Prop := ∀ i, a.testBit i = true → b.testBit i = true
theorem wt_mono {n : Nat} {w : Nat → Nat} {a b : Nat} (h : Sub a b) : wt n w a ≤ wt n w b := sum_le2 _ fun i _ => by
  cases e : a.testBit i with
  | true => rw [h i e]; exact Nat.le_refl _
  | false => simp
theorem wt_zero (n : Nat) (w : Nat → Nat) : wt n w 0 = 0 := by
  unfold wt
  rw [List.sum_eq_zero_iff_forall_eq_nat]
  intro x hx
  obtain ⟨i, _, rfl⟩ := List.mem_map.mp hx
  simp
theorem wt_join {n : Nat} {w : Nat → Nat} {a b : Nat} (h : a &&& b = 0) : wt n w (a ||| b) = wt n w a + wt n w b := by
  have := wt_mod n w a b
  rw [h, wt_zero] at this
  omega
theorem and_zero {a b : Nat} (h : ∀ i, a.testBit i = true → b.testBit i = false) : a &&& b = 0 := by
  apply Nat.eq_of_testBit_eq
  intro i
  rw [Nat.testBit_and, Nat.zero_testBit]
  cases e : a.testBit i with
  | true => rw [h i e]; rfl
  | false => rfl
/-- a set is the sum of its powers -/
theorem wt_pow {n : Nat} {s : Nat} (hs : s < 2 ^ n) : wt n (fun i => 2 ^ i) s = s := by
  have e : wt n (fun i => 2 ^ i) s = setOf ((List.range n).filter fun i => s.testBit i) := by
    unfold wt setOf
    rw [sum_filter]
  rw [e]
  exact setOf_bits (up_filter _ (up_range _)) hs (fun i h => List.mem_range.mp (List.mem_filter.mp h).1) fun i hi => by
    rw [List.mem_filter, List.mem_range]
    exact ⟨fun h => h.2, fun h => ⟨hi, h⟩⟩
theorem or_add {n a b : Nat} (ha : a < 2 ^ n) (hb : b < 2 ^ n) (h : a &&& b = 0) : a ||| b = a + b := by
  have := wt_join (n := n) (w := fun i => 2 ^ i) h
  rw [wt_pow ha, wt_pow hb, wt_pow (Nat.or_lt_two_pow ha hb)] at this
  exact this
theorem sumOf_wt {t : Table} {x : List Nat} {s : Nat} : sumOf t x s = wt (mouths t) (at_ x) s := wt_members
theorem app_wt {t : Table} {s : Nat} : appetiteOf t s = wt (mouths t) (at_ t.appetites) s := wt_members
theorem count_wt {t : Table} {s : Nat} : (members t s).length = wt (mouths t) (fun _ => 1) s := by
  rw [← wt_members]
  induction members t s with
  | nil => rfl
  | cons a l ih => rw [List.map_cons, List.sum_cons, ← ih, List.length_cons]; omega
/-! ### food, submodular -/
theorem food_ite {t : Table} {s : Nat} : foodOf t s = ((List.range t.food.length).map fun c => if ((members t s).any fun i => (t.reach.getD i []).contains c) = true then at_ t.food c else 0).sum := rfl
theorem any_or {t : Table} {a b : Nat} (p : Nat → Bool) : (members t (a ||| b)).any p = ((members t a).any p || (members t b).any p) := by
  rw [Bool.eq_iff_iff, Bool.or_eq_true]
  simp only [List.any_eq_true, mem_members, Nat.testBit_or, Bool.or_eq_true]
  constructor
  · rintro ⟨i, ⟨h1, h2 | h2⟩, h3⟩
    · exact .inl ⟨i, ⟨h1, h2⟩, h3⟩
    · exact .inr ⟨i, ⟨h1, h2⟩, h3⟩
  · rintro (⟨i, ⟨h1, h2⟩, h3⟩ | ⟨i, ⟨h1, h2⟩, h3⟩)
    · exact ⟨i, ⟨h1, .inl h2⟩, h3⟩
    · exact ⟨i, ⟨h1, .inr h2⟩, h3⟩
theorem any_sub {t : Table} {a b : Nat} {p : Nat → Bool} (h : Sub a b) (e : (members t a).any p = true) : (members t b).any p = true := by
  simp only [List.any_eq_true, mem_members] at e ⊢
  obtain ⟨i, ⟨h1, h2⟩, h3⟩ := e
  exact ⟨i, ⟨h1, h i h2⟩, h3⟩
theorem sub_and_left {a b : Nat} : Sub (a &&& b) a := fun i h => by
  rw [Nat.testBit_and, Bool.and_eq_true] at h
  exact h.1
theorem sub_and_right {a b : Nat} : Sub (a &&& b) b := fun i h => by
  rw [Nat.testBit_and, Bool.and_eq_true] at h
  exact h.2
theorem sub_or_left {a b : Nat} : Sub a (a ||| b) := fun i h => by rw [Nat.testBit_or, h]; rfl
theorem sub_or_right {a b : Nat} : Sub b (a ||| b) := fun i h => by rw [Nat.testBit_or, h, Bool.or_true]
theorem food_mono {t : Table} {a b : Nat} (h : Sub a b) : foodOf t a ≤ foodOf t b := by
  rw [food_ite, food_ite]
  refine sum_le2 _ fun c _ => ?_
  by_cases e : ((members t a).any fun i => (t.reach.getD i []).contains c) = true
  · rw [if_pos e, if_pos (any_sub h e)]
    exact Nat.le_refl _
  · rw [if_neg e]
    exact Nat.zero_le _
theorem food_sub (t : Table) (a b : Nat) : foodOf t (a ||| b) + foodOf t (a &&& b) ≤ foodOf t a + foodOf t b := by
  rw [food_ite, food_ite, food_ite, food_ite]
  refine sum_le4 _ fun c _ => ?_
  have h1 := any_or (t := t) (a := a) (b := b) fun i => (t.reach.getD i []).contains c
  have h2 := fun e => any_sub (t := t) (p := fun i => (t.reach.getD i []).contains c) (sub_and_left (a := a) (b := b)) e
  have h3 := fun e => any_sub (t := t) (p := fun i => (t.reach.getD i []).contains c) (sub_and_right (a := a) (b := b)) e
  rw [h1]
  generalize ((members t a).any fun i => (t.reach.getD i []).contains c) = x at *
  generalize ((members t b).any fun i => (t.reach.getD i []).contains c) = y at *
  generalize ((members t (a &&& b)).any fun i => (t.reach.getD i []).contains c) = z at *
  cases x <;> cases y <;> cases z <;> simp at h2 h3 ⊢
/-! ### the most: its recursion, monotone, submodular -/
abbrev Mo (t : Table) (s : Nat) : Nat := mostOf t (sums t) s
theorem mem_subs {t : Table} {a s : Nat} (hs : s < 2 ^ mouths t) : a ∈ subsets t s ↔ Sub a s := by
  rw [mem_subsets]
  constructor
  · rintro ⟨h1, h2⟩ i hi
    exact h2 i (bit_lt h1 hi) hi
  · intro h
    refine ⟨?_, fun i _ hi => h i hi⟩
    by_cases c : a < 2 ^ mouths t
    · exact c
    · obtain ⟨i, hi, hb⟩ := Nat.exists_ge_and_testBit_of_ge_two_pow (Nat.le_of_not_lt c)
      have := bit_lt hs (h i hb)
      omega
theorem sub_lt {a s n : Nat} (hs : s < 2 ^ n) (h : Sub a s) : a < 2 ^ n := by
  by_cases c : a < 2 ^ n
  · exact c
  · obtain ⟨i, hi, hb⟩ := Nat.exists_ge_and_testBit_of_ge_two_pow (Nat.le_of_not_lt c)
    have := bit_lt hs (h i hb)
    omega
theorem mo_le {t : Table} {a s : Nat} (hs : s < 2 ^ mouths t) (h : Sub a s) : Mo t s ≤ foodOf t a + (appetiteOf t s - appetiteOf t a) := by
  have := mostOf_le ((mem_subs hs).mpr h)
  rw [bound_sums hs (sub_lt hs h)] at this
  exact this
theorem mo_eq {t : Table} {s : Nat} (hs : s < 2 ^ mouths t) : ∃ a, Sub a s ∧ Mo t s = foodOf t a + (appetiteOf t s - appetiteOf t a) := by
  obtain ⟨a, ha, e⟩ := mostOf_eq (t := t) hs
  have h := (mem_subs hs).mp ha
  rw [bound_sums hs (sub_lt hs h)] at e
  exact ⟨a, h, e⟩
theorem app_mono {t : Table} {a b : Nat} (h : Sub a b) : appetiteOf t a ≤ appetiteOf t b := by
  rw [app_wt, app_wt]; exact wt_mono h
theorem app_mod (t : Table) (a b : Nat) : appetiteOf t (a ||| b) + appetiteOf t (a &&& b) = appetiteOf t a + appetiteOf t b := by
  rw [app_wt, app_wt, app_wt, app_wt]; exact wt_mod _ _ _ _
theorem or_sub {a b c : Nat} (h1 : Sub a c) (h2 : Sub b c) : Sub (a ||| b) c := fun i h => by
  rw [Nat.testBit_or, Bool.or_eq_true] at h
  exact h.elim (h1 i) (h2 i)
theorem mo_mono {t : Table} {a b : Nat} (hb : b < 2 ^ mouths t) (h : Sub a b) : Mo t a ≤ Mo t b := by
  obtain ⟨c, hc, e⟩ := mo_eq hb
  have h1 := mo_le (sub_lt hb h) (sub_and_left (a := a) (b := c))
  have h2 := food_mono (t := t) (sub_and_right (a := a) (b := c))
  have h3 := app_mod t a c
  have h4 := app_mono (t := t) (or_sub h hc)
  have h5 := app_mono (t := t) (sub_and_left (a := a) (b := c))
  have h6 := app_mono (t := t) hc
  omega
theorem mo_sub {t : Table} {A B : Nat} (hA : A < 2 ^ mouths t) (hB : B < 2 ^ mouths t) : Mo t (A ||| B) + Mo t (A &&& B) ≤ Mo t A + Mo t B := by
  obtain ⟨a, ha, ea⟩ := mo_eq hA
  obtain ⟨b, hb, eb⟩ := mo_eq hB
  have hor : Sub (a ||| b) (A ||| B) := or_sub (fun i h => sub_or_left i (ha i h)) (fun i h => sub_or_right i (hb i h))
  have hand : Sub (a &&& b) (A &&& B) := fun i h => by
    rw [Nat.testBit_and, Bool.and_eq_true] at h ⊢
    exact ⟨ha i h.1, hb i h.2⟩
  have h1 := mo_le (Nat.or_lt_two_pow hA hB) hor
  have h2 := mo_le (sub_lt hA sub_and_left) hand
  have h3 := food_sub t a b
  have h4 := app_mod t a b
  have h5 := app_mod t A B
  have h6 := app_mono (t := t) hor
  have h7 := app_mono (t := t) hand
  have h8 := app_mono (t := t) ha
  have h9 := app_mono (t := t) hb
  omega
/-- one mouth taken out -/
theorem bit_minus {s i : Nat} (h : s.testBit i = true) : ∀ j, (s - 2 ^ i).testBit j = (s.testBit j && decide (j ≠ i)) := by
  obtain ⟨n, hs⟩ : ∃ n, s < 2 ^ n := ⟨s, Nat.lt_two_pow_self⟩
  have hi := bit_lt hs h
  have h2 : 2 ^ i < 2 ^ n := Nat.pow_lt_pow_right (by decide) hi
  have hx : s ^^^ 2 ^ i < 2 ^ n := Nat.xor_lt_two_pow hs h2
  have hb : ∀ j, (s ^^^ 2 ^ i).testBit j = (s.testBit j && decide (j ≠ i)) := fun j => by
    rw [Nat.testBit_xor, Nat.testBit_two_pow]
    by_cases e : j = i
    · subst e; simp [h]
    · simp [e, Ne.symm e]
  have h0 : (s ^^^ 2 ^ i) &&& 2 ^ i = 0 := and_zero fun j hj => by
    rw [hb, Bool.and_eq_true, decide_eq_true_eq] at hj
    rw [Nat.testBit_two_pow, decide_eq_false_iff_not]
    exact fun e => hj.2 e.symm
  have e : (s ^^^ 2 ^ i) ||| 2 ^ i = s := by
    apply Nat.eq_of_testBit_eq
    intro j
    rw [Nat.testBit_or, hb, Nat.testBit_two_pow]
    by_cases e : j = i
    · subst e; simp [h]
    · simp [e, Ne.symm e]
  have ea := or_add hx h2 h0
  rw [e] at ea
  intro j
  rw [show s - 2 ^ i = s ^^^ 2 ^ i by omega, hb]
theorem minus_sub {s i : Nat} (h : s.testBit i = true) : Sub (s - 2 ^ i) s := fun j hj => by
  rw [bit_minus h, Bool.and_eq_true] at hj
  exact hj.1
theorem wt_minus {n : Nat} {w : Nat → Nat} {s i : Nat} (hi : i < n) (h : s.testBit i = true) : wt n w s = wt n w (s - 2 ^ i) + w i := by
  have h0 : (s - 2 ^ i) &&& 2 ^ i = 0 := and_zero fun j hj => by
    rw [bit_minus h, Bool.and_eq_true, decide_eq_true_eq] at hj
    rw [Nat.testBit_two_pow, decide_eq_false_iff_not]
    exact fun e => hj.2 e.symm
  have e : (s - 2 ^ i) ||| 2 ^ i = s := by
    apply Nat.eq_of_testBit_eq
    intro j
    rw [Nat.testBit_or, bit_minus h, Nat.testBit_two_pow]
    by_cases e : j = i
    · subst e; simp [h]
    · simp [e, Ne.symm e]
  have := wt_join (n := n) (w := w) h0
  rw [e] at this
  rw [this]
  congr 1
  unfold wt
  have e2 : ((List.range n).map fun j => if (2 ^ i).testBit j = true then w j else 0) = ((List.range n).map fun j => if decide (j = i) = true then w j else 0) := by
    apply List.map_congr_left
    intro j _
    rw [Nat.testBit_two_pow]
    by_cases c : j = i
    · simp [c]
    · simp [c, Ne.symm c]
  rw [e2, sum_filter]
  have e3 : (List.range n).filter (fun j => decide (j = i)) = [i] := up_ext (up_filter _ (up_range _)) (by simp [Up]) fun j => by
    simp only [List.mem_filter, List.mem_range, decide_eq_true_eq, List.mem_singleton]
    exact ⟨fun h => h.2, fun h => ⟨by omega, h⟩⟩
  rw [e3]
  simp
theorem minus_lt {s i : Nat} (h : s.testBit i = true) : s - 2 ^ i < s := by
  have : 2 ^ i ≤ s := Nat.ge_two_pow_of_testBit h
  have := Nat.two_pow_pos i
  omega
/-- what the most of a set is, by those of the sets with one less -/
theorem mo_food {t : Table} {s : Nat} (hs : s < 2 ^ mouths t) : Mo t s ≤ foodOf t s := by
  have := mo_le hs (a := s) fun i h => h
  omega
theorem mo_drop {t : Table} {s i : Nat} (hs : s < 2 ^ mouths t) (h : s.testBit i = true) : Mo t s ≤ Mo t (s - 2 ^ i) + at_ t.appetites i := by
  have hs' := sub_lt hs (minus_sub h)
  obtain ⟨a, ha, e⟩ := mo_eq hs'
  have h1 := mo_le hs (a := a) fun j hj => minus_sub h j (ha j hj)
  have h2 := app_mono (t := t) ha
  have h3 : appetiteOf t s = appetiteOf t (s - 2 ^ i) + at_ t.appetites i := by
    rw [app_wt, app_wt]
    exact wt_minus (bit_lt hs h) h
  omega
theorem mo_or {t : Table} {s : Nat} (hs : s < 2 ^ mouths t) : Mo t s = foodOf t s ∨ ∃ i, s.testBit i = true ∧ Mo t (s - 2 ^ i) + at_ t.appetites i ≤ Mo t s := by
  obtain ⟨a, ha, e⟩ := mo_eq hs
  by_cases c : Sub s a
  · left
    have ea : a = s := by
      apply Nat.eq_of_testBit_eq
      intro i
      rw [Bool.eq_iff_iff]
      exact ⟨ha i, c i⟩
    rw [ea] at e
    omega
  · right
    have : ∃ i, s.testBit i = true ∧ a.testBit i = false := by
      apply Classical.byContradiction
      intro z
      apply c
      intro i hi
      cases q : a.testBit i with
      | true => rfl
      | false => exact (z ⟨i, hi, q⟩).elim
    obtain ⟨i, hi, hai⟩ := this
    refine ⟨i, hi, ?_⟩
    have hsub : Sub a (s - 2 ^ i) := fun j hj => by
      rw [bit_minus hi, Bool.and_eq_true, decide_eq_true_eq]
      exact ⟨ha j hj, fun z => by rw [z, hai] at hj; cases hj⟩
    have h1 := mo_le (sub_lt hs (minus_sub hi)) hsub
    have h2 := app_mono (t := t) hsub
    have h3 : appetiteOf t s = appetiteOf t (s - 2 ^ i) + at_ t.appetites i := by
      rw [app_wt, app_wt]
      exact wt_minus (bit_lt hs hi) hi
    omega
/-- the least of these -/
theorem mo_least {t : Table} {s : Nat} (hs : s < 2 ^ mouths t) {m : Int}
    (hm : m ∈ [((foodL t (members t s) : Nat) : Int)] ++ (members t s).map fun i => ((Mo t (s - 2 ^ i) + at_ t.appetites i : Nat) : Int))
    (hle : ∀ y ∈ [((foodL t (members t s) : Nat) : Int)] ++ (members t s).map fun i => ((Mo t (s - 2 ^ i) + at_ t.appetites i : Nat) : Int), m ≤ y) : m = ((Mo t s : Nat) : Int) := by
  have ef : foodL t (members t s) = foodOf t s := rfl
  have h1 : ((Mo t s : Nat) : Int) ≤ m := by
    rcases List.mem_append.mp hm with h | h
    · rw [List.mem_singleton.mp h, ef]
      have := mo_food (t := t) hs
      omega
    · obtain ⟨i, hi, rfl⟩ := List.mem_map.mp h
      have := mo_drop hs (mem_members.mp hi).2
      omega
  have h2 : m ≤ ((Mo t s : Nat) : Int) := by
    rcases mo_or (t := t) hs with h | ⟨i, hi, h⟩
    · have := hle ((foodL t (members t s) : Nat) : Int) (by simp)
      rw [ef] at this
      omega
    · have := hle _ (List.mem_append.mpr (.inr (List.mem_map.mpr ⟨i, mem_members.mpr ⟨bit_lt hs hi, hi⟩, rfl⟩)))
      omega
  omega
end Tbl
set_option linter.all false
namespace Tbl
open Vbecaf
/-! ### all sets in the order of their numbers -/
theorem range_two (n : Nat) : List.range (2 ^ (n + 1)) = List.range (2 ^ n) ++ (List.range (2 ^ n)).map (fun k => 2 ^ n + k) := by
  rw [Nat.pow_succ, Nat.mul_two, List.range_add]
theorem has_low {n k i : Nat} (hi : i < n) : has (2 ^ n + k) i = has k i := by
  rw [has_bit, has_bit, Nat.testBit_two_pow_add_gt hi]
theorem has_high {n k : Nat} (hk : k < 2 ^ n) : has (2 ^ n + k) n = true := by
  rw [has_bit, Nat.testBit_two_pow_add_eq, Nat.testBit_lt_two_pow hk]
  rfl
theorem has_none {n k : Nat} (hk : k < 2 ^ n) : has k n = false := by
  rw [has_bit, Nat.testBit_lt_two_pow hk]
def memN (n k : Nat) : List Nat := (List.range n).filter fun i => has k i
theorem memN_low {n k : Nat} (hk : k < 2 ^ n) : memN (n + 1) k = memN n k := by
  unfold memN
  rw [List.range_succ, List.filter_append, List.filter_cons, if_neg (by rw [has_none hk]; decide)]
  simp
theorem memN_high {n k : Nat} (hk : k < 2 ^ n) : memN (n + 1) (2 ^ n + k) = memN n k ++ [n] := by
  unfold memN
  rw [List.range_succ, List.filter_append, List.filter_cons, if_pos (has_high hk)]
  congr 1
  apply List.filter_congr
  intro i hi
  exact has_low (List.mem_range.mp hi)
theorem chs_range : ∀ n, chs (List.range n) = (List.range (2 ^ n)).map (memN n)
  | 0 => rfl
  | n + 1 => by
    rw [List.range_succ, chs_snoc, chs_range n, range_two, List.map_append, List.map_map, List.map_map]
    congr 1
    · apply List.map_congr_left
      intro k hk
      exact (memN_low (List.mem_range.mp hk)).symm
    · apply List.map_congr_left
      intro k hk
      exact (memN_high (List.mem_range.mp hk)).symm
theorem chs_members (t : Table) : chs (List.range (mouths t)) = (List.range (2 ^ mouths t)).map (members t) := chs_range _
/-- the sums of all sets -/
def sums2 (xs : List Nat) : List Nat := xs.foldl (fun ss x => ss ++ ss.map fun a => a + x) [0]
theorem sums2_snoc (xs : List Nat) (x : Nat) : sums2 (xs ++ [x]) = sums2 xs ++ (sums2 xs).map fun a => a + x := by
  unfold sums2
  rw [List.foldl_append]
  rfl
theorem sums2_len : ∀ (n : Nat) (xs : List Nat), xs.length = n → (sums2 xs).length = 2 ^ n
  | 0, xs, h => by rw [List.length_eq_zero_iff.mp h]; rfl
  | n + 1, xs, h => by
    have hne : xs ≠ [] := by intro e; rw [e] at h; cases h
    rw [← List.dropLast_concat_getLast hne, sums2_snoc, List.length_append, List.length_map, sums2_len n xs.dropLast (by rw [List.length_dropLast, h]; rfl), Nat.pow_succ]
    omega
theorem at_left {xs ys : List Nat} {i : Nat} (h : i < xs.length) : at_ (xs ++ ys) i = at_ xs i := by
  unfold at_
  rw [List.getD_eq_getElem?_getD, List.getD_eq_getElem?_getD, List.getElem?_append_left h]
theorem at_snoc {xs : List Nat} {x : Nat} : at_ (xs ++ [x]) xs.length = x := by
  unfold at_
  rw [List.getD_eq_getElem?_getD, List.getElem?_append_right (Nat.le_refl _)]
  simp
theorem sums2_eq : ∀ (n : Nat) (xs : List Nat), xs.length = n → sums2 xs = (List.range (2 ^ n)).map fun k => ((memN n k).map (at_ xs)).sum
  | 0, xs, h => by rw [List.length_eq_zero_iff.mp h]; rfl
  | n + 1, xs, h => by
    have hne : xs ≠ [] := by intro e; rw [e] at h; cases h
    have hl : xs.dropLast.length = n := by rw [List.length_dropLast, h]; rfl
    rw [← List.dropLast_concat_getLast hne, sums2_snoc, sums2_eq n _ hl, range_two, List.map_append, List.map_map, List.map_map]
    have key : ∀ k, ((memN n k).map (at_ (xs.dropLast ++ [xs.getLast hne]))).sum = ((memN n k).map (at_ xs.dropLast)).sum := fun k => by
      congr 1
      apply List.map_congr_left
      intro i hi
      exact at_left (by rw [hl]; exact List.mem_range.mp (List.mem_filter.mp hi).1)
    congr 1
    · apply List.map_congr_left
      intro k hk
      rw [memN_low (List.mem_range.mp hk), key]
    · apply List.map_congr_left
      intro k hk
      show _ = ((memN (n + 1) (2 ^ n + k)).map _).sum
      rw [memN_high (List.mem_range.mp hk), List.map_append, List.sum_append, key]
      have e := at_snoc (xs := xs.dropLast) (x := xs.getLast hne)
      rw [hl] at e
      show _ = _ + ([at_ _ n]).sum
      rw [e]
      simp
theorem sums2_sumOf {t : Table} {x : List Nat} (h : x.length = mouths t) : sums2 x = (List.range (2 ^ mouths t)).map (sumOf t x) := sums2_eq _ x h
theorem mosts_eq (t : Table) : mosts t = (List.range (2 ^ mouths t)).map (Mo t) := rfl
theorem get_range {f : Nat → Nat} {N k : Nat} (h : k < N) : ((List.range N).map f)[k]? = some (f k) := by
  rw [List.getElem?_map, List.getElem?_range h]
  rfl
/-! ### the next level: of the sets behind those done the one with the least share, of these the greatest -/
/-- a set that holds those done and more -/
def Beh (t : Table) (D s : Nat) : Prop := s < 2 ^ mouths t ∧ Sub D s ∧ s ≠ D
def am (t : Table) (D s : Nat) : Nat := Mo t s - Mo t D
def cn (t : Table) (D s : Nat) : Nat := (members t s).length - (members t D).length
/-- the program's comparison -/
def aheadN (a c b d : Nat) : Bool := decide (a * d < b * c) || (decide (a * d = b * c) && decide (d < c))
structure BestOf (t : Table) (D b : Nat) (P : Nat → Prop) : Prop where
  beh : Beh t D b
  best : ∀ s, Beh t D s → P s → aheadN (am t D s) (cn t D s) (am t D b) (cn t D b) = false
theorem ahead_false {a c b d : Nat} (h : aheadN a c b d = false) : b * c ≤ a * d ∧ (a * d ≤ b * c → c ≤ d) := by
  unfold aheadN at h
  rw [Bool.or_eq_false_iff, decide_eq_false_iff_not, Bool.and_eq_false_iff, decide_eq_false_iff_not, decide_eq_false_iff_not] at h
  refine ⟨by omega, fun q => ?_⟩
  rcases h.2 with h2 | h2
  · omega
  · omega
theorem ahead_true {a c b d : Nat} (h : aheadN a c b d = true) : a * d ≤ b * c ∧ (a * d = b * c → d < c) := by
  unfold aheadN at h
  rw [Bool.or_eq_true, decide_eq_true_eq, Bool.and_eq_true, decide_eq_true_eq, decide_eq_true_eq] at h
  rcases h with h | h
  · exact ⟨by omega, fun e => by omega⟩
  · exact ⟨by omega, fun _ => h.2⟩
/-- not ahead of one is not ahead of one that is ahead -/
theorem ahead_trans {a c b d e f : Nat} (hc : 0 < c) (hd : 0 < d) (hf : 0 < f) (h1 : aheadN a c b d = false) (h2 : aheadN e f b d = true) : aheadN a c e f = false := by
  obtain ⟨p1, p2⟩ := ahead_false h1
  obtain ⟨q1, q2⟩ := ahead_true h2
  -- b/d ≤ a/c ; e/f ≤ b/d
  have x1 : e * c ≤ a * f := by
    have y1 : (e * d) * c ≤ (b * f) * c := Nat.mul_le_mul_right c q1
    have y2 : (b * c) * f ≤ (a * d) * f := Nat.mul_le_mul_right f p1
    have : d * (e * c) ≤ d * (a * f) := by
      calc d * (e * c) = (e * d) * c := by rw [← Nat.mul_assoc, Nat.mul_comm d e]
        _ ≤ (b * f) * c := y1
        _ = (b * c) * f := by rw [Nat.mul_assoc, Nat.mul_comm f c, Nat.mul_assoc]
        _ ≤ (a * d) * f := y2
        _ = d * (a * f) := by rw [Nat.mul_comm a d, Nat.mul_assoc]
    exact Nat.le_of_mul_le_mul_left this hd
  unfold aheadN
  rw [Bool.or_eq_false_iff, decide_eq_false_iff_not, Bool.and_eq_false_iff, decide_eq_false_iff_not, decide_eq_false_iff_not]
  refine ⟨by omega, ?_⟩
  by_cases z : a * f = e * c
  · right
    -- all equal
    have y1 : (e * d) * c ≤ (b * f) * c := Nat.mul_le_mul_right c q1
    have y2 : (b * c) * f ≤ (a * d) * f := Nat.mul_le_mul_right f p1
    have e1 : d * (e * c) = (e * d) * c := by rw [← Nat.mul_assoc, Nat.mul_comm d e]
    have e2 : (b * f) * c = (b * c) * f := by rw [Nat.mul_assoc, Nat.mul_comm f c, Nat.mul_assoc]
    have e3 : (a * d) * f = d * (a * f) := by rw [Nat.mul_comm a d, Nat.mul_assoc]
    have e4 : d * (a * f) = d * (e * c) := by rw [z]
    have w1 : (e * d) * c = (b * f) * c := by omega
    have w2 : (b * c) * f = (a * d) * f := by omega
    have v1 : e * d = b * f := Nat.eq_of_mul_eq_mul_right hc w1
    have v2 : b * c = a * d := Nat.eq_of_mul_eq_mul_right hf w2
    have := q2 v1
    have := p2 (by omega)
    omega
  · exact .inl z
theorem cn_pos {t : Table} {D s : Nat} (h : Beh t D s) : 0 < cn t D s := by
  obtain ⟨h1, h2, h3⟩ := h
  unfold cn
  have : ∃ i, s.testBit i = true ∧ D.testBit i = false := by
    apply Classical.byContradiction
    intro z
    apply h3
    apply Nat.eq_of_testBit_eq
    intro i
    rw [Bool.eq_iff_iff]
    refine ⟨fun hi => ?_, h2 i⟩
    cases q : D.testBit i with
    | true => rfl
    | false => exact (z ⟨i, hi, q⟩).elim
  obtain ⟨i, hi, hd⟩ := this
  have hsub : Sub D (s - 2 ^ i) := fun j hj => by
    rw [bit_minus hi, Bool.and_eq_true, decide_eq_true_eq]
    exact ⟨h2 j hj, fun z => by rw [z, hd] at hj; cases hj⟩
  have e1 := wt_minus (n := mouths t) (w := fun _ => 1) (bit_lt h1 hi) hi
  have e2 := wt_mono (n := mouths t) (w := fun _ => 1) hsub
  rw [count_wt, count_wt]
  omega
/-- one more set looked at -/
theorem best_take {t : Table} {D b : Nat} {i : Nat} (h : BestOf t D b fun s => s < i) (c1 : aheadN (am t D i) (cn t D i) (am t D b) (cn t D b) = true) (c2 : Beh t D i) : BestOf t D i fun s => s < i + 1 := by
  refine ⟨c2, fun s hs hlt => ?_⟩
  by_cases e : s = i
  · subst e
    unfold aheadN
    simp
  · exact ahead_trans (cn_pos hs) (cn_pos h.beh) (cn_pos c2) (h.best s hs (by omega)) c1
theorem best_skip {t : Table} {D b : Nat} {i : Nat} (h : BestOf t D b fun s => s < i) (c : Beh t D i → aheadN (am t D i) (cn t D i) (am t D b) (cn t D b) = false) : BestOf t D b fun s => s < i + 1 := by
  refine ⟨h.beh, fun s hs hlt => ?_⟩
  by_cases e : s = i
  · subst e
    exact c hs
  · exact h.best s hs (by omega)
/-- those of a set that aren't done -/
theorem minus_bits {t : Table} {D s : Nat} (hs : s < 2 ^ mouths t) (h : Sub D s) : (∀ i, (s - D).testBit i = (s.testBit i && !D.testBit i)) ∧ s - D < 2 ^ mouths t := by
  have hD := sub_lt hs h
  have hx : s ^^^ D < 2 ^ mouths t := Nat.xor_lt_two_pow hs hD
  have hb : ∀ j, (s ^^^ D).testBit j = (s.testBit j && !D.testBit j) := fun j => by
    rw [Nat.testBit_xor]
    cases e : D.testBit j with
    | true => rw [h j e]; rfl
    | false => simp
  have h0 : (s ^^^ D) &&& D = 0 := and_zero fun j hj => by
    rw [hb, Bool.and_eq_true] at hj
    simpa using hj.2
  have e : (s ^^^ D) ||| D = s := by
    apply Nat.eq_of_testBit_eq
    intro j
    rw [Nat.testBit_or, hb]
    cases e : D.testBit j with
    | true => rw [h j e]; rfl
    | false => simp
  have ea := or_add hx hD h0
  rw [e] at ea
  have e2 : s - D = s ^^^ D := by omega
  rw [e2]
  exact ⟨hb, hx⟩
theorem minus_or {t : Table} {D s : Nat} (hs : s < 2 ^ mouths t) (h : Sub D s) : (s - D) ||| D = s := by
  apply Nat.eq_of_testBit_eq
  intro j
  rw [Nat.testBit_or, (minus_bits hs h).1]
  cases e : D.testBit j with
  | true => rw [h j e]; rfl
  | false => simp
theorem minus_and {t : Table} {D s : Nat} (hs : s < 2 ^ mouths t) (h : Sub D s) : (s - D) &&& D = 0 := and_zero fun j hj => by
  rw [(minus_bits hs h).1, Bool.and_eq_true] at hj
  simpa using hj.2
/-- the share of such a set, as the document's -/
theorem shr_cand {t : Table} {D s : Nat} (hD : D < 2 ^ mouths t) (h : Cand t D s) : shr t (mosts t) D s = { num := am t D (s ||| D), den := cn t D (s ||| D) } ∧ Beh t D (s ||| D) := by
  obtain ⟨h0, h1, h2⟩ := h
  have hlt := Nat.or_lt_two_pow h1 hD
  have hz : s &&& D = 0 := and_zero h2
  have hB : Beh t D (s ||| D) := by
    refine ⟨hlt, sub_or_right, fun e => ?_⟩
    obtain ⟨i, hi⟩ := Nat.exists_testBit_of_ne_zero h0
    have := h2 i hi
    rw [← e, Nat.testBit_or, hi] at this
    cases this
  refine ⟨?_, hB⟩
  unfold shr am cn
  have e1 : (members t s).length = (members t (s ||| D)).length - (members t D).length := by
    have := wt_join (n := mouths t) (w := fun _ => 1) hz
    rw [count_wt, count_wt, count_wt, this]
    omega
  rw [both_or h1 hD, at_mosts hlt, at_mosts hD, e1]
/-- the best set is the level -/
theorem best_level {t : Table} {D b : Nat} (hD : D < 2 ^ mouths t) (h : BestOf t D b fun _ => True) : LvInv t (shr t (mosts t) D) (Cand t D) { num := am t D b, den := cn t D b } (b - D) := by
  obtain ⟨hb1, hb2, hb3⟩ := h.beh
  have hmb := minus_bits hb1 hb2
  have hc : Cand t D (b - D) := by
    refine ⟨fun e => hb3 ?_, hmb.2, fun i hi => ?_⟩
    · have := minus_or hb1 hb2
      rw [e, Nat.zero_or] at this
      exact this.symm
    · rw [hmb.1, Bool.and_eq_true] at hi
      simpa using hi.2
  have hq := (shr_cand hD hc).1
  rw [minus_or hb1 hb2] at hq
  refine ⟨⟨_, hc, hq.symm⟩, fun s hs => ?_, fun i => ⟨fun hi => ⟨_, hc, by rw [hq]; exact fle_refl _, hi⟩, ?_⟩⟩
  · obtain ⟨e, hB⟩ := shr_cand hD hs
    rw [e]
    exact (ahead_false (h.best _ hB trivial)).1
  · rintro ⟨s, hs, hle, hi⟩
    obtain ⟨e, hB⟩ := shr_cand hD hs
    rw [e] at hle
    have hle' : am t D (s ||| D) * cn t D b ≤ am t D b * cn t D (s ||| D) := hle
    generalize hs' : s ||| D = u at *
    -- the union of both
    have hu := hB.1
    have hDu : Sub D u := hB.2.1
    have hor : Beh t D (u ||| b) := by
      refine ⟨Nat.or_lt_two_pow hu hb1, fun i h => sub_or_left i (hDu i h), fun z => hb3 ?_⟩
      apply Nat.eq_of_testBit_eq
      intro j
      rw [Bool.eq_iff_iff]
      refine ⟨fun hj => ?_, hb2 j⟩
      rw [← z, Nat.testBit_or, hj, Bool.or_true]
    have hand : (u &&& b) < 2 ^ mouths t := sub_lt hu sub_and_left
    have hDand : Sub D (u &&& b) := fun j hj => by
      rw [Nat.testBit_and, hDu j hj, hb2 j hj]
      rfl
    have hsub := mo_sub hu hb1
    have m1 := mo_mono (t := t) hu hDu
    have m2 := mo_mono (t := t) hb1 hb2
    have m3 := mo_mono (t := t) hor.1 hor.2.1
    have m4 := mo_mono (t := t) hand hDand
    have k0 := wt_mod (mouths t) (fun _ => 1) u b
    have k1 := wt_mono (n := mouths t) (w := fun _ => 1) hDu
    have k2 := wt_mono (n := mouths t) (w := fun _ => 1) hb2
    have k3 := wt_mono (n := mouths t) (w := fun _ => 1) hor.2.1
    have k4 := wt_mono (n := mouths t) (w := fun _ => 1) hDand
    have a0 : am t D (u ||| b) + am t D (u &&& b) ≤ am t D u + am t D b := by unfold am; omega
    have c0 : cn t D (u ||| b) + cn t D (u &&& b) = cn t D u + cn t D b := by
      unfold cn
      rw [count_wt, count_wt, count_wt, count_wt, count_wt]
      omega
    -- the intersection's share is no less
    have hi2 : am t D b * cn t D (u &&& b) ≤ am t D (u &&& b) * cn t D b := by
      by_cases z : u &&& b = D
      · rw [z]
        have : cn t D D = 0 := by unfold cn; omega
        rw [this]
        omega
      · exact (ahead_false (h.best _ ⟨hand, hDand, z⟩ trivial)).1
    have hfin : am t D (u ||| b) * cn t D b ≤ am t D b * cn t D (u ||| b) := by
      have x1 : am t D (u ||| b) * cn t D b + am t D (u &&& b) * cn t D b ≤ am t D u * cn t D b + am t D b * cn t D b := by
        rw [← Nat.add_mul, ← Nat.add_mul]
        exact Nat.mul_le_mul_right _ a0
      have x2 : am t D b * cn t D (u ||| b) + am t D b * cn t D (u &&& b) = am t D b * cn t D u + am t D b * cn t D b := by
        rw [← Nat.mul_add, ← Nat.mul_add, c0]
      omega
    have hcnt := (ahead_false (h.best _ hor trivial)).2 hfin
    -- so the union is no greater
    have hui : u.testBit i = true := by rw [← hs', Nat.testBit_or, hi]; rfl
    have hDi : D.testBit i = false := hs.2.2 i hi
    rw [hmb.1, hDi]
    cases q : b.testBit i with
    | true => rfl
    | false =>
      exfalso
      have hub : (u ||| b).testBit i = true := by rw [Nat.testBit_or, hui]; rfl
      have w1 := wt_minus (n := mouths t) (w := fun _ => 1) (bit_lt hu hui) hub
      have w2 : Sub b ((u ||| b) - 2 ^ i) := fun j hj => by
        rw [bit_minus hub, Bool.and_eq_true, decide_eq_true_eq]
        exact ⟨sub_or_right j hj, fun z => by rw [z, q] at hj; cases hj⟩
      have w3 := wt_mono (n := mouths t) (w := fun _ => 1) w2
      unfold cn at hcnt
      rw [count_wt, count_wt, count_wt] at hcnt
      omega
/-- what the program finds is the level -/
theorem level_best {t : Table} {D b : Nat} (hD : D < 2 ^ mouths t) (h : BestOf t D b fun _ => True) : lowest { num := am t D b, den := cn t D b } = lowest (level t (mosts t) D).1 ∧ b - D = (level t (mosts t) D).2 ∧ b = both t D (level t (mosts t) D).2 := by
  have hi := best_level hD h
  obtain ⟨hb1, hb2, hb3⟩ := h.beh
  have hr : without t (everyone t) D ≠ 0 := by
    intro z
    have := (rest_zero hD).mp z
    apply hb3
    apply Nat.eq_of_testBit_eq
    intro j
    rw [Bool.eq_iff_iff]
    refine ⟨fun hj => ?_, hb2 j⟩
    rw [this, bit_everyone, decide_eq_true_eq]
    exact bit_lt hb1 hj
  obtain ⟨h1, h2, h3⟩ := level_unique hr hi
  have hp := level_inv (f := mosts t) hr
  obtain ⟨s, hs, es⟩ := hp.some_
  have hden : 0 < (level t (mosts t) D).1.den := by rw [es]; exact members_pos hs.1 hs.2.1
  refine ⟨lowest_same (cn_pos h.beh) hden ?_, h3, ?_⟩
  · unfold fle at h1 h2
    dsimp only at h1 h2 ⊢
    omega
  · rw [← h3, both_or hD (minus_bits hb1 hb2).2, Nat.or_comm, minus_or hb1 hb2]
end Tbl
set_option linter.all false
namespace Tbl
open Vbecaf
/-! ### whole units in rounds -/
def Leq (x y : List Nat) : Prop := ∀ i, at_ x i ≤ at_ y i
theorem at_set {x : List Nat} {i v : Nat} (hi : i < x.length) (j : Nat) : at_ (x.set i v) j = if j = i then v else at_ x j := by
  unfold at_
  rw [List.getD_eq_getElem?_getD, List.getD_eq_getElem?_getD, List.getElem?_set]
  by_cases c : i = j
  · subst c
    rw [if_pos rfl, if_pos hi, if_pos rfl]
    rfl
  · rw [if_neg c, if_neg (Ne.symm c)]
theorem at_bump {x : List Nat} {i : Nat} (hi : i < x.length) (j : Nat) : at_ (bump x i) j = if j = i then at_ x i + 1 else at_ x j := at_set hi j
theorem sumOf_mono {t : Table} {x y : List Nat} (h : Leq x y) (s : Nat) : sumOf t x s ≤ sumOf t y s := by
  rw [sumOf_wt, sumOf_wt]
  unfold wt
  refine sum_le2 _ fun i _ => ?_
  have := h i
  cases s.testBit i
  · simp
  · simpa using this
theorem feas_mono {t : Table} {x y : List Nat} (h : Leq x y) (f : feasible t (mosts t) y = true) : feasible t (mosts t) x = true := by
  rw [feasible_iff] at *
  intro s hs
  exact Nat.le_trans (sumOf_mono h s) (f s hs)
theorem bump_leq {x y : List Nat} {i : Nat} (hx : i < x.length) (hy : i < y.length) (h : Leq x y) : Leq (bump x i) (bump y i) := fun j => by
  rw [at_bump hx, at_bump hy]
  by_cases c : j = i
  · rw [if_pos c, if_pos c]
    have := h i
    omega
  · rw [if_neg c, if_neg c]
    exact h j
theorem leq_bump {x : List Nat} {i : Nat} (hx : i < x.length) : Leq x (bump x i) := fun j => by
  rw [at_bump hx]
  by_cases c : j = i
  · rw [if_pos c, c]
    omega
  · rw [if_neg c]
    exact Nat.le_refl _
theorem leq_refl (x : List Nat) : Leq x x := fun _ => Nat.le_refl _
theorem leq_trans {x y z : List Nat} (a : Leq x y) (b : Leq y z) : Leq x z := fun i => Nat.le_trans (a i) (b i)
/-- who can't have one more can't later -/
theorem stuck_on {t : Table} {x y : List Nat} {i : Nat} (hx : i < x.length) (hy : i < y.length) (h : Leq x y) (s : feasible t (mosts t) (bump x i) = false) : feasible t (mosts t) (bump y i) = false := by
  cases q : feasible t (mosts t) (bump y i) with
  | false => rfl
  | true => rw [feas_mono (bump_leq hx hy h) q] at s; cases s
/-- can have one more: only the sets with the mouth in matter -/
theorem bump_feas {t : Table} {x : List Nat} {i : Nat} (hx : x.length = mouths t) (hi : i < mouths t) (f : feasible t (mosts t) x = true) :
    feasible t (mosts t) (bump x i) = true ↔ ∀ s, s < 2 ^ mouths t → s.testBit i = true → sumOf t x s < Mo t s := by
  rw [feasible_iff] at f ⊢
  have key : ∀ s, sumOf t (bump x i) s = sumOf t x s + if s.testBit i = true then 1 else 0 := fun s => by
    rw [sumOf_wt, sumOf_wt]
    have e : ∀ u, u.testBit i = false → wt (mouths t) (at_ (bump x i)) u = wt (mouths t) (at_ x) u := fun u hu => by
      unfold wt
      congr 1
      apply List.map_congr_left
      intro j _
      rw [at_bump (by omega)]
      by_cases c : j = i
      · subst c
        rw [hu]
        rfl
      · rw [if_neg c]
    cases q : s.testBit i with
    | false => simpa using e s q
    | true =>
      have hm : (s - 2 ^ i).testBit i = false := by rw [bit_minus q]; simp
      rw [wt_minus hi q, wt_minus (w := at_ x) hi q, e _ hm, at_bump (by omega), if_pos rfl, if_pos rfl]
      omega
  constructor
  · intro h s hs hb
    have := h s hs
    rw [key, if_pos hb] at this
    show _ < mostOf t (sums t) s
    omega
  · intro h s hs
    rw [key]
    cases q : s.testBit i with
    | false => simpa using f s hs
    | true =>
      have := h s hs q
      have e : Mo t s = mostOf t (sums t) s := rfl
      rw [if_pos rfl]
      omega
/-- units handed out so far, and one feasible -/
structure Out (t : Table) (x : List Nat) : Prop where
  walk : ∃ k, Walks t (mosts t) k (List.replicate (mouths t) 0) x
  len : x.length = mouths t
  feas : feasible t (mosts t) x = true
theorem at_zeros {n i : Nat} : at_ (List.replicate n 0) i = 0 := by
  unfold at_
  rw [List.getD_eq_getElem?_getD]
  by_cases c : i < n
  · rw [List.getElem?_replicate, if_pos c]; rfl
  · rw [List.getElem?_eq_none_iff.mpr (by simpa using c)]; rfl
theorem sumOf_zeros {t : Table} {s : Nat} : sumOf t (List.replicate (mouths t) 0) s = 0 := by
  rw [sumOf_wt]
  unfold wt
  rw [List.sum_eq_zero_iff_forall_eq_nat]
  intro y hy
  obtain ⟨i, _, rfl⟩ := List.mem_map.mp hy
  rw [at_zeros]
  simp
theorem out_start (t : Table) : Out t (List.replicate (mouths t) 0) := ⟨⟨0, rfl⟩, by simp, feasible_iff.mpr fun s _ => by rw [sumOf_zeros]; exact Nat.zero_le _⟩
/-- the next unit -/
theorem out_bump {t : Table} {x : List Nat} {i : Nat} (h : Out t x) (hi : i < mouths t) (hf : feasible t (mosts t) (bump x i) = true)
    (h1 : ∀ j, j < mouths t → feasible t (mosts t) (bump x j) = true → at_ x i ≤ at_ x j) (h2 : ∀ j, j < i → feasible t (mosts t) (bump x j) = true → at_ x i < at_ x j) : Out t (bump x i) := by
  obtain ⟨k, hw⟩ := h.walk
  have hn : nextMouth t (mosts t) x = some i := next_unique (next_is t (mosts t) x) ⟨hi, hf, h1, h2⟩
  exact ⟨⟨k + 1, walks_snoc hw hn⟩, by rw [bump_len]; exact h.len, hf⟩
/-- within a round: those of T in turn; those who come have c, those fed have c + 1, all others can't have one more -/
structure Turn (t : Table) (T : List Nat) (c p : Nat) (fed : List Nat) (x : List Nat) : Prop where
  out : Out t x
  up : Up T
  lt : ∀ m ∈ T, m < mouths t
  fedS : fed.Sublist (T.take p)
  wait : ∀ m ∈ T.drop p, at_ x m = c
  got : ∀ m ∈ fed, at_ x m = c + 1
  stuck : ∀ m, m < mouths t → m ∉ fed → m ∉ T.drop p → feasible t (mosts t) (bump x m) = false
theorem turn_take {t : Table} {T : List Nat} {c p m : Nat} {fed x : List Nat} (h : Turn t T c p fed x) (hm : T[p]? = some m) (hf : feasible t (mosts t) (bump x m) = true) : Turn t T c (p + 1) (fed ++ [m]) (bump x m) := by
  have hp : p < T.length := (List.getElem?_eq_some_iff.mp hm).1
  have ed : T.drop p = m :: T.drop (p + 1) := by
    rw [List.drop_eq_getElem_cons hp]
    congr 1
    exact (List.getElem?_eq_some_iff.mp hm).2
  have hmT : m ∈ T := List.mem_of_getElem? hm
  have hml := h.lt m hmT
  have hmx : m < x.length := by rw [h.out.len]; exact hml
  have hc : at_ x m = c := h.wait m (by rw [ed]; simp)
  have hup : Up (T.drop p) := List.Pairwise.sublist (List.drop_sublist _ _) h.up
  rw [ed] at hup
  have hgt := (List.pairwise_cons.mp hup).1
  have hfl : ∀ j ∈ fed, j < m := fun j hj => by
    have h1 : j ∈ T.take p := h.fedS.subset hj
    have h2 := h.up
    rw [← List.take_append_drop p T] at h2
    exact (List.pairwise_append.mp h2).2.2 j h1 m (by rw [ed]; simp)
  refine ⟨out_bump h.out hml hf (fun j hj hjf => ?_) (fun j hj hjf => ?_), h.up, h.lt, ?_, fun j hj => ?_, fun j hj => ?_, fun j hj h1 h2 => ?_⟩
  · by_cases a : j ∈ fed
    · rw [hc, h.got j a]; omega
    · by_cases b : j ∈ T.drop p
      · rw [hc, h.wait j b]; exact Nat.le_refl _
      · rw [h.stuck j hj a b] at hjf; cases hjf
  · by_cases a : j ∈ fed
    · rw [hc, h.got j a]; omega
    · by_cases b : j ∈ T.drop p
      · rw [ed] at b
        rcases List.mem_cons.mp b with b | b
        · omega
        · have := hgt j b
          omega
      · rw [h.stuck j (by omega) a b] at hjf; cases hjf
  · rw [List.take_add_one, hm]
    exact h.fedS.append (List.Sublist.refl _)
  · have := hgt j hj
    rw [at_bump hmx, if_neg (by omega)]
    exact h.wait j (by rw [ed]; simp [hj])
  · rcases List.mem_append.mp hj with hj | hj
    · rw [at_bump hmx, if_neg (by have := hfl j hj; omega)]
      exact h.got j hj
    · rw [List.mem_singleton.mp hj, at_bump hmx, if_pos rfl, hc]
  · have hne : j ≠ m := fun e => h1 (by simp [e])
    have h3 : j ∉ fed := fun e => h1 (by simp [e])
    have h4 : j ∉ T.drop p := fun e => by
      rw [ed] at e
      rcases List.mem_cons.mp e with e | e
      · exact hne e
      · exact h2 e
    exact stuck_on (by rw [h.out.len]; exact hj) (by rw [bump_len, h.out.len]; exact hj) (leq_bump hmx) (h.stuck j hj h3 h4)
theorem turn_skip {t : Table} {T : List Nat} {c p m : Nat} {fed x : List Nat} (h : Turn t T c p fed x) (hm : T[p]? = some m) (hf : feasible t (mosts t) (bump x m) = false) : Turn t T c (p + 1) fed x := by
  have hp : p < T.length := (List.getElem?_eq_some_iff.mp hm).1
  have ed : T.drop p = m :: T.drop (p + 1) := by
    rw [List.drop_eq_getElem_cons hp]
    congr 1
    exact (List.getElem?_eq_some_iff.mp hm).2
  refine ⟨h.out, h.up, h.lt, ?_, fun j hj => h.wait j (by rw [ed]; simp [hj]), h.got, fun j hj h1 h2 => ?_⟩
  · rw [List.take_add_one]
    exact h.fedS.trans (List.sublist_append_left _ _)
  · by_cases e : j = m
    · rw [e]; exact hf
    · refine h.stuck j hj h1 fun q => ?_
      rw [ed] at q
      rcases List.mem_cons.mp q with q | q
      · exact e q
      · exact h2 q
/-- between rounds: all of T have the same, all others can't have one more -/
structure Round (t : Table) (T : List Nat) (c : Nat) (x : List Nat) : Prop where
  out : Out t x
  up : Up T
  lt : ∀ m ∈ T, m < mouths t
  same : ∀ m ∈ T, at_ x m = c
  stuck : ∀ m, m < mouths t → m ∉ T → feasible t (mosts t) (bump x m) = false
theorem round_start (t : Table) : Round t (List.range (mouths t)) 0 (List.replicate (mouths t) 0) :=
  ⟨out_start t, up_range _, fun m h => List.mem_range.mp h, fun m _ => at_zeros, fun m h1 h2 => (h2 (List.mem_range.mpr h1)).elim⟩
theorem round_turn {t : Table} {T : List Nat} {c : Nat} {x : List Nat} (h : Round t T c x) : Turn t T c 0 [] x :=
  ⟨h.out, h.up, h.lt, List.nil_sublist _, fun m hm => h.same m (by simpa using hm), fun m hm => (by cases hm), fun m h1 _ h3 => h.stuck m h1 (by simpa using h3)⟩
theorem turn_round {t : Table} {T fed : List Nat} {c p : Nat} {x : List Nat} (h : Turn t T c p fed x) (hp : T.length ≤ p) : Round t fed (c + 1) x := by
  have hs : fed.Sublist T := h.fedS.trans (List.take_sublist _ _)
  exact ⟨h.out, List.Pairwise.sublist hs h.up, fun m hm => h.lt m (hs.subset hm), h.got, fun m h1 h2 => h.stuck m h1 h2 (by rw [List.drop_eq_nil_of_le hp]; simp)⟩
theorem round_end {t : Table} {c : Nat} {x : List Nat} (h : Round t [] c x) : wholes t = x := by
  obtain ⟨k, hw⟩ := h.out.walk
  refine wholes_eq hw (next_unique (next_is t (mosts t) x) (c := none) ?_)
  intro i hi
  exact h.stuck i hi (by simp)
/-- one for each of the first p of T -/
def addF (x T : List Nat) (r p : Nat) : List Nat := (T.take p).foldl (fun y m => y.set m (at_ y m + r)) x
theorem addF_len {x T : List Nat} {r : Nat} : ∀ p, (addF x T r p).length = x.length := by
  intro p
  unfold addF
  generalize T.take p = l
  induction l generalizing x with
  | nil => rfl
  | cons a l ih => rw [List.foldl_cons, ih, List.length_set]
theorem addF_succ {x T : List Nat} {r p m : Nat} (hm : T[p]? = some m) : addF x T r (p + 1) = (addF x T r p).set m (at_ (addF x T r p) m + r) := by
  unfold addF
  rw [List.take_add_one, hm, List.foldl_append]
  rfl
theorem addF_at {x T : List Nat} {r : Nat} (hu : Up T) (hl : ∀ m ∈ T, m < x.length) : ∀ p j, at_ (addF x T r p) j = if j ∈ T.take p then at_ x j + r else at_ x j
  | 0, j => by unfold addF; simp
  | p + 1, j => by
    cases hm : T[p]? with
    | none =>
      have hlen : T.length ≤ p := List.getElem?_eq_none_iff.mp hm
      have e : T.take (p + 1) = T.take p := by rw [List.take_of_length_le hlen, List.take_of_length_le (by omega)]
      have e2 : addF x T r (p + 1) = addF x T r p := by unfold addF; rw [e]
      rw [e2, e]
      exact addF_at hu hl p j
    | some m =>
      have hmT : m ∈ T := List.mem_of_getElem? hm
      have hp : p < T.length := (List.getElem?_eq_some_iff.mp hm).1
      have hnm : m ∉ T.take p := fun hj => by
        have h2 := hu
        rw [← List.take_append_drop p T] at h2
        have hd : m ∈ T.drop p := by
          rw [List.drop_eq_getElem_cons hp, (List.getElem?_eq_some_iff.mp hm).2]; simp
        have := (List.pairwise_append.mp h2).2.2 m hj m hd
        omega
      rw [addF_succ hm, at_set (by rw [addF_len]; exact hl m hmT), addF_at hu hl p m, addF_at hu hl p j, List.take_add_one, hm, if_neg hnm]
      by_cases c : j = m
      · subst c
        rw [if_pos rfl, if_pos (by simp)]
      · rw [if_neg c]
        by_cases q : j ∈ T.take p
        · rw [if_pos q, if_pos (by simp [q])]
        · rw [if_neg q, if_neg (by simp [q, c])]
theorem ext_at {x y : List Nat} (hl : x.length = y.length) (h : ∀ i, at_ x i = at_ y i) : x = y := by
  apply List.ext_getElem hl
  intro i h1 h2
  have := h i
  unfold at_ at this
  rw [List.getD_eq_getElem?_getD, List.getD_eq_getElem?_getD, List.getElem?_eq_getElem h1, List.getElem?_eq_getElem h2] at this
  exact this
/-- full rounds, as long as all can -/
theorem full_turn {t : Table} {T : List Nat} {c : Nat} {x : List Nat} (h : Round t T c x) (hf : feasible t (mosts t) (addF x T 1 T.length) = true) : ∀ p, p ≤ T.length → Turn t T c p (T.take p) (addF x T 1 p)
  | 0, _ => round_turn h
  | p + 1, hp => by
    have ih := full_turn h hf p (by omega)
    have hm : T[p]? = some T[p] := List.getElem?_eq_getElem (by omega)
    have hl : ∀ m ∈ T, m < x.length := fun m hm => by rw [h.out.len]; exact h.lt m hm
    have e : addF x T 1 (p + 1) = bump (addF x T 1 p) T[p] := addF_succ hm
    have hle : Leq (addF x T 1 (p + 1)) (addF x T 1 T.length) := fun j => by
      rw [addF_at h.up hl, addF_at h.up hl]
      by_cases a : j ∈ T.take (p + 1)
      · rw [if_pos a, if_pos (by rw [List.take_length]; exact (List.take_sublist _ _).subset a)]
        exact Nat.le_refl _
      · rw [if_neg a]
        by_cases b : j ∈ T.take T.length
        · rw [if_pos b]; omega
        · rw [if_neg b]; exact Nat.le_refl _
    have := turn_take ih hm (by rw [← e]; exact feas_mono hle hf)
    rw [← e] at this
    rw [List.take_add_one, hm]
    exact this
theorem full_rounds {t : Table} {T : List Nat} : ∀ (r c : Nat) (x : List Nat), Round t T c x → feasible t (mosts t) (addF x T r T.length) = true → Round t T (c + r) (addF x T r T.length)
  | 0, c, x, h, hf => by
    have hl : ∀ m ∈ T, m < x.length := fun m hm => by rw [h.out.len]; exact h.lt m hm
    have e : addF x T 0 T.length = x := ext_at (addF_len _) fun i => by
      rw [addF_at h.up hl]
      simp
    rw [e]
    exact h
  | r + 1, c, x, h, hf => by
    have hl : ∀ m ∈ T, m < x.length := fun m hm => by rw [h.out.len]; exact h.lt m hm
    have hl1 : ∀ m ∈ T, m < (addF x T 1 T.length).length := fun m hm => by rw [addF_len]; exact hl m hm
    have e : addF (addF x T 1 T.length) T r T.length = addF x T (r + 1) T.length := ext_at (by rw [addF_len, addF_len, addF_len]) fun i => by
      rw [addF_at h.up hl1, addF_at h.up hl, addF_at h.up hl]
      by_cases a : i ∈ T.take T.length
      · rw [if_pos a, if_pos a, if_pos a]; omega
      · rw [if_neg a, if_neg a, if_neg a]
    have hle : Leq (addF x T 1 T.length) (addF x T (r + 1) T.length) := fun j => by
      rw [addF_at h.up hl, addF_at h.up hl]
      by_cases a : j ∈ T.take T.length
      · rw [if_pos a, if_pos a]; omega
      · rw [if_neg a, if_neg a]; exact Nat.le_refl _
    have h1 := turn_round (full_turn h (feas_mono hle hf) T.length (Nat.le_refl _)) (Nat.le_refl _)
    rw [List.take_length] at h1
    have := full_rounds r (c + 1) _ h1 (by rw [e]; exact hf)
    rw [e] at this
    rw [show c + (r + 1) = c + 1 + r by omega]
    exact this
/-- how many of T a set has -/
def ind (n : Nat) (T : List Nat) : List Nat := (List.range n).map fun m => if T.contains m = true then 1 else 0
theorem ind_at {n j : Nat} {T : List Nat} (h : j < n) : at_ (ind n T) j = if j ∈ T then 1 else 0 := by
  unfold ind
  rw [at_range h]
  simp
theorem sum_addF {t : Table} {T : List Nat} {c r : Nat} {x : List Nat} (h : Round t T c x) (s : Nat) : sumOf t (addF x T r T.length) s = sumOf t x s + r * sumOf t (ind (mouths t) T) s := by
  have hl : ∀ m ∈ T, m < x.length := fun m hm => by rw [h.out.len]; exact h.lt m hm
  rw [sumOf_wt, sumOf_wt, sumOf_wt]
  unfold wt
  have : ∀ l : List Nat, (∀ i ∈ l, i < mouths t) → (l.map fun i => if s.testBit i = true then at_ (addF x T r T.length) i else 0).sum = (l.map fun i => if s.testBit i = true then at_ x i else 0).sum + r * (l.map fun i => if s.testBit i = true then at_ (ind (mouths t) T) i else 0).sum := by
    intro l
    induction l with
    | nil => simp
    | cons a l ih =>
      intro hlt
      have ih := ih fun i hi => hlt i (by simp [hi])
      rw [List.map_cons, List.map_cons, List.map_cons, List.sum_cons, List.sum_cons, List.sum_cons, ih, Nat.mul_add, addF_at h.up hl, ind_at (hlt a (by simp)), List.take_length]
      cases s.testBit a
      · simp only [Bool.false_eq_true, if_false]
        omega
      · by_cases q : a ∈ T
        · simp only [if_true, if_pos q]
          omega
        · simp only [if_true, if_neg q]
          omega
  exact this _ fun i hi => List.mem_range.mp hi
/-- as many rounds as leave no set with more than its most -/
theorem rounds_feas {t : Table} {T : List Nat} {c r : Nat} {x : List Nat} (h : Round t T c x)
    (hr : ∀ s, s < 2 ^ mouths t → 0 < sumOf t (ind (mouths t) T) s → r ≤ (Mo t s - sumOf t x s) / sumOf t (ind (mouths t) T) s) : feasible t (mosts t) (addF x T r T.length) = true := by
  have hx := feasible_iff.mp h.out.feas
  rw [feasible_iff]
  intro s hs
  have hxs := hx s hs
  rw [sum_addF h]
  by_cases z : 0 < sumOf t (ind (mouths t) T) s
  · have h1 := hr s hs z
    have h2 := (Nat.le_div_iff_mul_le z).mp h1
    have e : Mo t s = mostOf t (sums t) s := rfl
    omega
  · have : sumOf t (ind (mouths t) T) s = 0 := by omega
    rw [this]
    omega
/-- someone is there to count -/
theorem ind_pos {t : Table} {T : List Nat} {m : Nat} (hm : m ∈ T) (hl : m < mouths t) : 2 ^ m < 2 ^ mouths t ∧ 0 < sumOf t (ind (mouths t) T) (2 ^ m) := by
  refine ⟨Nat.pow_lt_pow_right (by decide) hl, ?_⟩
  have hb : (2 ^ m).testBit m = true := by rw [Nat.testBit_two_pow]; simp
  rw [sumOf_wt, wt_minus hl hb, ind_at hl, if_pos hm]
  omega
theorem out_sum {t : Table} {x : List Nat} (h : Out t x) : x.sum ≤ at_ (mosts t) (everyone t) := feasible_total h.len h.feas
end Tbl
set_option linter.all false
namespace Tbl
open Vbecaf
/-! ### levels are of different mouths -/
theorem levels_pair {t : Table} {f : List Nat} : ∀ (k served : Nat), served < 2 ^ mouths t → (levels t f k served).Pairwise fun x y => ∀ i, y.2.testBit i = true → x.2.testBit i = false
  | 0, _, _ => .nil
  | k + 1, served, hs => by
    by_cases h : served = everyone t
    · rw [h, levels_end]
      exact .nil
    · rw [levels_cons h, List.pairwise_cons]
      refine ⟨fun y hy i hi => ?_, levels_pair k _ (both_lt _ _ _)⟩
      have := levels_apart k _ (both_lt _ _ _) y hy i hi
      have h2 := this.2
      rw [bit_both] at h2
      simp only [this.1, decide_true, Bool.true_and, Bool.or_eq_false_iff] at h2
      exact h2.2
def fairOf (ls : List (Frac × Nat)) (i : Nat) : Frac := ((ls.find? fun x => has x.2 i).map fun x => x.1).getD { num := 0, den := 1 }
theorem fair_eq (t : Table) : Vbecaf.fair t = (List.range (mouths t)).map (fairOf (allLevels t)) := rfl
theorem fairOf_snoc {ls : List (Frac × Nat)} {x : Frac × Nat} {i : Nat} (h : x.2.testBit i = true → ∀ y ∈ ls, y.2.testBit i = false) : fairOf (ls ++ [x]) i = if x.2.testBit i = true then x.1 else fairOf ls i := by
  unfold fairOf
  rw [List.find?_append]
  cases e : x.2.testBit i with
  | true =>
    have h0 : ls.find? (fun x => has x.2 i) = none := by
      rw [List.find?_eq_none]
      intro y hy
      rw [has_bit, h e y hy]
      decide
    rw [h0, if_pos rfl]
    simp [has_bit, e]
  | false =>
    rw [if_neg (by decide)]
    have h1 : List.find? (fun x => has x.2 i) [x] = none := by simp [has_bit, e]
    rw [h1, Option.or_none]
theorem all_pair (t : Table) : (allLevels t).Pairwise fun x y => ∀ i, y.2.testBit i = true → x.2.testBit i = false := levels_pair _ _ (Nat.two_pow_pos _)
theorem pair_take {α : Type} {R : α → α → Prop} {l : List α} {j : Nat} {x : α} (h : l.Pairwise R) (hx : l[j]? = some x) : ∀ y ∈ l.take j, R y x := fun y hy => by
  have hj : j < l.length := (List.getElem?_eq_some_iff.mp hx).1
  rw [← List.take_append_drop j l] at h
  refine (List.pairwise_append.mp h).2.2 y hy x ?_
  rw [List.drop_eq_getElem_cons hj, (List.getElem?_eq_some_iff.mp hx).2]
  simp
theorem all_lt (t : Table) : ∀ x ∈ allLevels t, ∀ i, x.2.testBit i = true → i < mouths t := fun x hx i hi => (levels_apart _ _ (Nat.two_pow_pos _) x hx i hi).1
theorem levels_len {t : Table} {f : List Nat} : ∀ (k served : Nat), (levels t f k served).length ≤ k
  | 0, _ => Nat.le_refl _
  | k + 1, served => by
    show (if served = everyone t then [] else _ :: _).length ≤ k + 1
    by_cases h : served = everyone t
    · rw [if_pos h]; exact Nat.zero_le _
    · rw [if_neg h, List.length_cons]
      exact Nat.succ_le_succ (levels_len (t := t) (f := f) k (both t served (level t f served).2))
theorem all_len (t : Table) : (allLevels t).length ≤ mouths t := levels_len _ _
/-! ### an order -/
theorem nodup_perm : ∀ (a b : List Int), a.Nodup → (∀ x ∈ a, x ∈ b) → a.length = b.length → a.Perm b
  | [], b, _, _, h => by rw [List.length_eq_zero_iff.mp h.symm]
  | x :: a, b, hn, hs, hl => by
    have hx : x ∈ b := hs x (by simp)
    have hn' := List.nodup_cons.mp hn
    have h1 := List.perm_cons_erase hx
    refine List.Perm.trans (List.Perm.cons x (nodup_perm a (b.erase x) hn'.2 (fun y hy => ?_) ?_)) h1.symm
    · have hne : y ≠ x := fun e => hn'.1 (by rw [← e]; exact hy)
      exact (List.mem_erase_of_ne hne).mpr (hs y (by simp [hy]))
    · rw [List.length_erase_of_mem hx]
      have : 0 < b.length := List.length_pos_of_mem hx
      rw [List.length_cons] at hl
      omega
theorem sorted_eq : ∀ {a b : List Int}, a.Pairwise (· ≤ ·) → b.Pairwise (· ≤ ·) → a.Perm b → a = b
  | [], b, _, _, h => (List.Perm.nil_eq h)
  | x :: a, [], _, _, h => (List.Perm.eq_nil h)
  | x :: a, y :: b, ha, hb, h => by
    have ha' := List.pairwise_cons.mp ha
    have hb' := List.pairwise_cons.mp hb
    have e : x = y := by
      have h1 : x ∈ y :: b := h.mem_iff.mp (by simp)
      have h2 : y ∈ x :: a := h.mem_iff.mpr (by simp)
      rcases List.mem_cons.mp h1 with e | h1
      · exact e
      · rcases List.mem_cons.mp h2 with e | h2
        · exact e.symm
        · have := ha'.1 y h2
          have := hb'.1 x h1
          omega
    subst e
    rw [sorted_eq ha'.2 hb'.2 (List.Perm.cons_inv h)]
theorem order_sorted {n : Nat} {l ns : List Int} (hp : ns.Perm l) (hs : ns.Pairwise (· ≤ ·)) : decide (ns = (List.range n).map fun (i : Nat) => (i : Int)) = isOrder n l := by
  have hr : ((List.range n).map fun (i : Nat) => (i : Int)).Pairwise (· ≤ ·) := by
    rw [List.pairwise_map]
    exact List.pairwise_lt_range.imp fun {a b} h => by omega
  rw [Bool.eq_iff_iff, decide_eq_true_eq]
  unfold isOrder
  rw [Bool.and_eq_true, beq_iff_eq, List.all_eq_true]
  constructor
  · intro e
    rw [e] at hp
    refine ⟨by rw [← hp.length_eq]; simp, fun i hi => ?_⟩
    rw [List.contains_iff_mem]
    exact hp.mem_iff.mp (List.mem_map.mpr ⟨i, hi, rfl⟩)
  · rintro ⟨h1, h2⟩
    refine sorted_eq hs hr (hp.trans (nodup_perm _ _ (range_nodup n) (fun x hx => ?_) ?_).symm)
    · obtain ⟨i, hi, rfl⟩ := List.mem_map.mp hx
      have := h2 i hi
      rwa [List.contains_iff_mem] at this
    · simp [h1]
/-! ### the first set with more than its most -/
def firstOf (xs ys : List Nat) : Option Nat := (List.range xs.length).find? fun k => decide (at_ ys k < at_ xs k)
theorem overfull_first {t : Table} {x : List Nat} (h : x.length = mouths t) : overfull t (mosts t) x = firstOf (sums2 x) (mosts t) := by
  unfold overfull firstOf
  rw [sums2_len _ x h]
  have key : ∀ (l : List Nat) (p q : Nat → Bool), (∀ k ∈ l, p k = q k) → l.find? p = l.find? q := by
    intro l p q hk
    induction l with
    | nil => rfl
    | cons a l ih =>
      rw [List.find?_cons, List.find?_cons, hk a (by simp), ih fun k hk' => hk k (by simp [hk'])]
  refine key _ _ _ fun k hk => ?_
  have hk' := List.mem_range.mp hk
  have e : at_ (sums2 x) k = sumOf t x k := by
    rw [sums2_sumOf h, at_range hk']
  rw [e]
  rfl
theorem first_some {xs ys : List Nat} {k : Nat} (hk : k < xs.length) (h : at_ ys k < at_ xs k) (hb : ∀ j, j < k → ¬ at_ ys j < at_ xs j) : firstOf xs ys = some k := by
  unfold firstOf
  rw [List.find?_range_eq_some]
  exact ⟨decide_eq_true h, List.mem_range.mpr hk, fun j hj => by rw [Bool.not_eq_true', decide_eq_false_iff_not]; exact hb j hj⟩
theorem first_none {xs ys : List Nat} (hb : ∀ j, j < xs.length → ¬ at_ ys j < at_ xs j) : firstOf xs ys = none := by
  unfold firstOf
  rw [List.find?_eq_none]
  intro j hj
  rw [decide_eq_true_eq]
  exact hb j (List.mem_range.mp hj)
theorem first_lt {xs ys : List Nat} {k : Nat} (h : firstOf xs ys = some k) : k < xs.length := by
  unfold firstOf at h
  rw [List.find?_range_eq_some] at h
  exact List.mem_range.mp h.2.1
/-! ### bound by food, as the program lists it -/
def tight (t : Table) (ms : List Nat) : List (List Nat) := (chs ms).filter fun c => decide (boundL t ms c = Mo t (setOf ms))
theorem binding_list {t : Table} {ms : List Nat} (hu : Up ms) (hl : ∀ i ∈ ms, i < mouths t) : ms.filter (fun m => (tight t ms).any fun c => c.contains m) = members t (binding t (sums t) (setOf ms)) := by
  refine up_ext (up_filter _ hu) (members_up _ _) fun i => ?_
  rw [List.mem_filter, binding_choices hu hl, List.any_eq_true]
  unfold tight
  constructor
  · rintro ⟨_, c, hc, hi⟩
    rw [List.mem_filter, decide_eq_true_eq] at hc
    exact ⟨c, (mem_chs ms).mp hc.1, hc.2, List.contains_iff_mem.mp hi⟩
  · rintro ⟨c, hs, he, hi⟩
    exact ⟨hs.subset hi, c, by rw [List.mem_filter, decide_eq_true_eq]; exact ⟨(mem_chs ms).mpr hs, he⟩, List.contains_iff_mem.mpr hi⟩
/-! ### the least of a list -/
def leastN : List Nat → Nat
  | [] => 0
  | x :: l => l.foldl (fun m a => min m (id a)) x
theorem leastN_mem : ∀ {l : List Nat}, l ≠ [] → leastN l ∈ l ∧ ∀ y ∈ l, leastN l ≤ y
  | [], h => (h rfl).elim
  | x :: l, _ => by
    obtain ⟨h1, h2, h3⟩ := fold_min id l x
    refine ⟨?_, fun y hy => ?_⟩
    · rcases h3 with h3 | ⟨a, ha, h3⟩
      · show List.foldl _ x l ∈ _
        rw [h3]; simp
      · show List.foldl _ x l ∈ _
        rw [h3]; simp [ha]
    · rcases List.mem_cons.mp hy with e | hy
      · rw [e]; exact h1
      · exact h2 y hy
theorem leastN_is {l : List Nat} (h : l ≠ []) {m : Int} (hm : m ∈ l.map fun (n : Nat) => (n : Int)) (hle : ∀ y ∈ l.map fun (n : Nat) => (n : Int), m ≤ y) : m = ((leastN l : Nat) : Int) := by
  obtain ⟨a, ha, rfl⟩ := List.mem_map.mp hm
  obtain ⟨h1, h2⟩ := leastN_mem h
  have := h2 a ha
  have := hle _ (List.mem_map.mpr ⟨_, h1, rfl⟩)
  omega
/-- so many rounds -/
def roundsOf (t : Table) (T x : List Nat) : List Nat := ((List.range (2 ^ mouths t)).filter fun s => decide (0 < sumOf t (ind (mouths t) T) s)).map fun s => (Mo t s - sumOf t x s) / sumOf t (ind (mouths t) T) s
theorem rounds_ne {t : Table} {T x : List Nat} {m : Nat} (hm : m ∈ T) (hl : m < mouths t) : roundsOf t T x ≠ [] := by
  obtain ⟨h1, h2⟩ := ind_pos hm hl
  intro e
  have : (Mo t (2 ^ m) - sumOf t x (2 ^ m)) / sumOf t (ind (mouths t) T) (2 ^ m) ∈ roundsOf t T x :=
    List.mem_map.mpr ⟨2 ^ m, List.mem_filter.mpr ⟨List.mem_range.mpr h1, decide_eq_true h2⟩, rfl⟩
  rw [e] at this
  cases this
theorem rounds_go {t : Table} {T : List Nat} {c m : Nat} {x : List Nat} (h : Round t T c x) (hm : m ∈ T) : Round t T (c + leastN (roundsOf t T x)) (addF x T (leastN (roundsOf t T x)) T.length) := by
  refine full_rounds _ c x h (rounds_feas h fun s hs hp => ?_)
  exact (leastN_mem (rounds_ne hm (h.lt m hm))).2 _ (List.mem_map.mpr ⟨s, List.mem_filter.mpr ⟨List.mem_range.mpr hs, decide_eq_true hp⟩, rfl⟩)
/-- who can have one more, as the program asks it -/
def canMore (t : Table) (x : List Nat) (m : Nat) : Bool := ((List.range (2 ^ mouths t)).filter fun s => s.testBit m).all fun s => decide (sumOf t x s < Mo t s)
theorem canMore_iff {t : Table} {x : List Nat} {m : Nat} (h : Out t x) (hm : m < mouths t) : canMore t x m = feasible t (mosts t) (bump x m) := by
  rw [Bool.eq_iff_iff, bump_feas h.len hm h.feas]
  unfold canMore
  rw [List.all_eq_true]
  constructor
  · intro q s hs hb
    exact of_decide_eq_true (q s (List.mem_filter.mpr ⟨List.mem_range.mpr hs, hb⟩))
  · intro q s hs
    obtain ⟨h1, h2⟩ := List.mem_filter.mp hs
    exact decide_eq_true (q s (List.mem_range.mp h1) h2)
/-! ### greatest common part -/
theorem gcd_step {a b : Nat} : Nat.gcd a b = Nat.gcd b (a % b) := by
  rw [Nat.gcd_comm a b, Nat.gcd_rec b a, Nat.gcd_comm]
theorem lowest_pos {a b : Nat} (hb : 0 < b) : lowest { num := a, den := b } = { num := a / Nat.gcd a b, den := b / Nat.gcd a b } := by
  unfold lowest
  dsimp only
  have : 0 < Nat.gcd a b := Nat.gcd_pos_of_pos_right _ hb
  rw [if_neg (by omega)]
end Tbl
set_option Elab.async false
set_option linter.all false
set_option maxRecDepth 100000
set_option maxHeartbeats 2000000
namespace Tbl
open PySem PySem.Spec PyProof.Rows L2 Evl
section
variable {K : PySem.W.Frag} {σ : L2.St} {H H' : Hp} {ta tb tc te tx : TE} {t u : TT} {x y z v : V} {r r' : R2}
theorem ev_chain {a b : Bool} (ha : Ev ta σ H x) (hb : Ev tb σ H y) (hr : RV r x y H (.bl a)) (hc : a = true → Ev tc σ H z) (hr' : a = true → RV r' y z H (.bl b)) : Ev (tChain r r' ta tb tc) σ H (.bl (a && b)) := fun H1 e Q q =>
  ha H1 e _ fun H2 e2 => hb H2 (e.trans e2) _ fun H3 e3 => hr H3 ((e.trans e2).trans e3) _ fun H4 e4 => ⟨a, rfl, by
    cases a with
    | true =>
      show tc σ H4 _
      exact hc rfl H4 (((e.trans e2).trans e3).trans e4) _ fun H5 e5 => hr' rfl H5 ((((e.trans e2).trans e3).trans e4).trans e5) Q fun H6 e6 => q H6 ((((e2.trans e3).trans e4).trans e5).trans e6)
    | false =>
      show Q (.bl false) H4
      exact q H4 ((e2.trans e3).trans e4)⟩
end
/-! promises of defs that change nothing: a value | a new list | data -/
section
variable {D : Type}
def PV (args : D → List V) (pre : D → Hp → Prop) (f : D → V) : Sp := fun vs H Q _ => ∃ d, vs = args d ∧ pre d H ∧ RetV (f d) H Q
def PL (args : D → List V) (pre : D → Hp → Prop) (f : D → List V) : Sp := fun vs H Q _ => ∃ d, vs = args d ∧ pre d H ∧ RetL (f d) H Q
def RetD (R : V → Hp → Prop) (H : Hp) (Q : VK) : Prop := ∀ v H2, Ex H H2 → R v H2 → Q v H2
def PD (args : D → List V) (pre : D → Hp → Prop) (R : D → V → Hp → Prop) : Sp := fun vs H Q _ => ∃ d, vs = args d ∧ pre d H ∧ RetD (R d) H Q
def EvD (te : TE) (σ : L2.St) (H : Hp) (R : V → Hp → Prop) : Prop := ∀ H1, Ex H H1 → ∀ Q : VK, (∀ v H2, Ex H1 H2 → R v H2 → Q v H2) → te σ H1 Q
variable {σ : L2.St} {H : Hp} {E : XK} {ta : TA} {args : D → List V} {pre : D → Hp → Prop}
theorem ev_pv {f : D → V} (d : D) (h : EvA ta σ H (args d)) (hp : ∀ H1, Ex H H1 → pre d H1) : Ev (tCall (PV args pre f) [] E ta) σ H (f d) := fun H1 e Q q =>
  h H1 e _ fun H2 e2 => ⟨d, List.append_nil _, hp H2 (e.trans e2), fun H3 e3 => q H3 (e2.trans e3)⟩
theorem el_pl {f : D → List V} (d : D) (h : EvA ta σ H (args d)) (hp : ∀ H1, Ex H H1 → pre d H1) : EvL (tCall (PL args pre f) [] E ta) σ H (f d) := fun H1 e Q q =>
  h H1 e _ fun H2 e2 => ⟨d, List.append_nil _, hp H2 (e.trans e2), fun p H3 hp e3 h3 => q p H3 (fresh_back e2 hp) (e2.trans e3) h3⟩
theorem ed_pd {R : D → V → Hp → Prop} (d : D) (h : EvA ta σ H (args d)) (hp : ∀ H1, Ex H H1 → pre d H1) : EvD (tCall (PD args pre R) [] E ta) σ H (R d) := fun H1 e Q q =>
  h H1 e _ fun H2 e2 => ⟨d, List.append_nil _, hp H2 (e.trans e2), fun v H3 e3 h3 => q v H3 (e2.trans e3) h3⟩
end

/-! ### lists of data -/
/-- a list of values stands for a list of data -/
def All2 {β : Type} (R : β → V → Hp → Prop) (l : List β) (vs : List V) (H : Hp) : Prop := l.length = vs.length ∧ ∀ (i : Nat) (x : β) (v : V), l[i]? = some x → vs[i]? = some v → R x v H
def Mono {β : Type} (R : β → V → Hp → Prop) : Prop := ∀ x v H H', Ex H H' → R x v H → R x v H'
theorem all2_nil {β : Type} {R : β → V → Hp → Prop} {H : Hp} : All2 R [] [] H := ⟨rfl, fun i x v h => by cases i <;> cases h⟩
theorem All2.imp {β : Type} {R R' : β → V → Hp → Prop} {l : List β} {vs : List V} {H H' : Hp} (h : All2 R l vs H) (e : ∀ x v, R x v H → R' x v H') : All2 R' l vs H' := ⟨h.1, fun i x v a b => e x v (h.2 i x v a b)⟩
theorem All2.mono {β : Type} {R : β → V → Hp → Prop} (hR : Mono R) {l : List β} {vs : List V} {H H' : Hp} (e : Ex H H') (h : All2 R l vs H) : All2 R l vs H' := h.imp fun x v q => hR x v H H' e q
theorem All2.append {β : Type} {R : β → V → Hp → Prop} {l m : List β} {vs us : List V} {H : Hp} (h : All2 R l vs H) (h2 : All2 R m us H) : All2 R (l ++ m) (vs ++ us) H := by
  refine ⟨by rw [List.length_append, List.length_append, h.1, h2.1], fun i y w a b => ?_⟩
  by_cases c : i < l.length
  · rw [List.getElem?_append_left c] at a
    rw [List.getElem?_append_left (by rw [← h.1]; exact c)] at b
    exact h.2 i y w a b
  · rw [List.getElem?_append_right (by omega)] at a
    rw [List.getElem?_append_right (by rw [← h.1]; omega), ← h.1] at b
    exact h2.2 _ y w a b
theorem all2_one {β : Type} {R : β → V → Hp → Prop} {H : Hp} {x : β} {v : V} (hx : R x v H) : All2 R [x] [v] H := ⟨rfl, fun i y w a b => by
  cases i with
  | zero =>
    cases a
    cases b
    exact hx
  | succ n => cases a⟩
theorem All2.snoc {β : Type} {R : β → V → Hp → Prop} {l : List β} {vs : List V} {H : Hp} {x : β} {v : V} (h : All2 R l vs H) (hx : R x v H) : All2 R (l ++ [x]) (vs ++ [v]) H := h.append (all2_one hx)
/-- a list at an address -/
def Row (xs : List V) (v : V) (H : Hp) : Prop := ∃ p, v = .ref p ∧ H p = some (.lst xs)
theorem row_mono : Mono Row := fun x v H H' e ⟨p, a, b⟩ => ⟨p, a, e p _ b⟩
/-- a new list of new lists -/
def NRow (H0 : Hp) (p : Addr) (xs : List V) (v : V) (H : Hp) : Prop := ∃ q, v = .ref q ∧ q ≠ p ∧ H0 q = none ∧ H q = some (.lst xs)
def EvLR (te : TE) (σ : L2.St) (H : Hp) (l : List (List V)) : Prop := ∀ H1, Ex H H1 → ∀ Q : VK, (∀ p vs H2, H1 p = none → Ex H1 H2 → H2 p = some (.lst vs) → All2 (NRow H1 p) l vs H2 → Q (.ref p) H2) → te σ H1 Q
theorem nrow_row {H0 H : Hp} {p : Addr} {l : List (List V)} {vs : List V} (h : All2 (NRow H0 p) l vs H) : All2 Row l vs H := h.imp fun xs v ⟨q, a, _, _, b⟩ => ⟨q, a, b⟩
theorem nrow_refs {H0 H : Hp} {p : Addr} {l : List (List V)} {vs : List V} (h : All2 (NRow H0 p) l vs H) : ∃ qs : List Addr, vs = qs.map V.ref ∧ qs.length = l.length ∧ (∀ q ∈ qs, q ≠ p ∧ H0 q = none) ∧ ∀ (i : Nat) (q : Addr) (x : List V), qs[i]? = some q → l[i]? = some x → H q = some (.lst x) := by
  have e : vs = (vs.map fun v => match v with | .ref q => q | _ => p).map V.ref := by
    rw [List.map_map]
    refine (List.map_id vs).symm.trans (List.map_congr_left fun v hv => ?_)
    obtain ⟨i, hi⟩ := List.mem_iff_getElem?.mp hv
    have hl : i < l.length := by rw [h.1]; exact (List.getElem?_eq_some_iff.mp hi).1
    obtain ⟨q, rfl, _⟩ := h.2 i l[i] v (List.getElem?_eq_getElem hl) hi
    rfl
  refine ⟨_, e, by rw [List.length_map, h.1], fun q hq => ?_, fun i q x hq hx => ?_⟩
  · obtain ⟨i, hi⟩ := List.mem_iff_getElem?.mp hq
    have hl : i < l.length := by rw [h.1, ← List.length_map (as := vs)]; exact (List.getElem?_eq_some_iff.mp hi).1
    have hv : vs[i]? = some (.ref q) := by
      rw [e, List.getElem?_map, hi]
      rfl
    obtain ⟨q', e1, a, b, _⟩ := h.2 i l[i] _ (List.getElem?_eq_getElem hl) hv
    cases e1
    exact ⟨a, b⟩
  · have hv : vs[i]? = some (.ref q) := by
      rw [e, List.getElem?_map, hq]
      rfl
    obtain ⟨q', e1, a, b, c⟩ := h.2 i x _ hx hv
    cases e1
    exact c
section
variable {K : PySem.W.Frag} {σ : L2.St} {H H' : Hp} {ta tb tc te tx tl : TE} {t u : TT} {x y z v : V} {r r' : R2} {α β : Type}
theorem EvD.mono {R : V → Hp → Prop} (e : Ex H H') (h : EvD te σ H R) : EvD te σ H' R := fun H1 a Q q => h H1 (e.trans a) Q q
theorem Ev.toD {R : V → Hp → Prop} (h : Ev te σ H z) (hR : ∀ H2, Ex H H2 → R z H2) : EvD te σ H R := fun H1 e Q q => h H1 e Q fun H2 e2 => q z H2 e2 (hR H2 (e.trans e2))
theorem et_yes : EvT tYes σ H true := fun H1 _ _ q => q H1 (Ex.refl H1)
theorem range_get {xs : List α} (p : α → Bool) (g : α → β) : ∀ n, n ≤ xs.length → ∀ (f : Nat → Bool) (o : Nat → β), (∀ i x, xs[i]? = some x → f i = p x ∧ o i = g x) → ((List.range n).filter f).map o = ((xs.take n).filter p).map g
  | 0, _, _, _, _ => by simp
  | n + 1, hn, f, o, h => by
    have hx : xs[n]? = some xs[n] := List.getElem?_eq_getElem (by omega)
    have q := h n _ hx
    rw [List.range_succ, List.filter_append, List.map_append, range_get p g n (by omega) f o h, List.take_add_one, hx, List.filter_append, List.map_append]
    congr 1
    show _ = List.map g (List.filter p [xs[n]])
    rw [List.filter_cons, List.filter_cons, q.1]
    cases p xs[n] with
    | true =>
      show [o n] = [g xs[n]]
      rw [q.2]
    | false => rfl
/-- a comprehension over a list: each item gives a value -/
theorem el_comp {a : Addr} {l : List α} {en : α → V} {j : Nat} {vs : List Nat} (p : α → Bool) (g : α → V) (h : Ev tl σ H (.ref a)) (hx : SqL K H a (l.map en)) (hz : l.length ≤ 40000) (hw : ∀ x, wipe ((wipe σ vs).set j (some x)) vs = wipe σ vs)
    (ht : ∀ x H1, Ex H H1 → x ∈ l → EvT t ((wipe σ vs).set j (some (en x))) H1 (p x)) (he : ∀ x H1, Ex H H1 → x ∈ l → p x = true → Ev te ((wipe σ vs).set j (some (en x))) H1 (g x)) :
    EvL (tLc (iList K tl) (gName j) t te vs) σ H ((l.filter p).map g) := by
  have q : EvL (tLc (iList K tl) (gName j) t te vs) σ H (given (l.map en).length (fun i => (l[i]?.map p).getD false) (fun i => (l[i]?.map g).getD .non)) := by
    refine el_lcL _ _ h hx (by rw [List.length_map]; exact hz) hw (fun i x H1 e1 hi => ?_) (fun i x H1 e1 hi hf => ?_)
    · rw [List.getElem?_map] at hi
      cases e : l[i]? with
      | none => rw [e] at hi; cases hi
      | some y =>
        rw [e] at hi
        cases hi
        exact ht y H1 e1 (List.mem_of_getElem? e)
    · rw [List.getElem?_map] at hi
      cases e : l[i]? with
      | none => rw [e] at hi; cases hi
      | some y =>
        rw [e] at hi
        cases hi
        rw [e] at hf
        exact he y H1 e1 (List.mem_of_getElem? e) hf
  have e : given (l.map en).length (fun i => (l[i]?.map p).getD false) (fun i => (l[i]?.map g).getD .non) = (l.filter p).map g := by
    unfold given
    rw [List.length_map, range_get (xs := l) p g l.length (Nat.le_refl _) _ _ (fun i x hi => by rw [hi]; exact ⟨rfl, rfl⟩), List.take_length]
  rw [e] at q
  exact q
theorem el_compAll {a : Addr} {l : List α} {en : α → V} {j : Nat} {vs : List Nat} (g : α → V) (h : Ev tl σ H (.ref a)) (hx : SqL K H a (l.map en)) (hz : l.length ≤ 40000) (hw : ∀ x, wipe ((wipe σ vs).set j (some x)) vs = wipe σ vs)
    (he : ∀ x H1, Ex H H1 → x ∈ l → Ev te ((wipe σ vs).set j (some (en x))) H1 (g x)) :
    EvL (tLc (iList K tl) (gName j) tYes te vs) σ H (l.map g) := by
  have q := el_comp (t := tYes) (fun _ => true) g h hx hz hw (fun _ _ _ _ => et_yes) (fun x H1 e m _ => he x H1 e m)
  rw [List.filter_eq_self.mpr (fun _ _ => rfl)] at q
  exact q
/-- one turn of a comprehension whose items are new lists -/
def Cr (f : Nat → Bool) (o : Nat → List V) (H : Hp) (Dl : Addr) (i : Nat) (H' : Hp) : Prop := H Dl = none ∧ Ex H H' ∧ ∃ vs, H' Dl = some (.lst vs) ∧ All2 (NRow H Dl) (((List.range i).filter f).map o) vs H'
theorem cr_turn {f : Nat → Bool} {o : Nat → List V} {Dl : Addr} {i : Nat} {σ2 : L2.St} (p : Cr f o H Dl i H') (hi : i < 50000) (ht : EvT t σ2 H (f i)) (he : f i = true → EvL te σ2 H (o i)) :
    t σ2 H' fun b H3 => if b = true then te σ2 H3 fun y H4 => ∃ acc, H4 Dl = some (.lst acc) ∧ acc.length < sizeLine ∧ Cr f o H Dl (i + 1) (upd H4 Dl (.lst (acc ++ [y]))) else Cr f o H Dl (i + 1) H3 := by
  obtain ⟨p1, p2, vs, p3, p4⟩ := p
  have hlen : vs.length ≤ i := by
    rw [← p4.1, List.length_map]
    have h := List.length_filter_le f (List.range i)
    rw [List.length_range] at h
    exact h
  refine ht H' p2 _ fun H3 e3 => ?_
  cases hf : f i with
  | true =>
    show te σ2 H3 fun y H4 => ∃ acc, H4 Dl = some (.lst acc) ∧ acc.length < sizeLine ∧ Cr f o H Dl (i + 1) (upd H4 Dl (.lst (acc ++ [y])))
    refine he hf H3 (p2.trans e3) _ fun y H4 hy e4 h4 => ⟨vs, e4 Dl _ (e3 Dl _ p3), sz_lt (by omega), p1, Ex.mut ((p2.trans e3).trans e4) p1, vs ++ [.ref y], upd_same, ?_⟩
    have hyD : y ≠ Dl := fun z => by
      rw [z, e3 Dl _ p3] at hy
      cases hy
    rw [List.range_succ, List.filter_append, List.map_append, List.filter_cons, if_pos hf]
    refine All2.snoc (p4.imp fun xs v ⟨a, b, c, n, d⟩ => ⟨a, b, c, n, ?_⟩) ⟨y, rfl, hyD, fresh_back (p2.trans e3) hy, ?_⟩
    · rw [upd_ne c]
      exact e4 a _ (e3 a _ d)
    · rw [upd_ne hyD]
      exact h4
  | false =>
    show Cr f o H Dl (i + 1) H3
    refine ⟨p1, p2.trans e3, vs, e3 Dl _ p3, ?_⟩
    rw [List.range_succ, List.filter_append, List.map_append, List.filter_cons, if_neg (by rw [hf]; decide)]
    show All2 _ (_ ++ []) vs H3
    rw [List.append_nil]
    exact p4.imp fun xs v ⟨a, b, c, n, d⟩ => ⟨a, b, c, n, e3 a _ d⟩
theorem er_lcL {a : Addr} {xs : List V} {j : Nat} {vs : List Nat} (f : Nat → Bool) (o : Nat → List V) (h : Ev tl σ H (.ref a)) (hx : SqL K H a xs) (hz : xs.length ≤ 40000) (hw : ∀ x, wipe ((wipe σ vs).set j (some x)) vs = wipe σ vs)
    (ht : ∀ (i : Nat) (x : V) H1, Ex H H1 → xs[i]? = some x → EvT t ((wipe σ vs).set j (some x)) H1 (f i)) (he : ∀ (i : Nat) (x : V) H1, Ex H H1 → xs[i]? = some x → f i = true → EvL te ((wipe σ vs).set j (some x)) H1 (o i)) :
    EvLR (tLc (iList K tl) (gName j) t te vs) σ H (((List.range xs.length).filter f).map o) := fun H0 e Q q => h H0 e _ fun H1 e1 => ⟨a, rfl, ⟨xs, ex_l (e.trans e1) hx⟩, fun Dl hD =>
  lc_list (xs := xs) (Cr f o H1 Dl) ⟨hD, Ex.new hD, [], upd_same, all2_nil⟩ (fun i H' _ p => ex_l ((e.trans e1).trans p.2.1) hx) (fun i x H' hi p => ⟨hw x, cr_turn p (by have := (List.getElem?_eq_some_iff.mp hi).1; omega) (ht i x H1 (e.trans e1) hi) (fun hf => he i x H1 (e.trans e1) hi hf)⟩)
    (fun H' p => by
      obtain ⟨p1, p2, vs, h1, h2⟩ := p
      exact q Dl vs H' (fresh_back e1 p1) (e1.trans p2) h1 (h2.imp fun xs v ⟨a, b, c, n, d⟩ => ⟨a, b, c, fresh_back e1 n, d⟩))⟩
theorem er_lcAll {a : Addr} {l : List α} {en : α → V} {j : Nat} {vs : List Nat} (g : α → List V) (h : Ev tl σ H (.ref a)) (hx : SqL K H a (l.map en)) (hz : l.length ≤ 40000) (hw : ∀ x, wipe ((wipe σ vs).set j (some x)) vs = wipe σ vs)
    (he : ∀ x H1, Ex H H1 → x ∈ l → EvL te ((wipe σ vs).set j (some (en x))) H1 (g x)) : EvLR (tLc (iList K tl) (gName j) tYes te vs) σ H (l.map g) := by
  have q : EvLR (tLc (iList K tl) (gName j) tYes te vs) σ H (((List.range (l.map en).length).filter fun _ => true).map fun i => (l[i]?.map g).getD []) := by
    refine er_lcL (fun _ => true) _ h hx (by rw [List.length_map]; exact hz) hw (fun i x H1 e1 hi => et_yes) (fun i x H1 e1 hi hf => ?_)
    rw [List.getElem?_map] at hi
    cases e : l[i]? with
    | none => rw [e] at hi; cases hi
    | some y =>
      rw [e] at hi
      cases hi
      exact he y H1 e1 (List.mem_of_getElem? e)
  have e : ((List.range (l.map en).length).filter fun _ => true).map (fun i => (l[i]?.map g).getD []) = l.map g := by
    rw [List.length_map, range_get (xs := l) (fun _ => true) g l.length (Nat.le_refl _) _ _ (fun i x hi => by rw [hi]; exact ⟨rfl, rfl⟩), List.take_length, List.filter_eq_self.mpr (fun _ _ => rfl)]
  rw [e] at q
  exact q
/-! ### sums, tests of all, the least -/
theorem ev_sum {ns : List Int} (h : EvL te σ H (ns.map V.int)) : Ev (tCB (rSum K) (tCons te tNil)) σ H (.int ns.sum) := fun H1 e Q q =>
  h H1 e _ fun p H2 _ e2 h2 => ⟨p, ns, rfl, sq_of h2, q H2 e2⟩
theorem ev_all {bs : List Bool} (h : EvL te σ H (bs.map V.bl)) : Ev (tCB (rAll K) (tCons te tNil)) σ H (.bl (bs.all id)) := fun H1 e Q q =>
  h H1 e _ fun p H2 _ e2 h2 => ⟨p, bs, rfl, sq_of h2, q H2 e2⟩
theorem ev_any {bs : List Bool} (h : EvL te σ H (bs.map V.bl)) : Ev (tCB (rAny K) (tCons te tNil)) σ H (.bl (bs.any id)) := fun H1 e Q q =>
  h H1 e _ fun p H2 _ e2 h2 => ⟨p, bs, rfl, sq_of h2, q H2 e2⟩
theorem ev_minL {ns : List Int} {k : Int} (h : EvL te σ H (ns.map V.int)) (h0 : 0 < ns.length) (hk : ∀ m, m ∈ ns → (∀ y, y ∈ ns → m ≤ y) → m = k) : Ev (tCB (rMin K) (tCons te tNil)) σ H (.int k) := fun H1 e Q q =>
  h H1 e _ fun p H2 _ e2 h2 => ⟨p, ns, rfl, sq_of h2, h0, fun m a b => by rw [hk m a b]; exact q H2 e2⟩
theorem ev_maxL {ns : List Int} {k : Int} (h : EvL te σ H (ns.map V.int)) (h0 : 0 < ns.length) (hk : ∀ m, m ∈ ns → (∀ y, y ∈ ns → y ≤ m) → m = k) : Ev (tCB (rMax K) (tCons te tNil)) σ H (.int k) := fun H1 e Q q =>
  h H1 e _ fun p H2 _ e2 h2 => ⟨p, ns, rfl, sq_of h2, h0, fun m a b => by rw [hk m a b]; exact q H2 e2⟩
theorem ev_lenM {p : Addr} {l : List α} {en : α → V} (ha : Ev ta σ H (.ref p)) (h : SqL K H p (l.map en)) : Ev (tCB (rLenS K) (tCons ta tNil)) σ H (.int (l.length : Int)) := by
  have q := ev_len ha h
  rw [List.length_map] at q
  exact q
end

/-! ### objects that change -/
/-- all but what W names stands as it was -/
def Fr (W : Addr → Prop) (H H' : Hp) : Prop := ∀ b o, H b = some o → ¬ W b → H' b = some o
theorem _root_.Evl.Ex.fr {W : Addr → Prop} {H H' : Hp} (e : Ex H H') : Fr W H H' := fun b o h _ => e b o h
theorem Fr.trans {W : Addr → Prop} {H H1 H2 : Hp} (a : Fr W H H1) (b : Fr W H1 H2) : Fr W H H2 := fun x o h n => b x o (a x o h n) n
theorem Fr.mono {W W' : Addr → Prop} {H H1 : Hp} (a : Fr W H H1) (h : ∀ b, W b → W' b) : Fr W' H H1 := fun x o e n => a x o e fun z => n (h x z)
theorem fr_upd {W : Addr → Prop} {H : Hp} {a : Addr} {o : HO} (h : W a) : Fr W H (upd H a o) := fun b x e n => by
  rw [upd_ne (fun z => n (by rw [z]; exact h))]
  exact e
theorem fr_one {H : Hp} {a : Addr} {o : HO} : Fr (fun x => x = a) H (upd H a o) := fr_upd (W := fun x => x = a) rfl
theorem ne_of_none_rev {H : Hp} {a b : Addr} {o : HO} (h' : H a = none) (h : H b = some o) : a ≠ b := (ne_of_none h h').symm
def PH {D : Type} (args : D → List V) (pre : D → Hp → Prop) (post : D → Hp → V → Hp → Prop) : Sp := fun vs H Q _ => ∃ d, vs = args d ∧ pre d H ∧ ∀ v H', post d H v H' → Q v H'
theorem sql_fr {K : PySem.W.Frag} {W : Addr → Prop} {H H' : Hp} {l : Addr} {xs : List V} (h : SqL K H l xs) (f : Fr W H H') (n : W l → (∀ ys, H l ≠ some (HO.lst ys)) ∧ ∀ o ys, H l ≠ some (HO.frz o (HO.lst ys))) : SqL K H' l xs := by
  rcases h with h | h
  · rcases h with h | ⟨o, h⟩
    · exact .inl (.inl (f l _ h fun w => (n w).1 _ h))
    · exact .inl (.inr ⟨o, f l _ h fun w => (n w).2 _ _ h⟩)
  · exact .inr h
section
variable {K : PySem.W.Frag} {σ : L2.St} {H H' : Hp} {ta tb tc te tx tv : TE} {t u : TT} {x y z v : V} {D : Ends} {tz : TS} {a C dx : Addr} {fs : List (Str × V)} {f : Str}
theorem ev_fld (ha : Ev ta σ H (.ref a)) (ho : H a = some (.ins C dx fs)) (hc : Cls K C) (hn : NoAttr K C f) (hl : fs.lookup f = some v) : Ev (tFld K ta f) σ H v := fun H1 e Q q =>
  ha H1 e _ fun H2 e2 => ⟨a, C, dx, fs, v, rfl, e2 a _ (e a _ ho), hc, hn, hl, q H2 e2⟩
theorem s_fld (hv : Ev tv σ H y) (ha : Ev ta σ H (.ref a)) (ho : H a = some (.ins C dx fs)) (hc : Cls K C) (hn : NoAttr K C f) (hl : fs.length < 1000) (k : ∀ H1, Ex H H1 → D.nx σ (upd H1 a (.ins C dx (putF f y fs)))) : sFld K ta tv f D σ H :=
  hv H (Ex.refl H) _ fun H1 e1 => ha H1 e1 _ fun H2 e2 => ⟨a, C, dx, fs, rfl, e2 a _ (e1 a _ ho), hc, hn, hl, k H2 (e1.trans e2)⟩
theorem q_fld (hv : Ev tv σ H y) (ha : Ev ta σ H (.ref a)) (ho : H a = some (.ins C dx fs)) (hc : Cls K C) (hn : NoAttr K C f) (hl : fs.length < 1000) (k : ∀ H1, Ex H H1 → tz D σ (upd H1 a (.ins C dx (putF f y fs)))) : tSeq (sFld K ta tv f) tz D σ H :=
  s_fld (D := { D with nx := tz D }) hv ha ho hc hn hl k
theorem q_fldaug {g : Int → Int → Int} {i j : Int} (ha : Ev ta σ H (.ref a)) (ho : H a = some (.ins C dx fs)) (hc : Cls K C) (hn : NoAttr K C f) (hk : fs.lookup f = some (.int i)) (hv : Ev tv σ H (.int j)) (hl : fs.length < 1000)
    (hr : ∀ (H1 : Hp) (Q : VK), Q (.int (g i j)) H1 → rd (.int i) (.int j) H1 Q) (k : ∀ H1, Ex H H1 → tz D σ (upd H1 a (.ins C dx (putF f (.int (g i j)) fs)))) : tSeq (sFldAug K ta tv rd f) tz D σ H :=
  ha H (Ex.refl H) _ fun H1 e1 => ⟨a, C, dx, fs, _, rfl, e1 a _ ho, hc, hn, hk, hv H1 e1 _ fun H2 e2 => hr H2 _ ⟨dx, fs, e2 a _ (e1 a _ ho), hl, k H2 (e1.trans e2)⟩⟩
theorem radd_go {i j : Int} (H1 : Hp) (Q : VK) (q : Q (.int (i + j)) H1) : rAdd (.int i) (.int j) H1 Q := ⟨i, j, rfl, rfl, q⟩
theorem q_fldR {l : List (List V)} (hv : EvLR tv σ H l) (ha : Ev ta σ H (.ref a)) (ho : H a = some (.ins C dx fs)) (hc : Cls K C) (hn : NoAttr K C f) (hl : fs.length < 1000)
    (k : ∀ p vs H1, H p = none → Ex H H1 → H1 p = some (.lst vs) → All2 (NRow H p) l vs H1 → tz D σ (upd H1 a (.ins C dx (putF f (.ref p) fs)))) : tSeq (sFld K ta tv f) tz D σ H :=
  hv H (Ex.refl H) _ fun p vs H1 hp e1 h1 h2 => ha H1 e1 _ fun H2 e2 => ⟨a, C, dx, fs, rfl, e2 a _ (e1 a _ ho), hc, hn, hl, k p vs H2 hp (e1.trans e2) (e2 p _ h1) (h2.imp fun xs v ⟨q, a, b, c, d⟩ => ⟨q, a, b, c, e2 q _ d⟩)⟩
theorem s_fldR {l : List (List V)} (hv : EvLR tv σ H l) (ha : Ev ta σ H (.ref a)) (ho : H a = some (.ins C dx fs)) (hc : Cls K C) (hn : NoAttr K C f) (hl : fs.length < 1000)
    (k : ∀ p vs H1, H p = none → Ex H H1 → H1 p = some (.lst vs) → All2 (NRow H p) l vs H1 → D.nx σ (upd H1 a (.ins C dx (putF f (.ref p) fs)))) : sFld K ta tv f D σ H :=
  hv H (Ex.refl H) _ fun p vs H1 hp e1 h1 h2 => ha H1 e1 _ fun H2 e2 => ⟨a, C, dx, fs, rfl, e2 a _ (e1 a _ ho), hc, hn, hl, k p vs H2 hp (e1.trans e2) (e2 p _ h1) (h2.imp fun xs v ⟨q, a, b, c, d⟩ => ⟨q, a, b, c, e2 q _ d⟩)⟩
theorem er_one {xs : List V} (h : EvL te σ H xs) : EvLR (tLst (tCons te tNil)) σ H [xs] := fun H1 e Q q =>
  h H1 e _ fun y H2 ny e2 h2 => ⟨sz_of (show 1 ≤ 100000 by decide), fun p hp => q p [.ref y] _ (fresh_back e2 hp) (e2.trans (Ex.new hp)) upd_same (all2_one ⟨y, rfl, ne_of_none h2 hp, ny, by
    rw [upd_ne (ne_of_none h2 hp)]
    exact h2⟩)⟩
theorem q_fldL {xs : List V} (hv : EvL tv σ H xs) (ha : Ev ta σ H (.ref a)) (ho : H a = some (.ins C dx fs)) (hc : Cls K C) (hn : NoAttr K C f) (hl : fs.length < 1000)
    (k : ∀ p H1, H p = none → Ex H H1 → H1 p = some (.lst xs) → tz D σ (upd H1 a (.ins C dx (putF f (.ref p) fs)))) : tSeq (sFld K ta tv f) tz D σ H :=
  hv H (Ex.refl H) _ fun p H1 hp e1 h1 => ha H1 e1 _ fun H2 e2 => ⟨a, C, dx, fs, rfl, e2 a _ (e1 a _ ho), hc, hn, hl, k p H2 hp (e1.trans e2) (e2 p _ h1)⟩
end
/-! ### a list of calls at a place -/
theorem lk_here {k : Str} {v : V} {r : List (Str × V)} : List.lookup k ((k, v) :: r) = some v := by
  have e : (k == k) = true := beq_self_eq_true k
  simp only [List.lookup, e]
theorem lk_past {k g : Str} {v : V} {r : List (Str × V)} (h : (k == g) = false) : List.lookup k ((g, v) :: r) = List.lookup k r := by
  simp only [List.lookup, h]
theorem put_here {f : Str} {v x : V} {r : List (Str × V)} : putF f v ((f, x) :: r) = (f, v) :: r := if_pos rfl
theorem put_past {f g : Str} {v x : V} {r : List (Str × V)} (h : ¬ g = f) : putF f v ((g, x) :: r) = (g, x) :: putF f v r := if_neg h
end Tbl
set_option Elab.async false
set_option linter.all false
set_option maxRecDepth 100000
set_option maxHeartbeats 2000000
namespace Tbl
open PySem PySem.Spec PyProof.Rows L2 Evl
/-! ### a written dict whose keys are whole numbers -/
def intKeysB (l : List DictEntry) : Bool := l.all fun e => match e.key with
  | .int k _ => e.hash == hashInt k
  | _ => false
theorem intKeys_all {l : List DictEntry} (h : intKeysB l = true) : ∀ e ∈ l, ∃ k t, e.key = .int k t ∧ e.hash = hashInt k := fun e he => by
  have q := List.all_eq_true.mp h e he
  cases hk : e.key with
  | int k t =>
    rw [hk] at q
    exact ⟨k, t, rfl, beq_iff_eq.mp q⟩
  | _ => rw [hk] at q; cases q
structure WTab (K : PySem.W.Frag) (d : Addr) (es : Array DictEntry) : Prop where
  at_ : ∃ n, K.lookup d = some ⟨.type "dict", none, .dict es n, #[]⟩
  keys : intKeysB es.toList = true
def WInt (K : PySem.W.Frag) (d : Addr) (i : Int) (v : V) : Prop := ∃ es u, WTab K d es ∧ findBy Value.isInt es i = some u ∧ RelV v u
def rIxW (K : PySem.W.Frag) : R2 := fun x y H Q => ∃ d i v, x = .ref d ∧ y = .int i ∧ WInt K d i v ∧ Q v H
theorem mapOf_int {prog : Program} {w : World} {K : PySem.W.Frag} {h : Heap} {a : Addr} {es : Array DictEntry} {n : Nat} (X : K.In h) (hl : K.lookup a = some ⟨.type "dict", none, .dict es n, #[]⟩) (hk : intKeysB es.toList = true) :
    h.MapOf (intKind prog w) a (fun k => findBy Value.isInt es k) :=
  ⟨_, es, n, X _ _ hl, ⟨rfl, rfl, rfl⟩, rfl, fun e he => by
    obtain ⟨k, t, e1, e2⟩ := intKeys_all hk e (Array.mem_toList_iff.mpr he)
    exact ⟨k, by rw [e1]; exact intKind_is prog w k t, e2⟩, fun _ => rfl⟩
section
variable {X : Cx}
theorem ix_wdict : IxR X (rIxW X.K) := by
  intro value slice pins s σ H x y v u Q I rx ry h hs
  obtain ⟨p, i, r, rfl, rfl, ⟨es, u0, ⟨⟨n, hl⟩, hk⟩, e, ru⟩, q⟩ := h
  obtain rfl : v = Value.ref p := rx
  obtain ⟨t, rfl⟩ := ry
  have hm := mapOf_int (prog := X.prog) (w := X.w) I.kIn hl hk
  exact tail_any hm.typeIs slot_dict_getitem.lookup (wpAny_getItem_of (intKind_is X.prog X.w i t) hm e ⟨r, H, I.tok _, ru, q⟩) hs
end
section
variable {K : PySem.W.Frag} {σ : L2.St} {H H' : Hp} {ta tb tc te tx tv : TE} {t u : TT} {x y z v : V} {D : Ends} {tz tu tw : TS} {a C dx : Addr} {fs : List (Str × V)} {f : Str}
theorem rv_ixW {d : Addr} {i : Int} (h : WInt K d i v) : RV (rIxW K) (.ref d) (.int i) H v := fun H1 _ _ q => ⟨d, i, v, rfl, rfl, h, q H1 (Ex.refl H1)⟩
theorem rv_ixTn {p : Addr} {xs : List V} {i : Nat} (h : SqT K H p xs) (ha : xs[i]? = some v) : RV (rIxT K) (.ref p) (.int (i : Int)) H v := rv_ixT h (atI_nat ha)
theorem rv_ixLn {p : Addr} {xs : List V} {i : Nat} (h : SqL K H p xs) (ha : xs[i]? = some v) : RV (rIxL K) (.ref p) (.int (i : Int)) H v := rv_ixL h (atI_nat ha)
/-! ### calls that change the heap -/
def GoH (te : TE) (σ : L2.St) (H : Hp) (P : V → Hp → Prop) : Prop := ∀ Q : VK, (∀ v H2, P v H2 → Q v H2) → te σ H Q
theorem go_meth {Dt : Type} {args : Dt → List V} {pre : Dt → Hp → Prop} {post : Dt → Hp → V → Hp → Prop} {m : Str} {E : XK} {t : TA} {vs : List V} (d : Dt) (ha : Ev ta σ H (.ref a)) (ho : H a = some (.ins C dx fs)) (hm : fs.lookup m = none) (ht : EvA t σ H vs) (he : .ref a :: vs = args d)
    (hp : ∀ H1, Ex H H1 → pre d H1) : GoH (tMeth C m (PH args pre post) [] E ta t) σ H (fun v H2 => ∃ H1, Ex H H1 ∧ post d H1 v H2) := fun Q q =>
  ha H (Ex.refl H) _ fun H1 e1 => ⟨a, dx, fs, rfl, e1 a _ ho, hm, ht H1 e1 _ fun H2 e2 => ⟨d, by rw [List.append_nil]; exact he, hp H2 (e1.trans e2), fun v H3 h3 => q v H3 ⟨H2, e1.trans e2, h3⟩⟩⟩
theorem ev_methV {Dt : Type} {args : Dt → List V} {pre : Dt → Hp → Prop} {g : Dt → V} {m : Str} {E : XK} {t : TA} {vs : List V} (d : Dt) (ha : Ev ta σ H (.ref a)) (ho : H a = some (.ins C dx fs)) (hm : fs.lookup m = none) (ht : EvA t σ H vs) (he : .ref a :: vs = args d)
    (hp : ∀ H1, Ex H H1 → pre d H1) : Ev (tMeth C m (PV args pre g) [] E ta t) σ H (g d) := fun H0 e0 Q q =>
  ha H0 e0 _ fun H1 e1 => ⟨a, dx, fs, rfl, e1 a _ (e0 a _ ho), hm, ht H1 (e0.trans e1) _ fun H2 e2 => ⟨d, by rw [List.append_nil]; exact he, hp H2 ((e0.trans e1).trans e2), fun H3 e3 => q H3 ((e1.trans e2).trans e3)⟩⟩
theorem go_call {Dt : Type} {args : Dt → List V} {pre : Dt → Hp → Prop} {post : Dt → Hp → V → Hp → Prop} {E : XK} {t : TA} (d : Dt) (ht : EvA t σ H (args d)) (hp : ∀ H1, Ex H H1 → pre d H1) : GoH (tCall (PH args pre post) [] E t) σ H (fun v H2 => ∃ H1, Ex H H1 ∧ post d H1 v H2) := fun Q q =>
  ht H (Ex.refl H) _ fun H2 e2 => ⟨d, List.append_nil _, hp H2 e2, fun v H3 h3 => q v H3 ⟨H2, e2, h3⟩⟩
theorem go_make {Dt : Type} {args : Dt → List V} {pre : Dt → Hp → Prop} {post : Dt → Hp → V → Hp → Prop} {E : XK} {t : TA} {vs : List V} (g : Addr → Addr → Dt) (ht : EvA t σ H vs) (he : ∀ x dx, .ref x :: vs = args (g x dx))
    (hp : ∀ H1 x dx, Ex H H1 → H1 x = none → H1 dx = none → dx ≠ x → pre (g x dx) (upd (upd H1 dx (.own x)) x (.ins C dx [])))
    (hv : ∀ H1 x dx v H2, post (g x dx) H1 v H2 → v = .non) : GoH (tMake C (PH args pre post) [] E t) σ H (fun v H2 => ∃ H1 x dx, Ex H H1 ∧ H1 x = none ∧ H1 dx = none ∧ dx ≠ x ∧ v = .ref x ∧ post (g x dx) (upd (upd H1 dx (.own x)) x (.ins C dx [])) .non H2) := fun Q q =>
  ht H (Ex.refl H) _ fun H1 e1 => fun x dx nx nd ne => ⟨g x dx, by rw [List.append_nil]; exact he x dx, hp H1 x dx e1 nx nd ne, fun v H2 h2 => by
    obtain rfl := hv _ _ _ _ _ h2
    exact ⟨rfl, q _ H2 ⟨H1, x, dx, e1, nx, nd, ne, rfl, h2⟩⟩⟩
theorem g_asg {P : V → Hp → Prop} {i : Nat} (h : GoH te σ H P) (k : ∀ v H2, P v H2 → tz D (σ.set i (some v)) H2) : tSeq (tAsg te (gName i)) tz D σ H := h _ k
theorem g_asg1 {P : V → Hp → Prop} {i : Nat} (h : GoH te σ H P) (k : ∀ v H2, P v H2 → D.nx (σ.set i (some v)) H2) : tAsg te (gName i) D σ H := h _ k
theorem g_ret {P : V → Hp → Prop} (h : GoH te σ H P) (k : ∀ v H2, P v H2 → D.rt v H2) : tRet te D σ H := h _ k
/-- xs.append(f(..)), f changing the heap but for xs -/
theorem g_app {P : V → Hp → Prop} {l : Addr} {xs : List V} (ha : Ev ta σ H (.ref l)) (hl : H l = some (.lst xs)) (h : ∀ H1, Ex H H1 → GoH te σ H1 P) (hz : xs.length < 100000) (hk : ∀ v H2, P v H2 → H2 l = some (.lst xs)) (k : ∀ v H2, P v H2 → D.nx σ (upd H2 l (.lst (xs ++ [v])))) :
    tDrop (tBM K "list" rAppend ta (tCons te tNil)) D σ H := ha H (Ex.refl H) _ fun H1 e1 =>
  ⟨Or.inl ⟨rfl, xs, sq_of (e1 l _ hl)⟩, h H1 e1 _ fun v H2 p => ⟨l, xs, v, rfl, rfl, hk v H2 p, sz_lt hz, k v H2 p⟩⟩
/-- xs.extend(ys) -/
theorem s_ext {l b : Addr} {xs ys : List V} (hl : H l = some (.lst xs)) (hb : H b = some (.lst ys)) (ha : Ev ta σ H (.ref l)) (h : Ev te σ H (.ref b)) (hz : xs.length + ys.length ≤ 100000) (k : ∀ H1, Ex H H1 → D.nx σ (upd H1 l (.lst (xs ++ ys)))) :
    tDrop (tBM K "list" rExtend ta (tCons te tNil)) D σ H := ha H (Ex.refl H) _ fun H1 e1 =>
  ⟨Or.inl ⟨rfl, xs, sq_of (e1 l _ hl)⟩, h H1 e1 _ fun H2 e2 => ⟨l, b, xs, ys, rfl, rfl, e2 l _ (e1 l _ hl), e2 b _ (e1 b _ hb), sz_of hz, k H2 (e1.trans e2)⟩⟩
theorem q_ext {l b : Addr} {xs ys : List V} (hl : H l = some (.lst xs)) (hb : H b = some (.lst ys)) (ha : Ev ta σ H (.ref l)) (h : Ev te σ H (.ref b)) (hz : xs.length + ys.length ≤ 100000) (k : ∀ H1, Ex H H1 → tz D σ (upd H1 l (.lst (xs ++ ys)))) :
    tSeq (tDrop (tBM K "list" rExtend ta (tCons te tNil))) tz D σ H := s_ext (D := { D with nx := tz D }) hl hb ha h hz k
end
theorem Fr.mut {W : Addr → Prop} {H H' : Hp} {p : Addr} {o : HO} (f : Fr W H H') (h : H p = none) : Fr W H (upd H' p o) := fun b x e n => by
  rw [upd_ne (ne_of_none e h)]
  exact f b x e n
theorem Fr.fresh {W : Addr → Prop} {H H' : Hp} {p : Addr} (f : Fr W H H') (h : H' p = none) (n : ¬ W p) : H p = none := by
  cases hh : H p with
  | none => rfl
  | some o =>
    rw [f p o hh n] at h
    cases h
/-- rows that a reader hands over: new lists, all different -/
structure Rows (xs : List (List Int)) (qs : List Addr) (H H' : Hp) : Prop where
  len : qs.length = xs.length
  nd : qs.Nodup
  new : ∀ q ∈ qs, H q = none
  at_ : ∀ (i : Nat) (q : Addr) (x : List Int), qs[i]? = some q → xs[i]? = some x → H' q = some (.lst (x.map V.int))
theorem rows_nil {H H' : Hp} : Rows [] [] H H' := ⟨rfl, .nil, fun q h => (by cases h), fun i q x h => (by cases i <;> cases h)⟩
theorem Rows.snoc {xs : List (List Int)} {qs : List Addr} {H H' H2 : Hp} {q : Addr} {x : List Int} (h : Rows xs qs H H') (hq : H q = none) (hn : ∀ b ∈ qs, b ≠ q) (hx : H2 q = some (.lst (x.map V.int))) (keep : ∀ b ∈ qs, ∀ o, H' b = some o → H2 b = some o) : Rows (xs ++ [x]) (qs ++ [q]) H H2 := by
  refine ⟨by rw [List.length_append, List.length_append, h.len]; rfl, ?_, fun b hb => ?_, fun i b y hb hy => ?_⟩
  · rw [List.nodup_append]
    exact ⟨h.nd, by simp, fun b hb c hc => by rw [List.mem_singleton.mp hc]; exact hn b hb⟩
  · rcases List.mem_append.mp hb with hb | hb
    · exact h.new b hb
    · rw [List.mem_singleton.mp hb]; exact hq
  · by_cases c : i < qs.length
    · rw [List.getElem?_append_left c] at hb
      rw [List.getElem?_append_left (by rw [← h.len]; exact c)] at hy
      exact keep b (List.mem_of_getElem? hb) _ (h.at_ i b y hb hy)
    · rw [List.getElem?_append_right (by omega)] at hb
      rw [List.getElem?_append_right (by rw [← h.len]; omega), ← h.len] at hy
      cases e : i - qs.length with
      | zero =>
        rw [e] at hb hy
        cases hb
        cases hy
        exact hx
      | succ n =>
        rw [e] at hb
        cases hb
theorem Rows.move {xs : List (List Int)} {qs : List Addr} {H H' H2 : Hp} (h : Rows xs qs H H') (keep : ∀ b ∈ qs, ∀ o, H' b = some o → H2 b = some o) : Rows xs qs H H2 :=
  ⟨h.len, h.nd, h.new, fun i q x a b => keep q (List.mem_of_getElem? a) _ (h.at_ i q x a b)⟩
/-! ### lists that stand somewhere, joined -/
def EvS (te : TE) (σ : L2.St) (H : Hp) (xs : List V) : Prop := ∀ H1, Ex H H1 → ∀ Q : VK, (∀ p H2, Ex H1 H2 → H2 p = some (.lst xs) → Q (.ref p) H2) → te σ H1 Q
section
variable {K : PySem.W.Frag} {σ : L2.St} {H H' : Hp} {ta tb tc te tx tv : TE} {xs ys : List V}
theorem es_of {p : Addr} (h : Ev te σ H (.ref p)) (hx : H p = some (.lst xs)) : EvS te σ H xs := fun H1 e Q q => h H1 e Q fun H2 e2 => q p H2 e2 (e2 p _ (e p _ hx))
theorem es_new (h : EvL te σ H xs) : EvS te σ H xs := fun H1 e Q q => h H1 e Q fun p H2 _ e2 h2 => q p H2 e2 h2
theorem el_cat (ha : EvS ta σ H xs) (hb : EvS tb σ H ys) (hz : xs.length + ys.length ≤ 100000) : EvL (tOp rCat ta tb) σ H (xs ++ ys) := fun H1 e Q q =>
  ha H1 e _ fun p H2 e2 h2 => hb H2 (e.trans e2) _ fun b H3 e3 h3 => ⟨p, b, xs, ys, rfl, rfl, e3 p _ h2, h3, sz_of hz, fun r hr => q r _ (fresh_back (e2.trans e3) hr) ((e2.trans e3).trans (Ex.new hr)) upd_same⟩
/-- a list that stands and a new list of new lists, joined -/
theorem ed_catR {l : List (List V)} (ha : EvS ta σ H xs) (hb : EvLR tb σ H l) (hz : xs.length + l.length ≤ 100000) : EvD (tOp rCat ta tb) σ H (fun v H2 => ∃ p us, v = .ref p ∧ H2 p = some (.lst (xs ++ us)) ∧ All2 Row l us H2) := fun H1 e Q q =>
  ha H1 e _ fun p H2 e2 h2 => hb H2 (e.trans e2) _ fun b us H3 _ e3 h3 h4 => ⟨p, b, xs, us, rfl, rfl, e3 p _ h2, h3, sz_of (by rw [← h4.1]; exact hz), fun r hr => q _ _ ((e2.trans e3).trans (Ex.new hr)) ⟨r, us, rfl, upd_same, (nrow_row h4).mono row_mono (Ex.new hr)⟩⟩
theorem s_asgD {D : Ends} {R : V → Hp → Prop} {i : Nat} (h : EvD te σ H R) (k : ∀ v H1, Ex H H1 → R v H1 → D.nx (σ.set i (some v)) H1) : tAsg te (gName i) D σ H := h H (Ex.refl H) _ fun v H1 e r => k v H1 e r
theorem q_asgD {D : Ends} {tz : TS} {R : V → Hp → Prop} {i : Nat} (h : EvD te σ H R) (k : ∀ v H1, Ex H H1 → R v H1 → tz D (σ.set i (some v)) H1) : tSeq (tAsg te (gName i)) tz D σ H := s_asgD (D := { D with nx := tz D }) h k
theorem s_retD {D : Ends} {R : V → Hp → Prop} (h : EvD te σ H R) (k : ∀ v H1, Ex H H1 → R v H1 → D.rt v H1) : tRet te D σ H := h H (Ex.refl H) _ fun v H1 e r => k v H1 e r
theorem ev_neg {i : Int} (h : Ev te σ H (.int i)) : Ev (tUn (rU fun i => .int (-i)) te) σ H (.int (-i)) := ev_un h ru_neg
end
section
variable {K : PySem.W.Frag} {σ : L2.St} {H H' : Hp} {ta tb tc te tx tv : TE} {x y z v : V} {D : Ends} {tz : TS}
theorem go_call3 {Dt : Type} {args : Dt → List V} {pre : Dt → Hp → Prop} {post : Dt → Hp → V → Hp → Prop} {E : XK} {P R : V → Hp → Prop} (hx : Ev ta σ H x) (hy : Ev tb σ H y) (hz : ∀ H1, Ex H H1 → GoH te σ H1 P)
    (he : ∀ v H2, P v H2 → ∃ d, [x, y, v] = args d ∧ pre d H2 ∧ ∀ w H3, post d H2 w H3 → R w H3) : GoH (tCall (PH args pre post) [] E (tCons ta (tCons tb (tCons te tNil)))) σ H R := fun Q q =>
  hx H (Ex.refl H) _ fun H1 e1 => hy H1 e1 _ fun H2 e2 => hz H2 (e1.trans e2) _ fun v H3 p => by
    obtain ⟨d, e, hp, k⟩ := he v H3 p
    exact ⟨d, by rw [List.append_nil]; exact e, hp, fun w H4 h => q w H4 (k w H4 h)⟩
theorem line_of {n : Nat} (h : n ≤ 10000000) : n < sizeLine := by
  rw [sizeLine_eq]
  omega
theorem q_appB {l : Addr} {xs : List V} (hl : H l = some (.lst xs)) (ha : Ev ta σ H (.ref l)) (h : Ev te σ H v) (hz : xs.length < 10000000) (k : ∀ H1, Ex H H1 → tz D σ (upd H1 l (.lst (xs ++ [v])))) :
    tSeq (tDrop (tBM K "list" rAppend ta (tCons te tNil))) tz D σ H := ha H (Ex.refl H) _ fun H1 e1 =>
  ⟨Or.inl ⟨rfl, xs, sq_of (e1 l _ hl)⟩, h H1 e1 _ fun H2 e2 => ⟨l, xs, v, rfl, rfl, e2 l _ (e1 l _ hl), line_of (Nat.le_of_lt hz), k H2 (e1.trans e2)⟩⟩
theorem s_extB {l b : Addr} {xs ys : List V} (hl : H l = some (.lst xs)) (hb : H b = some (.lst ys)) (ha : Ev ta σ H (.ref l)) (h : Ev te σ H (.ref b)) (hz : xs.length + ys.length ≤ 10000000) (k : ∀ H1, Ex H H1 → D.nx σ (upd H1 l (.lst (xs ++ ys)))) :
    tDrop (tBM K "list" rExtend ta (tCons te tNil)) D σ H := ha H (Ex.refl H) _ fun H1 e1 =>
  ⟨Or.inl ⟨rfl, xs, sq_of (e1 l _ hl)⟩, h H1 e1 _ fun H2 e2 => ⟨l, b, xs, ys, rfl, rfl, e2 l _ (e1 l _ hl), e2 b _ (e1 b _ hb), Nat.le_of_lt (line_of hz), k H2 (e1.trans e2)⟩⟩
end
theorem All2.unmap {β γ : Type} {R : γ → V → Hp → Prop} {g : β → γ} {l : List β} {vs : List V} {H : Hp} (h : All2 R (l.map g) vs H) : All2 (fun x v H => R (g x) v H) l vs H :=
  ⟨by rw [← h.1, List.length_map], fun i x v a b => h.2 i (g x) v (by rw [List.getElem?_map, a]; rfl) b⟩
/-! ### a comprehension over a list of data; each item gives a value -/
theorem el_lcD {K : PySem.W.Frag} {σ : L2.St} {H : Hp} {β : Type} {R : β → V → Hp → Prop} {l : List β} {tl te : TE} {j : Nat} {vs : List Nat} {g : β → V} (h : EvD tl σ H (fun v H1 => ∃ p us, v = .ref p ∧ H1 p = some (.lst us) ∧ All2 R l us H1)) (hz : l.length ≤ 40000) (hw : ∀ x, wipe ((wipe σ vs).set j (some x)) vs = wipe σ vs)
    (he : ∀ x v H1, Ex H H1 → x ∈ l → R x v H1 → Ev te ((wipe σ vs).set j (some v)) H1 (g x)) : EvL (tLc (iList K tl) (gName j) tYes te vs) σ H (l.map g) := fun H0 e Q q => h H0 e _ fun v H1 e1 ⟨a, us, ev, ha, hus⟩ => by
  subst ev
  have e4 : given us.length (fun _ => true) (fun i => (l[i]?.map g).getD .non) = l.map g := by
    unfold given
    rw [← hus.1, range_get (xs := l) (fun _ => true) g l.length (Nat.le_refl _) _ _ (fun i x hi => by rw [hi]; exact ⟨rfl, rfl⟩), List.take_length, List.filter_eq_self.mpr (fun _ _ => rfl)]
  refine ⟨a, rfl, ⟨us, sq_of ha⟩, fun Dl hD => ?_⟩
  refine lc_list (xs := us) (Cw H1 (fun _ => true) (fun i => (l[i]?.map g).getD .non) Dl) ⟨hD, Ex.new hD, upd_same⟩ (fun i H' _ p => sq_of (p.2.1 _ _ ha)) (fun i x H' hi p => ⟨hw x, cw_turn p (by have := (List.getElem?_eq_some_iff.mp hi).1; have := hus.1; omega) et_yes (fun _ => ?_)⟩) (fun H' p => q Dl H' (fresh_back e1 p.1) (e1.trans p.2.1) (by rw [← e4]; exact p.2.2))
  have hi' : i < l.length := by rw [hus.1]; exact (List.getElem?_eq_some_iff.mp hi).1
  have hx := hus.2 i l[i] x (List.getElem?_eq_getElem hi') hi
  rw [List.getElem?_eq_getElem hi']
  exact he l[i] x H1 (e.trans e1) (List.getElem_mem hi') hx
/-! ### comprehensions over enumerate -/
section
variable {K : PySem.W.Frag} {σ : L2.St} {H H' : Hp} {ta : TA} {tb tc te tx tv : TE} {t : TT} {x y z v : V} {α : Type}
theorem el_lcE {a : Addr} {xs : List V} {j1 j2 : Nat} {vs : List Nat} (f : Nat → Bool) (o : Nat → V) (h : EvA ta σ H [.ref a]) (hx : SqL K H a xs) (hz : xs.length ≤ 40000) (hw : ∀ x y, wipe (((wipe σ vs).set j1 (some x)).set j2 (some y)) vs = wipe σ vs)
    (ht : ∀ (i : Nat) (x : V) H1, Ex H H1 → xs[i]? = some x → EvT t (((wipe σ vs).set j1 (some (.int (i : Int)))).set j2 (some x)) H1 (f i)) (he : ∀ (i : Nat) (x : V) H1, Ex H H1 → xs[i]? = some x → f i = true → Ev te (((wipe σ vs).set j1 (some (.int (i : Int)))).set j2 (some x)) H1 (o i)) :
    EvL (tLc (iEnum K ta) (gTup K 2 (gCons (gName j1) (gCons (gName j2) gNil))) t te vs) σ H (given xs.length f o) := fun H0 e Q q => h H0 e _ fun H1 e1 => ⟨a, xs, rfl, ex_l (e.trans e1) hx, fun Dl hD => by
  have hx1 : SqL K H1 a xs := ex_l (e.trans e1) hx
  refine ⟨fun i m H' => m = xs.length - i ∧ i ≤ xs.length ∧ Cw H1 f o Dl i H', ⟨xs.length, rfl, Nat.zero_le _, hD, Ex.new hD, upd_same⟩, ?_⟩
  rintro i m H' ⟨rfl, hi, p⟩
  have hxs : SqL K H' a xs := ex_l p.2.1 hx1
  by_cases hlt : i < xs.length
  · refine .inr ⟨⟨xs, xs[i], hxs, List.getElem?_eq_getElem hlt⟩, Cw H1 f o Dl (i + 1), fun H2 p2 => ⟨xs.length - (i + 1), by omega, rfl, hlt, p2⟩, ?_⟩
    rintro w H2 ⟨T, x, rfl, nT, rfl, hT⟩
    have hxi := hT xs hxs
    have hTD : Dl ≠ T := ne_of_none p.2.2 nT
    have p' : Cw H1 f o Dl i (upd H' T (.tup [.int (i : Int), x])) := ⟨p.1, p.2.1.trans (Ex.new nT), by rw [upd_ne hTD]; exact p.2.2⟩
    exact ⟨T, [.int (i : Int), x], rfl, .inl (.inl upd_same), rfl, .int (i : Int), [x], rfl, x, [], rfl, rfl, hw _ _, cw_turn p' (by omega) (ht i x H1 (e.trans e1) hxi) (fun hf => he i x H1 (e.trans e1) hxi hf)⟩
  · refine .inl ⟨⟨xs, hxs, by omega⟩, ?_⟩
    have e2 : i = xs.length := by omega
    rw [e2] at p
    exact q Dl H' (fresh_back e1 p.1) (e1.trans p.2.1) p.2.2⟩
theorem el_compE {a : Addr} {l : List α} {en : α → V} {j1 j2 : Nat} {vs : List Nat} (p : Nat → Bool) (g : Nat → V) (h : EvA ta σ H [.ref a]) (hx : SqL K H a (l.map en)) (hz : l.length ≤ 40000) (hw : ∀ x y, wipe (((wipe σ vs).set j1 (some x)).set j2 (some y)) vs = wipe σ vs)
    (ht : ∀ (i : Nat) (x : α) H1, Ex H H1 → l[i]? = some x → EvT t (((wipe σ vs).set j1 (some (.int (i : Int)))).set j2 (some (en x))) H1 (p i)) (he : ∀ (i : Nat) (x : α) H1, Ex H H1 → l[i]? = some x → p i = true → Ev te (((wipe σ vs).set j1 (some (.int (i : Int)))).set j2 (some (en x))) H1 (g i)) :
    EvL (tLc (iEnum K ta) (gTup K 2 (gCons (gName j1) (gCons (gName j2) gNil))) t te vs) σ H (((List.range l.length).filter p).map g) := by
  have q : EvL (tLc (iEnum K ta) (gTup K 2 (gCons (gName j1) (gCons (gName j2) gNil))) t te vs) σ H (given (l.map en).length p g) := by
    refine el_lcE p g h hx (by rw [List.length_map]; exact hz) hw (fun i x H1 e1 hi => ?_) (fun i x H1 e1 hi hf => ?_)
    · rw [List.getElem?_map] at hi
      cases e : l[i]? with
      | none => rw [e] at hi; cases hi
      | some y =>
        rw [e] at hi
        cases hi
        exact ht i y H1 e1 e
    · rw [List.getElem?_map] at hi
      cases e : l[i]? with
      | none => rw [e] at hi; cases hi
      | some y =>
        rw [e] at hi
        cases hi
        exact he i y H1 e1 e hf
  rw [List.length_map] at q
  exact q
end
/-! ### a call of a local that holds one of several defs -/
def tCallU (P : Program) (w : World) (K : PySem.W.Frag) (mg : Str → Option Value) (base : Heap) (k i : Nat) (t : TA) : TE := fun σ H Q => ∃ f sp, σ[i]? = some (some (.ref f)) ∧ Held P w K mg base k f sp ∧ t σ H fun vs H1 => sp vs H1 Q (fun _ _ _ => False)
theorem pe_callU {X : Cx} {k i : Nat} {x : Str} {e : Expr} {es : List Expr} {t : TA} {p pos : Pos} (hr : Room k X.A) (hN : X.N[i]? = some x) (hv : Vis X.env.scope x) (ha : PA X (e :: es) t)
    (hdb : (x == ("__debug__" : Str)) = false := by decide) (hcd : (x == ("__classdict__" : Str)) = false := by decide)
    (he : starEach (e :: es) X.env = (false, eval e X.env) :: starEach es X.env := by rfl) (hpl : (backTo pos (starEach es X.env)).any (·.1) = false := by rfl) : PE X (.Call (.Name x p) (e :: es) [] pos) (tCallU X.prog X.w X.K X.mg X.base k i t) := by
  refine ⟨fun pins s σ H Q I h => ?_⟩
  obtain ⟨f, sp, hs, hh, ht⟩ := h
  obtain ⟨fd, ps, F, hk, hb⟩ := hh.ex
  refine (pe_callL (i := i) (f := f) (sp := sp) (dvs := []) (E := fun _ _ _ => False) F hr hN hv hk hb .nil (fun _ _ _ _ _ _ _ z => z.elim) ha hdb hcd he hpl).run pins s σ H Q I ⟨hs, ?_⟩
  have e0 : (fun (vs : List V) (H1 : Hp) => sp (vs ++ []) H1 Q (fun _ _ _ => False)) = fun vs H1 => sp vs H1 Q (fun _ _ _ => False) := by
    funext vs H1
    rw [List.append_nil]
  show t σ H (fun vs H1 => sp (vs ++ []) H1 Q (fun _ _ _ => False))
  rw [e0]
  exact ht
theorem held_of {P : Program} {w : World} {K : PySem.W.Frag} {mg : Str → Option Value} {base : Heap} {j k : Nat} {x qual : Str} {st : Stmt} {f : Addr} {fd : FuncData} {ps : List Str} {sp : Sp} (F : FnOk P w K mg base CX0 j f fd ps sp) (h : j ≤ k) (FF : Fun K x qual st f fd) (b : Binds K fd ps []) : Held P w K mg base k f sp :=
  ⟨fd, ps, F.mono h, FF.kp, b⟩
theorem not_t {b : Bool} (h : (!b) = true) : b = false := by cases b; rfl; cases h
theorem not_f {b : Bool} (h : (!b) = false) : b = true := by cases b; cases h; rfl
theorem cut_nat (xs : List V) {i j : Nat} (hi : i ≤ j) (hj : j ≤ xs.length) : cutV xs (some (i : Int)) (some (j : Int)) = (xs.drop i).take (j - i) := by
  unfold cutV
  rw [HT.sIx_nat, HT.sIx_nat, Nat.min_eq_left hj, Nat.min_eq_left (Nat.le_trans hi hj)]
end Tbl
set_option Elab.async false
set_option linter.all false
set_option maxRecDepth 100000
set_option maxHeartbeats 2000000
namespace Tbl
open PySem PySem.Spec PyProof.Rows L2 Evl
/-! ### xs[i] += e -/
def rGetL (K : PySem.W.Frag) : V → V → Hp → VK → Prop := fun o i H Q => ∃ p xs j v, o = .ref p ∧ i = .int ((j : Nat) : Int) ∧ SqL K H p xs ∧ xs[j]? = some v ∧ Q v H
theorem get_list {X : Cx} : PGet X (rGetL X.K) := by
  intro pins s σ H o i ov iv Q I ro ri h
  obtain ⟨p, xs, j, v, rfl, rfl, hp, hv, q⟩ := h
  obtain rfl : ov = Value.ref p := ro
  obtain ⟨t, rfl⟩ := ri
  obtain ⟨its, r, pl, hz⟩ := I.list hp
  obtain ⟨w, ew, rw'⟩ := r.get hv
  have hl := r.length
  have hn := line63
  have hj : j < xs.length := (List.getElem?_eq_some_iff.mp hv).1
  exact wpAny_getItem_list pl.isList (by omega) (by omega) (by rw [Int.toNat_natCast]; simpa using ew) ⟨v, H, I, rw', q⟩
section
variable {K : PySem.W.Frag} {σ : L2.St} {H H' : Hp} {ta tb tc te tx tv tl : TE} {t u : TT} {x y z v : V} {D : Ends} {tz tu : TS}
theorem s_augL {l : Addr} {xs : List V} {j : Nat} {f : Int → Int → Int} {a b : Int} (hl : H l = some (.lst xs)) (ho : Ev ta σ H (.ref l)) (hi : Ev tb σ H (.int (j : Int))) (hx : xs[j]? = some (.int a)) (h : Ev te σ H (.int b))
    (k : ∀ H1, Ex H H1 → D.nx σ (upd H1 l (.lst (xs.set j (.int (f a b)))))) : tAugS ta tb te (rGetL K) (ipI f) rSetL D σ H :=
  ho H (Ex.refl H) _ fun H1 e1 => hi H1 e1 _ fun H2 e2 => ⟨l, xs, j, _, rfl, rfl, sq_of (e2 l _ (e1 l _ hl)), hx, h H2 (e1.trans e2) _ fun H3 e3 => ⟨a, b, rfl, rfl, l, xs, _, j, rfl, rfl, e3 l _ (e2 l _ (e1 l _ hl)), ixN_nat (List.getElem?_eq_some_iff.mp hx).1, k H3 ((e1.trans e2).trans e3)⟩⟩
theorem q_augL {l : Addr} {xs : List V} {j : Nat} {f : Int → Int → Int} {a b : Int} (hl : H l = some (.lst xs)) (ho : Ev ta σ H (.ref l)) (hi : Ev tb σ H (.int (j : Int))) (hx : xs[j]? = some (.int a)) (h : Ev te σ H (.int b))
    (k : ∀ H1, Ex H H1 → tz D σ (upd H1 l (.lst (xs.set j (.int (f a b)))))) : tSeq (tAugS ta tb te (rGetL K) (ipI f) rSetL) tz D σ H := s_augL (D := { D with nx := tz D }) hl ho hi hx h k
/-! ### list(range(n)) -/
theorem el_range {n : Nat} (h : Ev ta σ H (.int (n : Int))) (hn : n ≤ 100000) : EvL (tLstRg (tRg1 ta)) σ H ((List.range n).map fun (i : Nat) => V.int (i : Int)) := fun H1 e Q q =>
  h H1 e _ fun H2 e2 => ⟨(n : Int), rfl, RgOk.of_le (by omega) (by omega) (by omega) (by omega), fun p hp => by
    have e0 : rgV 0 (n : Int) = (List.range n).map fun (i : Nat) => V.int (i : Int) := by
      unfold rgV
      rw [show ((n : Int) - 0).toNat = n by omega]
      apply List.map_congr_left
      intro i _
      rw [Int.zero_add]
    rw [e0]
    exact q p _ (fresh_back e2 hp) (e2.trans (Ex.new hp)) upd_same⟩
/-! ### truth -/
theorem et_truI {i : Int} (h : Ev te σ H (.int i)) : EvT (tTru K te) σ H (i != 0) := fun H1 e _ q => h H1 e _ fun H2 e2 => ⟨_, rfl, q H2 e2⟩
theorem et_truL {p : Addr} {xs : List V} (h : Ev te σ H (.ref p)) (hx : H p = some (.lst xs)) : EvT (tTru K te) σ H (!xs.isEmpty) := fun H1 e _ q => h H1 e _ fun H2 e2 => ⟨_, .inl ⟨xs, sq_of (e2 p _ (e p _ hx)), rfl⟩, q H2 e2⟩
/-! ### the least of a list that stands, or is new -/
theorem ev_minS {ns : List Int} {k : Int} (h : EvS te σ H (ns.map V.int)) (h0 : 0 < ns.length) (hk : ∀ m, m ∈ ns → (∀ y, y ∈ ns → m ≤ y) → m = k) : Ev (tCB (rMin K) (tCons te tNil)) σ H (.int k) := fun H1 e Q q =>
  h H1 e _ fun p H2 e2 h2 => ⟨p, ns, rfl, sq_of h2, h0, fun m a b => by rw [hk m a b]; exact q H2 e2⟩
/-! ### loops -/
theorem s_forD {R0 : Addr → List V → Hp → Prop} {g : TG} (h : EvD tl σ H (fun v H1 => ∃ p us, v = .ref p ∧ H1 p = some (.lst us) ∧ R0 p us H1)) (Pv : Addr → List V → Nat → L2.St → Hp → Prop)
    (h0 : ∀ p us H1, Ex H H1 → H1 p = some (.lst us) → R0 p us H1 → Pv p us 0 σ H1) (hl : ∀ p us i σ' H', i ≤ us.length → Pv p us i σ' H' → SqL K H' p us)
    (hs : ∀ p us i x σ' H', us[i]? = some x → Pv p us i σ' H' → g x σ' H' fun σ2 H2 => tu { D with nx := Pv p us (i + 1), ct := Pv p us (i + 1), bk := D.nx } σ2 H2) (hd : ∀ p us σ' H', Pv p us us.length σ' H' → D.nx σ' H') : tFor (iList K tl) g tu D σ H :=
  h H (Ex.refl H) _ fun v H1 e ⟨p, us, ev, h1, h2⟩ => by
    subst ev
    exact ⟨p, rfl, ⟨us, sq_of h1⟩, for_list (Pv p us) (h0 p us H1 e h1 h2) (hl p us) (hs p us) (hd p us)⟩
theorem q_forD {R0 : Addr → List V → Hp → Prop} {g : TG} (h : EvD tl σ H (fun v H1 => ∃ p us, v = .ref p ∧ H1 p = some (.lst us) ∧ R0 p us H1)) (Pv : Addr → List V → Nat → L2.St → Hp → Prop)
    (h0 : ∀ p us H1, Ex H H1 → H1 p = some (.lst us) → R0 p us H1 → Pv p us 0 σ H1) (hl : ∀ p us i σ' H', i ≤ us.length → Pv p us i σ' H' → SqL K H' p us)
    (hs : ∀ p us i x σ' H', us[i]? = some x → Pv p us i σ' H' → g x σ' H' fun σ2 H2 => tu { D with nx := Pv p us (i + 1), ct := Pv p us (i + 1), bk := tz D } σ2 H2) (hd : ∀ p us σ' H', Pv p us us.length σ' H' → tz D σ' H') : tSeq (tFor (iList K tl) g tu) tz D σ H :=
  s_forD (D := { D with nx := tz D }) h Pv h0 hl hs hd
/-- over enumerate of a list of data -/
theorem s_forE {β : Type} {R : β → V → Hp → Prop} {l : List β} {j1 j2 : Nat} (h : EvD tl σ H (fun v H1 => ∃ p us, v = .ref p ∧ H1 p = some (.lst us) ∧ All2 R l us H1)) (Pv : Addr → List V → Nat → L2.St → Hp → Prop)
    (h0 : ∀ p us H1, Ex H H1 → H1 p = some (.lst us) → All2 R l us H1 → Pv p us 0 σ H1) (hl : ∀ p us i σ' H', i ≤ us.length → Pv p us i σ' H' → SqL K H' p us)
    (hs : ∀ p us i x σ' H' T, us[i]? = some x → Pv p us i σ' H' → H' T = none → tu { D with nx := Pv p us (i + 1), ct := Pv p us (i + 1), bk := D.nx } ((σ'.set j1 (some (.int (i : Int)))).set j2 (some x)) (upd H' T (.tup [.int (i : Int), x])))
    (hd : ∀ p us σ' H', Pv p us us.length σ' H' → D.nx σ' H') : tFor (iEnum K (tCons tl tNil)) (gTup K 2 (gCons (gName j1) (gCons (gName j2) gNil))) tu D σ H :=
  h H (Ex.refl H) _ fun v H1 e ⟨p, us, ev, h1, h2⟩ => by
    subst ev
    refine ⟨p, us, rfl, sq_of h1, fun i m σ' H' => m = us.length - i ∧ i ≤ us.length ∧ Pv p us i σ' H', ⟨us.length, rfl, Nat.zero_le _, h0 p us H1 e h1 h2⟩, ?_⟩
    rintro i m σ' H' ⟨rfl, hi, pv⟩
    have hxs : SqL K H' p us := hl p us i σ' H' hi pv
    by_cases hlt : i < us.length
    · refine .inr ⟨⟨us, us[i], hxs, List.getElem?_eq_getElem hlt⟩, Pv p us (i + 1), fun σ2 H2 p2 => ⟨us.length - (i + 1), by omega, rfl, hlt, p2⟩, ?_⟩
      rintro w H2 ⟨T, x, rfl, nT, rfl, hT⟩
      exact ⟨T, [.int (i : Int), x], rfl, .inl (.inl upd_same), rfl, .int (i : Int), [x], rfl, x, [], rfl, rfl, hs p us i x σ' H' T (hT us hxs) pv nT⟩
    · have e2 : i = us.length := by omega
      subst e2
      exact .inl ⟨⟨us, hxs, Nat.le_refl _⟩, hd p us σ' H' pv⟩
theorem q_forE {β : Type} {R : β → V → Hp → Prop} {l : List β} {j1 j2 : Nat} (h : EvD tl σ H (fun v H1 => ∃ p us, v = .ref p ∧ H1 p = some (.lst us) ∧ All2 R l us H1)) (Pv : Addr → List V → Nat → L2.St → Hp → Prop)
    (h0 : ∀ p us H1, Ex H H1 → H1 p = some (.lst us) → All2 R l us H1 → Pv p us 0 σ H1) (hl : ∀ p us i σ' H', i ≤ us.length → Pv p us i σ' H' → SqL K H' p us)
    (hs : ∀ p us i x σ' H' T, us[i]? = some x → Pv p us i σ' H' → H' T = none → tu { D with nx := Pv p us (i + 1), ct := Pv p us (i + 1), bk := tz D } ((σ'.set j1 (some (.int (i : Int)))).set j2 (some x)) (upd H' T (.tup [.int (i : Int), x])))
    (hd : ∀ p us σ' H', Pv p us us.length σ' H' → tz D σ' H') : tSeq (tFor (iEnum K (tCons tl tNil)) (gTup K 2 (gCons (gName j1) (gCons (gName j2) gNil))) tu) tz D σ H :=
  s_forE (D := { D with nx := tz D }) h Pv h0 hl hs hd
/-- over zip of two lists of one length -/
theorem q_forZ {a b : Addr} {xs ys : List V} {ta : TA} {j1 j2 : Nat} (h : EvA ta σ H [.ref a, .ref b]) (hx : SqL K H a xs) (hy : SqL K H b ys) (hlen : xs.length = ys.length) (Pv : Nat → L2.St → Hp → Prop) (h0 : ∀ H1, Ex H H1 → Pv 0 σ H1) (hq : ∀ i σ' H', Pv i σ' H' → SqL K H' a xs ∧ SqL K H' b ys)
    (hs : ∀ i x y σ' H' T, xs[i]? = some x → ys[i]? = some y → Pv i σ' H' → H' T = none → tu { D with nx := Pv (i + 1), ct := Pv (i + 1), bk := tz D } ((σ'.set j1 (some x)).set j2 (some y)) (upd H' T (.tup [x, y])))
    (hd : ∀ σ' H', Pv xs.length σ' H' → tz D σ' H') : tSeq (tFor (iZip K ta) (gTup K 2 (gCons (gName j1) (gCons (gName j2) gNil))) tu) tz D σ H :=
  h H (Ex.refl H) _ fun H1 e => ⟨a, b, xs, ys, rfl, ex_l e hx, ex_l e hy, RZ.for_zipL (D := { D with nx := tz D }) hlen Pv (h0 H1 e) hq (fun i x y T σ' H' ex ey p nT => ⟨T, [x, y], rfl, .inl (.inl upd_same), rfl, x, [y], rfl, y, [], rfl, rfl, hs i x y σ' H' T ex ey p nT⟩) hd⟩
/-! ### calls with new lists -/
theorem el_plL {Dt : Type} {args : Dt → List V} {pre : Dt → Hp → Prop} {f : Dt → List V} {E : XK} {xs ys : List V} (d : Addr → Dt) (h : EvL te σ H xs) (ha : ∀ p, [.ref p] = args (d p)) (hp : ∀ p H1, Ex H H1 → H1 p = some (.lst xs) → pre (d p) H1) (hf : ∀ p, f (d p) = ys) : EvL (tCall (PL args pre f) [] E (tCons te tNil)) σ H ys := fun H1 e Q q =>
  h H1 e _ fun p H2 np e2 h2 => ⟨d p, ha p, hp p H2 (e.trans e2) h2, fun b H3 hb e3 h3 => q b H3 (fresh_back e2 hb) (e2.trans e3) (by rw [h3, hf])⟩
theorem ev_pv2L {Dt : Type} {args : Dt → List V} {pre : Dt → Hp → Prop} {f : Dt → V} {E : XK} {xs ys : List V} (d : Addr → Addr → Dt) (h1 : EvL ta σ H xs) (h2 : EvL tb σ H ys) (ha : ∀ p q, [.ref p, .ref q] = args (d p q))
    (hp : ∀ p q H1, Ex H H1 → H1 p = some (.lst xs) → H1 q = some (.lst ys) → pre (d p q) H1) (hf : ∀ p q, f (d p q) = z) : Ev (tCall (PV args pre f) [] E (tCons ta (tCons tb tNil))) σ H z := fun H0 e Q k =>
  h1 H0 e _ fun p H1 np e1 g1 => h2 H1 (e.trans e1) _ fun q H2 nq e2 g2 => ⟨d p q, ha p q, hp p q H2 ((e.trans e1).trans e2) (e2 _ _ g1) g2, fun H3 e3 => by rw [hf]; exact k H3 ((e1.trans e2).trans e3)⟩
/-- an item of a new list of data, a list -/
theorem es_ix {l : List (List V)} {i : Nat} {xs : List V} (h : EvD te σ H (fun v H1 => ∃ p us, v = .ref p ∧ H1 p = some (.lst us) ∧ All2 Row l us H1)) (hi : Ev tx σ H (.int (i : Int))) (hx : l[i]? = some xs) : EvS (tOp (rIxL K) te tx) σ H xs := fun H1 e Q q =>
  h H1 e _ fun v H2 e2 ⟨p, us, ev, hp, hu⟩ => by
    subst ev
    refine hi H2 (e.trans e2) _ fun H3 e3 => ?_
    have hiu : i < us.length := by rw [← hu.1]; exact (List.getElem?_eq_some_iff.mp hx).1
    obtain ⟨b, eb, hb⟩ := hu.2 i xs us[i] hx (List.getElem?_eq_getElem hiu)
    refine ⟨p, us, (i : Int), us[i], rfl, rfl, sq_of (e3 _ _ hp), atI_nat (List.getElem?_eq_getElem hiu), ?_⟩
    rw [eb]
    exact q b H3 (e2.trans e3) (e3 _ _ hb)
theorem ed_var {i : Nat} {R : V → Hp → Prop} (h : σ[i]? = some (some v)) (hR : ∀ H1, Ex H H1 → R v H1) : EvD (tVar i) σ H R := Ev.toD (ev_var h) hR
/-- a list of two new lists: sorted, list(range(..)), as values -/
theorem dp_ints (H : Hp) : ∀ ns : List Int, DpAll K H (ns.map V.int) (ns.map PyData.int)
  | [] => .nil
  | n :: ns => .cons (.int n) (dp_ints H ns)
end
theorem eqv_ints : ∀ a b : List Int, PyData.eqv (.list (a.map PyData.int)) (.list (b.map PyData.int)) = decide (a = b)
  | [], [] => by rfl
  | [], y :: b => by simp [PyData.eqv, PyData.eqvAll]
  | x :: a, [] => by simp [PyData.eqv, PyData.eqvAll]
  | x :: a, y :: b => by
    have ih := eqv_ints a b
    simp only [PyData.eqv, PyData.eqvAll, List.map_cons] at ih ⊢
    rw [ih]
    by_cases h1 : x = y <;> by_cases h2 : a = b <;> simp [h1, h2]
theorem shaped_ints (ns : List Int) : SeqAt.shaped (.list (ns.map PyData.int)) = true := by
  have h1 : ∀ ns : List Int, PyData.canLayAll0 (ns.map PyData.int) = true := fun ns => by
    induction ns with
    | nil => rfl
    | cons n ns ih => simp only [List.map_cons, PyData.canLayAll0, PyData.canLay0, ih, Bool.and_self]
  have h2 : ∀ ns : List Int, PyData.depthAll (ns.map PyData.int) ≤ 1 := fun ns => by
    induction ns with
    | nil => decide
    | cons n ns ih => simp only [List.map_cons, PyData.depthAll, PyData.depth]; omega
  unfold SeqAt.shaped
  rw [Bool.and_eq_true]
  refine ⟨by rw [PyData.canLay0]; exact h1 ns, decide_eq_true ?_⟩
  have := h2 ns
  rw [PyData.depth]
  omega
/-- sorted(xs) == list(range(n)) -/
theorem ev_sortedEq {K : PySem.W.Frag} {σ : L2.St} {H : Hp} {ta tb : TE} {a : Addr} {ns : List Int} {n : Nat} {z : Bool} (ha : Ev ta σ H (.ref a)) (hx : SqL K H a (ns.map V.int)) (hb : Ev tb σ H (.int (n : Int))) (hn : n ≤ 100000)
    (hz : ∀ ns' : List Int, ns'.Perm ns → ns'.Pairwise (· ≤ ·) → decide (ns' = (List.range n).map fun (i : Nat) => (i : Int)) = z) : Ev (tOp (rEqD K) (tCB (rSortedI K) (tCons ta tNil)) (tLstRg (tRg1 tb))) σ H (.bl z) := fun H1 e Q q =>
  ha H1 e _ fun H2 e2 => ⟨a, ns, rfl, ex_l (e.trans e2) hx, fun ns' p h1 h2 np => el_range hb hn _ ((e.trans e2).trans (Ex.new np)) _ fun b H3 nb e3 h3 => by
    have e5 : ((List.range n).map fun (i : Nat) => V.int (i : Int)) = ((List.range n).map fun (i : Nat) => (i : Int)).map V.int := by
      rw [List.map_map]
      rfl
    rw [e5] at h3
    refine ⟨.list (ns'.map PyData.int), .list (((List.range n).map fun (i : Nat) => (i : Int)).map PyData.int), .lst (sq_of (e3 _ _ upd_same)) (dp_ints _ _), .lst (sq_of h3) (dp_ints _ _), shaped_ints _, shaped_ints _, ?_⟩
    rw [eqv_ints, hz ns' h1 h2]
    exact q H3 ((e2.trans (Ex.new np)).trans e3)⟩
/-! ### what a call makes anew -/
def PDH {Dt : Type} (args : Dt → List V) (pre : Dt → Hp → Prop) (R : Dt → Hp → V → Hp → Prop) : Sp := fun vs H Q _ => ∃ d, vs = args d ∧ pre d H ∧ ∀ v H2, Ex H H2 → R d H v H2 → Q v H2
section
variable {K : PySem.W.Frag} {σ : L2.St} {H H' : Hp} {ta : TA} {tb te tx tl : TE} {x y z v : V} {D : Ends} {tz tu : TS} {Dt : Type} {args : Dt → List V} {pre : Dt → Hp → Prop} {R : Dt → Hp → V → Hp → Prop} {R' : V → Hp → Prop} {E : XK}
theorem ed_pdh (d : Dt) (h : EvA ta σ H (args d)) (hp : ∀ H1, Ex H H1 → pre d H1) (hb : ∀ H1 v H2, Ex H H1 → Ex H1 H2 → R d H1 v H2 → R' v H2) : EvD (tCall (PDH args pre R) [] E ta) σ H R' := fun H1 e Q q =>
  h H1 e _ fun H2 e2 => ⟨d, List.append_nil _, hp H2 (e.trans e2), fun v H3 e3 h3 => q v H3 (e2.trans e3) (hb H2 v H3 (e.trans e2) e3 h3)⟩
theorem ed_pdhL {xs : List V} (d : Addr → Dt) (h : EvL te σ H xs) (ha : ∀ p, [.ref p] = args (d p)) (hp : ∀ p H1, Ex H H1 → H1 p = some (.lst xs) → pre (d p) H1) (hb : ∀ p H1 v H2, Ex H H1 → Ex H1 H2 → R (d p) H1 v H2 → R' v H2) : EvD (tCall (PDH args pre R) [] E (tCons te tNil)) σ H R' := fun H1 e Q q =>
  h H1 e _ fun p H2 np e2 h2 => ⟨d p, ha p, hp p H2 (e.trans e2) h2, fun v H3 e3 h3 => q v H3 (e2.trans e3) (hb p H2 v H3 (e.trans e2) e3 h3)⟩
theorem EvD.imp {P : V → Hp → Prop} (h : EvD te σ H P) (hi : ∀ v H1, Ex H H1 → P v H1 → R' v H1) : EvD te σ H R' := fun H1 e Q q => h H1 e Q fun v H2 e2 p => q v H2 e2 (hi v H2 (e.trans e2) p)
theorem go_ed {P : V → Hp → Prop} (h : EvD te σ H P) {H1 : Hp} (e : Ex H H1) : GoH te σ H1 (fun v H2 => Ex H1 H2 ∧ P v H2) := fun Q q => h H1 e Q fun v H2 e2 p => q v H2 ⟨e2, p⟩
end
section
variable {K : PySem.W.Frag} {σ : L2.St} {H H' : Hp} {ta te : TE} {v : V} {D : Ends} {tz : TS}
theorem gq_app {P : V → Hp → Prop} {l : Addr} {xs : List V} (ha : Ev ta σ H (.ref l)) (hl : H l = some (.lst xs)) (h : ∀ H1, Ex H H1 → GoH te σ H1 fun v H2 => Ex H1 H2 ∧ P v H2) (hz : xs.length < 100000) (hk : ∀ v H2, (Ex H H2 ∧ P v H2) → H2 l = some (.lst xs)) (k : ∀ v H2, (Ex H H2 ∧ P v H2) → tz D σ (upd H2 l (.lst (xs ++ [v])))) :
    tSeq (tDrop (tBM K "list" rAppend ta (tCons te tNil))) tz D σ H := ha H (Ex.refl H) _ fun H1 e1 =>
  ⟨Or.inl ⟨rfl, xs, sq_of (e1 l _ hl)⟩, h H1 e1 _ fun v H2 p => ⟨l, xs, v, rfl, rfl, hk v H2 ⟨e1.trans p.1, p.2⟩, sz_lt hz, k v H2 ⟨e1.trans p.1, p.2⟩⟩⟩
end
section
variable {K : PySem.W.Frag} {σ : L2.St} {H H' : Hp} {ta te : TE} {v : V} {D : Ends} {tz : TS}
/-- xs.extend([..]) -/
theorem s_extL {l : Addr} {xs ys : List V} (hl : H l = some (.lst xs)) (ha : Ev ta σ H (.ref l)) (h : EvL te σ H ys) (hz : xs.length + ys.length ≤ 100000) (k : ∀ H1, Ex H H1 → D.nx σ (upd H1 l (.lst (xs ++ ys)))) :
    tDrop (tBM K "list" rExtend ta (tCons te tNil)) D σ H := ha H (Ex.refl H) _ fun H1 e1 =>
  ⟨Or.inl ⟨rfl, xs, sq_of (e1 l _ hl)⟩, h H1 e1 _ fun b H2 nb e2 h2 => ⟨l, b, xs, ys, rfl, rfl, e2 l _ (e1 l _ hl), h2, sz_of hz, k H2 (e1.trans e2)⟩⟩
theorem q_extL {l : Addr} {xs ys : List V} (hl : H l = some (.lst xs)) (ha : Ev ta σ H (.ref l)) (h : EvL te σ H ys) (hz : xs.length + ys.length ≤ 100000) (k : ∀ H1, Ex H H1 → tz D σ (upd H1 l (.lst (xs ++ ys)))) :
    tSeq (tDrop (tBM K "list" rExtend ta (tCons te tNil))) tz D σ H := s_extL (D := { D with nx := tz D }) hl ha h hz k
end
/-- a list made anew at an address -/
def FRow (H0 : Hp) (xs : List V) (v : V) (H : Hp) : Prop := ∃ q, v = .ref q ∧ H0 q = none ∧ H q = some (.lst xs)
theorem frow_mono {H0 : Hp} : Mono (FRow H0) := fun x v H H' e ⟨p, a, n, b⟩ => ⟨p, a, n, e p _ b⟩
theorem frow_back {H0 H1 H : Hp} (e : Ex H0 H1) {xs : List V} {v : V} (h : FRow H1 xs v H) : FRow H0 xs v H := by
  obtain ⟨q, a, n, b⟩ := h
  exact ⟨q, a, fresh_back e n, b⟩
theorem frow_row {H0 H : Hp} {xs : List V} {v : V} (h : FRow H0 xs v H) : Row xs v H := by
  obtain ⟨q, a, n, b⟩ := h
  exact ⟨q, a, b⟩
theorem nrow_frow {H0 H : Hp} {p : Addr} {xs : List V} {v : V} (h : NRow H0 p xs v H) : FRow H0 xs v H := by
  obtain ⟨q, a, _, n, b⟩ := h
  exact ⟨q, a, n, b⟩
/-- a list and a new list of new lists, joined -/
theorem ed_catN {σ : L2.St} {H : Hp} {ta tb : TE} {xs : List V} {l : List (List V)} (ha : EvS ta σ H xs) (hb : EvLR tb σ H l) (hz : xs.length + l.length ≤ 100000) : EvD (tOp rCat ta tb) σ H (fun v H2 => ∃ p us, v = .ref p ∧ H p = none ∧ H2 p = some (.lst (xs ++ us)) ∧ All2 (FRow H) l us H2) := fun H1 e Q q =>
  ha H1 e _ fun p H2 e2 h2 => hb H2 (e.trans e2) _ fun b us H3 _ e3 h3 h4 => ⟨p, b, xs, us, rfl, rfl, e3 p _ h2, h3, sz_of (by rw [← h4.1]; exact hz), fun r hr => q _ _ ((e2.trans e3).trans (Ex.new hr)) ⟨r, us, rfl, fresh_back ((e.trans e2).trans e3) hr, upd_same, (h4.imp fun x v hx => frow_back (e.trans e2) (nrow_frow hx)).mono frow_mono (Ex.new hr)⟩⟩
/-! ### numbers -/
theorem get_at {l : List Nat} {i : Nat} (h : i < l.length) : (l.map fun (n : Nat) => V.int (n : Int))[i]? = some (.int ((Vbecaf.at_ l i : Nat) : Int)) := by
  rw [List.getElem?_map, List.getElem?_eq_getElem h]
  unfold Vbecaf.at_
  rw [List.getD_eq_getElem?_getD, List.getElem?_eq_getElem h]
  rfl
theorem eq_int (a b : Int) : decide (V.int a = V.int b) = decide (a = b) := by
  by_cases h : a = b
  · rw [h]; simp
  · rw [decide_eq_false h, decide_eq_false]
    intro z
    cases z
    exact h rfl
theorem fmod_nat (a b : Nat) : ((a : Int).fmod (b : Int)) = ((a % b : Nat) : Int) := by
  rw [Int.fmod_eq_emod_of_nonneg _ (by omega)]
  rfl
theorem fdiv_nat (a b : Nat) : ((a : Int).fdiv (b : Int)) = ((a / b : Nat) : Int) := by
  rw [Int.fdiv_eq_ediv_of_nonneg _ (by omega)]
  rfl
theorem band_nat (a b : Nat) : Builtin.bitAnd (a : Int) (b : Int) = ((a &&& b : Nat) : Int) := PySem.W.os_band a b
theorem shr_nat (a m : Nat) : (a : Int) / 2 ^ ((m : Int)).toNat = ((a >>> m : Nat) : Int) := by
  rw [Int.toNat_natCast, Nat.shiftRight_eq_div_pow]
  norm_cast
theorem bit_tru (a m : Nat) : (Builtin.bitAnd ((a : Int) / 2 ^ ((m : Int)).toNat) 1 != 0) = a.testBit m := by
  rw [shr_nat, show (1 : Int) = ((1 : Nat) : Int) from rfl, band_nat]
  unfold Nat.testBit
  rw [Nat.and_comm]
  rw [Bool.eq_iff_iff, bne_iff_ne, bne_iff_ne]
  omega
theorem shl_nat (m : Nat) : (1 : Int) * 2 ^ ((m : Int)).toNat = ((2 ^ m : Nat) : Int) := by
  rw [Int.toNat_natCast, Int.one_mul]
  norm_cast
end Tbl
set_option Elab.async false
set_option linter.all false
set_option maxRecDepth 100000
set_option maxHeartbeats 2000000
namespace Tbl
open PySem PySem.Spec PyProof.Rows L2 Evl
/-- the greatest number of a call -/
abbrev lastP : Int := 11
def top (i : Nat) : Stmt := PySem.Challenge.pw_sharedtable_s01_answers.main.body.getD i (.Pass ⟨0, 0, 0, 0⟩)
abbrev s_all_choices : Stmt := top 1
abbrev N_all_choices : List Str := ["members", "choices", "mouth", "choice"]
abbrev P_all_choices : List Str := ["members"]
theorem sc_all_choices : FnScope N_all_choices P_all_choices (defScope s_all_choices) := ⟨rfl, rfl, rfl, by decide +kernel, rfl, by decide +kernel, by decide +kernel⟩
abbrev s_reached_food : Stmt := top 2
abbrev N_reached_food : List Str := ["state", "mouths", "reached", "mouth", "place", "amount"]
abbrev P_reached_food : List Str := ["state", "mouths"]
theorem sc_reached_food : FnScope N_reached_food P_reached_food (defScope s_reached_food) := ⟨rfl, rfl, rfl, by decide +kernel, rfl, by decide +kernel, by decide +kernel⟩
abbrev s_wanted_amount : Stmt := top 3
abbrev N_wanted_amount : List Str := ["state", "mouths", "mouth"]
abbrev P_wanted_amount : List Str := ["state", "mouths"]
theorem sc_wanted_amount : FnScope N_wanted_amount P_wanted_amount (defScope s_wanted_amount) := ⟨rfl, rfl, rfl, by decide +kernel, rfl, by decide +kernel, by decide +kernel⟩
abbrev s_bound_of : Stmt := top 4
abbrev N_bound_of : List Str := ["state", "members", "chosen", "others", "mouth"]
abbrev P_bound_of : List Str := ["state", "members", "chosen"]
theorem sc_bound_of : FnScope N_bound_of P_bound_of (defScope s_bound_of) := ⟨rfl, rfl, rfl, by decide +kernel, rfl, by decide +kernel, by decide +kernel⟩
abbrev s_most_of : Stmt := top 5
abbrev N_most_of : List Str := ["state", "members", "chosen"]
abbrev P_most_of : List Str := ["state", "members"]
theorem sc_most_of : FnScope N_most_of P_most_of (defScope s_most_of) := ⟨rfl, rfl, rfl, by decide +kernel, rfl, by decide +kernel, by decide +kernel⟩
abbrev s_bound_by_food : Stmt := top 6
abbrev N_bound_by_food : List Str := ["state", "members", "choices", "bounds", "least", "tight", "chosen", "at", "bound", "mouth"]
abbrev P_bound_by_food : List Str := ["state", "members"]
theorem sc_bound_by_food : FnScope N_bound_by_food P_bound_by_food (defScope s_bound_by_food) := ⟨rfl, rfl, rfl, by decide +kernel, rfl, by decide +kernel, by decide +kernel⟩
abbrev s_is_there : Stmt := top 10
abbrev N_is_there : List Str := ["number", "count"]
abbrev P_is_there : List Str := ["number", "count"]
theorem sc_is_there : FnScope N_is_there P_is_there (defScope s_is_there) := ⟨rfl, rfl, rfl, by decide +kernel, rfl, by decide +kernel, by decide +kernel⟩
abbrev s_goes_up : Stmt := top 11
abbrev N_goes_up : List Str := ["numbers", "at"]
abbrev P_goes_up : List Str := ["numbers"]
theorem sc_goes_up : FnScope N_goes_up P_goes_up (defScope s_goes_up) := ⟨rfl, rfl, rfl, by decide +kernel, rfl, by decide +kernel, by decide +kernel⟩
abbrev s_is_choice : Stmt := top 12
abbrev N_is_choice : List Str := ["numbers", "count", "number"]
abbrev P_is_choice : List Str := ["numbers", "count"]
theorem sc_is_choice : FnScope N_is_choice P_is_choice (defScope s_is_choice) := ⟨rfl, rfl, rfl, by decide +kernel, rfl, by decide +kernel, by decide +kernel⟩
abbrev s_is_amount : Stmt := top 13
abbrev N_is_amount : List Str := ["amount"]
abbrev P_is_amount : List Str := ["amount"]
theorem sc_is_amount : FnScope N_is_amount P_is_amount (defScope s_is_amount) := ⟨rfl, rfl, rfl, by decide +kernel, rfl, by decide +kernel, by decide +kernel⟩
abbrev s_is_amount_row : Stmt := top 14
abbrev N_is_amount_row : List Str := ["amounts", "amount"]
abbrev P_is_amount_row : List Str := ["amounts"]
theorem sc_is_amount_row : FnScope N_is_amount_row P_is_amount_row (defScope s_is_amount_row) := ⟨rfl, rfl, rfl, by decide +kernel, rfl, by decide +kernel, by decide +kernel⟩
abbrev s_is_share_row : Stmt := top 15
abbrev N_is_share_row : List Str := ["shares", "count", "share"]
abbrev P_is_share_row : List Str := ["shares", "count"]
theorem sc_is_share_row : FnScope N_is_share_row P_is_share_row (defScope s_is_share_row) := ⟨rfl, rfl, rfl, by decide +kernel, rfl, by decide +kernel, by decide +kernel⟩
abbrev s_is_order : Stmt := top 16
abbrev N_is_order : List Str := ["numbers", "count"]
abbrev P_is_order : List Str := ["numbers", "count"]
theorem sc_is_order : FnScope N_is_order P_is_order (defScope s_is_order) := ⟨rfl, rfl, rfl, by decide +kernel, rfl, by decide +kernel, by decide +kernel⟩
abbrev s_every_set : Stmt := top 18
abbrev N_every_set : List Str := ["count"]
abbrev P_every_set : List Str := ["count"]
theorem sc_every_set : FnScope N_every_set P_every_set (defScope s_every_set) := ⟨rfl, rfl, rfl, by decide +kernel, rfl, by decide +kernel, by decide +kernel⟩
abbrev s_sums_of_sets : Stmt := top 19
abbrev N_sums_of_sets : List Str := ["shares", "sums", "share", "amount"]
abbrev P_sums_of_sets : List Str := ["shares"]
theorem sc_sums_of_sets : FnScope N_sums_of_sets P_sums_of_sets (defScope s_sums_of_sets) := ⟨rfl, rfl, rfl, by decide +kernel, rfl, by decide +kernel, by decide +kernel⟩
abbrev s_mosts_of_sets : Stmt := top 20
abbrev N_mosts_of_sets : List Str := ["state", "mosts", "number", "members", "bounds", "mouth"]
abbrev P_mosts_of_sets : List Str := ["state"]
theorem sc_mosts_of_sets : FnScope N_mosts_of_sets P_mosts_of_sets (defScope s_mosts_of_sets) := ⟨rfl, rfl, rfl, by decide +kernel, rfl, by decide +kernel, by decide +kernel⟩
abbrev s_first_above : Stmt := top 21
abbrev N_first_above : List Str := ["sums", "mosts", "number"]
abbrev P_first_above : List Str := ["sums", "mosts"]
theorem sc_first_above : FnScope N_first_above P_first_above (defScope s_first_above) := ⟨rfl, rfl, rfl, by decide +kernel, rfl, by decide +kernel, by decide +kernel⟩
abbrev s_Level___init__ : Stmt := inClass (top 23) 0
abbrev N_Level___init__ : List Str := ["self", "above", "below", "mouths"]
abbrev P_Level___init__ : List Str := ["self", "above", "below", "mouths"]
theorem sc_Level___init__ : FnScope N_Level___init__ P_Level___init__ (defScope s_Level___init__) := ⟨rfl, rfl, rfl, by decide +kernel, rfl, by decide +kernel, by decide +kernel⟩
abbrev s_common_part : Stmt := top 24
abbrev N_common_part : List Str := ["one", "other", "rest"]
abbrev P_common_part : List Str := ["one", "other"]
theorem sc_common_part : FnScope N_common_part P_common_part (defScope s_common_part) := ⟨rfl, rfl, rfl, by decide +kernel, rfl, by decide +kernel, by decide +kernel⟩
abbrev s_level_of : Stmt := top 25
abbrev N_level_of : List Str := ["amount", "mouths", "part"]
abbrev P_level_of : List Str := ["amount", "mouths"]
theorem sc_level_of : FnScope N_level_of P_level_of (defScope s_level_of) := ⟨rfl, rfl, rfl, by decide +kernel, rfl, by decide +kernel, by decide +kernel⟩
abbrev s_comes_ahead : Stmt := top 26
abbrev N_comes_ahead : List Str := ["amount", "count", "best_amount", "best_count", "here", "there"]
abbrev P_comes_ahead : List Str := ["amount", "count", "best_amount", "best_count"]
theorem sc_comes_ahead : FnScope N_comes_ahead P_comes_ahead (defScope s_comes_ahead) := ⟨rfl, rfl, rfl, by decide +kernel, rfl, by decide +kernel, by decide +kernel⟩
abbrev s_done_behind : Stmt := top 27
abbrev N_done_behind : List Str := ["mosts", "counts", "done", "best", "number", "amount", "best_amount"]
abbrev P_done_behind : List Str := ["mosts", "counts", "done"]
theorem sc_done_behind : FnScope N_done_behind P_done_behind (defScope s_done_behind) := ⟨rfl, rfl, rfl, by decide +kernel, rfl, by decide +kernel, by decide +kernel⟩
abbrev s_levels_of : Stmt := top 28
abbrev N_levels_of : List Str := ["state", "sets", "mosts", "counts", "levels", "done", "behind", "members"]
abbrev P_levels_of : List Str := ["state"]
theorem sc_levels_of : FnScope N_levels_of P_levels_of (defScope s_levels_of) := ⟨rfl, rfl, rfl, by decide +kernel, rfl, by decide +kernel, by decide +kernel⟩
abbrev s_can_have_one_more : Stmt := top 30
abbrev N_can_have_one_more : List Str := ["mosts", "shares", "mouth", "sums", "number", "most"]
abbrev P_can_have_one_more : List Str := ["mosts", "shares", "mouth"]
theorem sc_can_have_one_more : FnScope N_can_have_one_more P_can_have_one_more (defScope s_can_have_one_more) := ⟨rfl, rfl, rfl, by decide +kernel, rfl, by decide +kernel, by decide +kernel⟩
abbrev s_full_rounds : Stmt := top 31
abbrev N_full_rounds : List Str := ["mosts", "shares", "takers", "sums", "counts", "mouth", "number", "most"]
abbrev P_full_rounds : List Str := ["mosts", "shares", "takers"]
theorem sc_full_rounds : FnScope N_full_rounds P_full_rounds (defScope s_full_rounds) := ⟨rfl, rfl, rfl, by decide +kernel, rfl, by decide +kernel, by decide +kernel⟩
abbrev s_whole_shares : Stmt := top 32
abbrev N_whole_shares : List Str := ["state", "mosts", "shares", "takers", "rounds", "mouth", "fed", "appetite"]
abbrev P_whole_shares : List Str := ["state"]
theorem sc_whole_shares : FnScope N_whole_shares P_whole_shares (defScope s_whole_shares) := ⟨rfl, rfl, rfl, by decide +kernel, rfl, by decide +kernel, by decide +kernel⟩
abbrev s_lay_table : Stmt := top 34
abbrev N_lay_table : List Str := ["state", "given", "food", "appetites", "mouth"]
abbrev P_lay_table : List Str := ["state", "given"]
theorem sc_lay_table : FnScope N_lay_table P_lay_table (defScope s_lay_table) := ⟨rfl, rfl, rfl, by decide +kernel, rfl, by decide +kernel, by decide +kernel⟩
abbrev s_put_reach : Stmt := top 35
abbrev N_put_reach : List Str := ["state", "given", "mouth", "places"]
abbrev P_put_reach : List Str := ["state", "given"]
theorem sc_put_reach : FnScope N_put_reach P_put_reach (defScope s_put_reach) := ⟨rfl, rfl, rfl, by decide +kernel, rfl, by decide +kernel, by decide +kernel⟩
abbrev s_put_food : Stmt := top 36
abbrev N_put_food : List Str := ["state", "given", "place", "amount"]
abbrev P_put_food : List Str := ["state", "given"]
theorem sc_put_food : FnScope N_put_food P_put_food (defScope s_put_food) := ⟨rfl, rfl, rfl, by decide +kernel, rfl, by decide +kernel, by decide +kernel⟩
abbrev s_put_appetite : Stmt := top 37
abbrev N_put_appetite : List Str := ["state", "given", "mouth", "amount"]
abbrev P_put_appetite : List Str := ["state", "given"]
theorem sc_put_appetite : FnScope N_put_appetite P_put_appetite (defScope s_put_appetite) := ⟨rfl, rfl, rfl, by decide +kernel, rfl, by decide +kernel, by decide +kernel⟩
abbrev s_tell_all : Stmt := top 38
abbrev N_tell_all : List Str := ["state", "given", "answer", "places"]
abbrev P_tell_all : List Str := ["state", "given"]
theorem sc_tell_all : FnScope N_tell_all P_tell_all (defScope s_tell_all) := ⟨rfl, rfl, rfl, by decide +kernel, rfl, by decide +kernel, by decide +kernel⟩
abbrev s_tell_most : Stmt := top 39
abbrev N_tell_most : List Str := ["state", "given", "members"]
abbrev P_tell_most : List Str := ["state", "given"]
theorem sc_tell_most : FnScope N_tell_most P_tell_most (defScope s_tell_most) := ⟨rfl, rfl, rfl, by decide +kernel, rfl, by decide +kernel, by decide +kernel⟩
abbrev s_tell_binding : Stmt := top 40
abbrev N_tell_binding : List Str := ["state", "given", "members"]
abbrev P_tell_binding : List Str := ["state", "given"]
theorem sc_tell_binding : FnScope N_tell_binding P_tell_binding (defScope s_tell_binding) := ⟨rfl, rfl, rfl, by decide +kernel, rfl, by decide +kernel, by decide +kernel⟩
abbrev s_tell_can : Stmt := top 41
abbrev N_tell_can : List Str := ["state", "given", "shares", "number"]
abbrev P_tell_can : List Str := ["state", "given"]
theorem sc_tell_can : FnScope N_tell_can P_tell_can (defScope s_tell_can) := ⟨rfl, rfl, rfl, by decide +kernel, rfl, by decide +kernel, by decide +kernel⟩
abbrev s_tell_fair : Stmt := top 42
abbrev N_tell_fair : List Str := ["state", "given", "aboves", "belows", "level", "mouth", "answer", "above", "below", "appetite"]
abbrev P_tell_fair : List Str := ["state", "given"]
theorem sc_tell_fair : FnScope N_tell_fair P_tell_fair (defScope s_tell_fair) := ⟨rfl, rfl, rfl, by decide +kernel, rfl, by decide +kernel, by decide +kernel⟩
abbrev s_tell_levels : Stmt := top 43
abbrev N_tell_levels : List Str := ["state", "given", "answer", "level"]
abbrev P_tell_levels : List Str := ["state", "given"]
theorem sc_tell_levels : FnScope N_tell_levels P_tell_levels (defScope s_tell_levels) := ⟨rfl, rfl, rfl, by decide +kernel, rfl, by decide +kernel, by decide +kernel⟩
abbrev s_tell_whole : Stmt := top 44
abbrev N_tell_whole : List Str := ["state", "given"]
abbrev P_tell_whole : List Str := ["state", "given"]
theorem sc_tell_whole : FnScope N_tell_whole P_tell_whole (defScope s_tell_whole) := ⟨rfl, rfl, rfl, by decide +kernel, rfl, by decide +kernel, by decide +kernel⟩
abbrev s_rename_mouths : Stmt := top 45
abbrev N_rename_mouths : List Str := ["state", "given", "order", "mouth"]
abbrev P_rename_mouths : List Str := ["state", "given"]
theorem sc_rename_mouths : FnScope N_rename_mouths P_rename_mouths (defScope s_rename_mouths) := ⟨rfl, rfl, rfl, by decide +kernel, rfl, by decide +kernel, by decide +kernel⟩
abbrev s_do_call : Stmt := top 47
abbrev N_do_call : List Str := ["state", "number", "given", "doing"]
abbrev P_do_call : List Str := ["state", "number", "given"]
theorem sc_do_call : FnScope N_do_call P_do_call (defScope s_do_call) := ⟨rfl, rfl, rfl, by decide +kernel, rfl, by decide +kernel, by decide +kernel⟩
abbrev s_Reader___init__ : Stmt := inClass (top 50) 0
abbrev N_Reader___init__ : List Str := ["self", "line"]
abbrev P_Reader___init__ : List Str := ["self", "line"]
theorem sc_Reader___init__ : FnScope N_Reader___init__ P_Reader___init__ (defScope s_Reader___init__) := ⟨rfl, rfl, rfl, by decide +kernel, rfl, by decide +kernel, by decide +kernel⟩
abbrev s_Reader_is_done : Stmt := inClass (top 50) 1
abbrev N_Reader_is_done : List Str := ["self"]
abbrev P_Reader_is_done : List Str := ["self"]
theorem sc_Reader_is_done : FnScope N_Reader_is_done P_Reader_is_done (defScope s_Reader_is_done) := ⟨rfl, rfl, rfl, by decide +kernel, rfl, by decide +kernel, by decide +kernel⟩
abbrev s_Reader_take_number : Stmt := inClass (top 50) 2
abbrev N_Reader_take_number : List Str := ["self", "number"]
abbrev P_Reader_take_number : List Str := ["self"]
theorem sc_Reader_take_number : FnScope N_Reader_take_number P_Reader_take_number (defScope s_Reader_take_number) := ⟨rfl, rfl, rfl, by decide +kernel, rfl, by decide +kernel, by decide +kernel⟩
abbrev s_Reader_take_row : Stmt := inClass (top 50) 3
abbrev N_Reader_take_row : List Str := ["self", "length", "start"]
abbrev P_Reader_take_row : List Str := ["self"]
theorem sc_Reader_take_row : FnScope N_Reader_take_row P_Reader_take_row (defScope s_Reader_take_row) := ⟨rfl, rfl, rfl, by decide +kernel, rfl, by decide +kernel, by decide +kernel⟩
abbrev s_Reader_take_given : Stmt := inClass (top 50) 4
abbrev N_Reader_take_given : List Str := ["self", "number", "shape", "given", "turn"]
abbrev P_Reader_take_given : List Str := ["self", "number"]
theorem sc_Reader_take_given : FnScope N_Reader_take_given P_Reader_take_given (defScope s_Reader_take_given) := ⟨rfl, rfl, rfl, by decide +kernel, rfl, by decide +kernel, by decide +kernel⟩
abbrev s_State___init__ : Stmt := inClass (top 52) 0
abbrev N_State___init__ : List Str := ["self"]
abbrev P_State___init__ : List Str := ["self"]
theorem sc_State___init__ : FnScope N_State___init__ P_State___init__ (defScope s_State___init__) := ⟨rfl, rfl, rfl, by decide +kernel, rfl, by decide +kernel, by decide +kernel⟩
abbrev s_answers : Stmt := top 54
abbrev N_answers : List Str := ["calls", "state", "reader", "told", "number", "answer"]
abbrev P_answers : List Str := ["calls"]
theorem sc_answers : FnScope N_answers P_answers (defScope s_answers) := ⟨rfl, rfl, rfl, by decide +kernel, rfl, by decide +kernel, by decide +kernel⟩
/-- what the top has written -/
structure Txt (K : PySem.W.Frag) (mg : Str → Option Value) where
  a_all_choices : Addr
  fd_all_choices : FuncData
  F_all_choices : Fun K "all_choices" "all_choices" s_all_choices a_all_choices fd_all_choices
  b_all_choices : Binds K fd_all_choices P_all_choices []
  g_all_choices : mg "all_choices" = some (.ref a_all_choices)
  a_reached_food : Addr
  fd_reached_food : FuncData
  F_reached_food : Fun K "reached_food" "reached_food" s_reached_food a_reached_food fd_reached_food
  b_reached_food : Binds K fd_reached_food P_reached_food []
  g_reached_food : mg "reached_food" = some (.ref a_reached_food)
  a_wanted_amount : Addr
  fd_wanted_amount : FuncData
  F_wanted_amount : Fun K "wanted_amount" "wanted_amount" s_wanted_amount a_wanted_amount fd_wanted_amount
  b_wanted_amount : Binds K fd_wanted_amount P_wanted_amount []
  g_wanted_amount : mg "wanted_amount" = some (.ref a_wanted_amount)
  a_bound_of : Addr
  fd_bound_of : FuncData
  F_bound_of : Fun K "bound_of" "bound_of" s_bound_of a_bound_of fd_bound_of
  b_bound_of : Binds K fd_bound_of P_bound_of []
  g_bound_of : mg "bound_of" = some (.ref a_bound_of)
  a_most_of : Addr
  fd_most_of : FuncData
  F_most_of : Fun K "most_of" "most_of" s_most_of a_most_of fd_most_of
  b_most_of : Binds K fd_most_of P_most_of []
  g_most_of : mg "most_of" = some (.ref a_most_of)
  a_bound_by_food : Addr
  fd_bound_by_food : FuncData
  F_bound_by_food : Fun K "bound_by_food" "bound_by_food" s_bound_by_food a_bound_by_food fd_bound_by_food
  b_bound_by_food : Binds K fd_bound_by_food P_bound_by_food []
  g_bound_by_food : mg "bound_by_food" = some (.ref a_bound_by_food)
  a_is_there : Addr
  fd_is_there : FuncData
  F_is_there : Fun K "is_there" "is_there" s_is_there a_is_there fd_is_there
  b_is_there : Binds K fd_is_there P_is_there []
  g_is_there : mg "is_there" = some (.ref a_is_there)
  a_goes_up : Addr
  fd_goes_up : FuncData
  F_goes_up : Fun K "goes_up" "goes_up" s_goes_up a_goes_up fd_goes_up
  b_goes_up : Binds K fd_goes_up P_goes_up []
  g_goes_up : mg "goes_up" = some (.ref a_goes_up)
  a_is_choice : Addr
  fd_is_choice : FuncData
  F_is_choice : Fun K "is_choice" "is_choice" s_is_choice a_is_choice fd_is_choice
  b_is_choice : Binds K fd_is_choice P_is_choice []
  g_is_choice : mg "is_choice" = some (.ref a_is_choice)
  a_is_amount : Addr
  fd_is_amount : FuncData
  F_is_amount : Fun K "is_amount" "is_amount" s_is_amount a_is_amount fd_is_amount
  b_is_amount : Binds K fd_is_amount P_is_amount []
  g_is_amount : mg "is_amount" = some (.ref a_is_amount)
  a_is_amount_row : Addr
  fd_is_amount_row : FuncData
  F_is_amount_row : Fun K "is_amount_row" "is_amount_row" s_is_amount_row a_is_amount_row fd_is_amount_row
  b_is_amount_row : Binds K fd_is_amount_row P_is_amount_row []
  g_is_amount_row : mg "is_amount_row" = some (.ref a_is_amount_row)
  a_is_share_row : Addr
  fd_is_share_row : FuncData
  F_is_share_row : Fun K "is_share_row" "is_share_row" s_is_share_row a_is_share_row fd_is_share_row
  b_is_share_row : Binds K fd_is_share_row P_is_share_row []
  g_is_share_row : mg "is_share_row" = some (.ref a_is_share_row)
  a_is_order : Addr
  fd_is_order : FuncData
  F_is_order : Fun K "is_order" "is_order" s_is_order a_is_order fd_is_order
  b_is_order : Binds K fd_is_order P_is_order []
  g_is_order : mg "is_order" = some (.ref a_is_order)
  a_every_set : Addr
  fd_every_set : FuncData
  F_every_set : Fun K "every_set" "every_set" s_every_set a_every_set fd_every_set
  b_every_set : Binds K fd_every_set P_every_set []
  g_every_set : mg "every_set" = some (.ref a_every_set)
  a_sums_of_sets : Addr
  fd_sums_of_sets : FuncData
  F_sums_of_sets : Fun K "sums_of_sets" "sums_of_sets" s_sums_of_sets a_sums_of_sets fd_sums_of_sets
  b_sums_of_sets : Binds K fd_sums_of_sets P_sums_of_sets []
  g_sums_of_sets : mg "sums_of_sets" = some (.ref a_sums_of_sets)
  a_mosts_of_sets : Addr
  fd_mosts_of_sets : FuncData
  F_mosts_of_sets : Fun K "mosts_of_sets" "mosts_of_sets" s_mosts_of_sets a_mosts_of_sets fd_mosts_of_sets
  b_mosts_of_sets : Binds K fd_mosts_of_sets P_mosts_of_sets []
  g_mosts_of_sets : mg "mosts_of_sets" = some (.ref a_mosts_of_sets)
  a_first_above : Addr
  fd_first_above : FuncData
  F_first_above : Fun K "first_above" "first_above" s_first_above a_first_above fd_first_above
  b_first_above : Binds K fd_first_above P_first_above []
  g_first_above : mg "first_above" = some (.ref a_first_above)
  a_Level___init__ : Addr
  fd_Level___init__ : FuncData
  F_Level___init__ : Fun K "__init__" "Level.__init__" s_Level___init__ a_Level___init__ fd_Level___init__
  b_Level___init__ : Binds K fd_Level___init__ P_Level___init__ []
  a_common_part : Addr
  fd_common_part : FuncData
  F_common_part : Fun K "common_part" "common_part" s_common_part a_common_part fd_common_part
  b_common_part : Binds K fd_common_part P_common_part []
  g_common_part : mg "common_part" = some (.ref a_common_part)
  a_level_of : Addr
  fd_level_of : FuncData
  F_level_of : Fun K "level_of" "level_of" s_level_of a_level_of fd_level_of
  b_level_of : Binds K fd_level_of P_level_of []
  g_level_of : mg "level_of" = some (.ref a_level_of)
  a_comes_ahead : Addr
  fd_comes_ahead : FuncData
  F_comes_ahead : Fun K "comes_ahead" "comes_ahead" s_comes_ahead a_comes_ahead fd_comes_ahead
  b_comes_ahead : Binds K fd_comes_ahead P_comes_ahead []
  g_comes_ahead : mg "comes_ahead" = some (.ref a_comes_ahead)
  a_done_behind : Addr
  fd_done_behind : FuncData
  F_done_behind : Fun K "done_behind" "done_behind" s_done_behind a_done_behind fd_done_behind
  b_done_behind : Binds K fd_done_behind P_done_behind []
  g_done_behind : mg "done_behind" = some (.ref a_done_behind)
  a_levels_of : Addr
  fd_levels_of : FuncData
  F_levels_of : Fun K "levels_of" "levels_of" s_levels_of a_levels_of fd_levels_of
  b_levels_of : Binds K fd_levels_of P_levels_of []
  g_levels_of : mg "levels_of" = some (.ref a_levels_of)
  a_can_have_one_more : Addr
  fd_can_have_one_more : FuncData
  F_can_have_one_more : Fun K "can_have_one_more" "can_have_one_more" s_can_have_one_more a_can_have_one_more fd_can_have_one_more
  b_can_have_one_more : Binds K fd_can_have_one_more P_can_have_one_more []
  g_can_have_one_more : mg "can_have_one_more" = some (.ref a_can_have_one_more)
  a_full_rounds : Addr
  fd_full_rounds : FuncData
  F_full_rounds : Fun K "full_rounds" "full_rounds" s_full_rounds a_full_rounds fd_full_rounds
  b_full_rounds : Binds K fd_full_rounds P_full_rounds []
  g_full_rounds : mg "full_rounds" = some (.ref a_full_rounds)
  a_whole_shares : Addr
  fd_whole_shares : FuncData
  F_whole_shares : Fun K "whole_shares" "whole_shares" s_whole_shares a_whole_shares fd_whole_shares
  b_whole_shares : Binds K fd_whole_shares P_whole_shares []
  g_whole_shares : mg "whole_shares" = some (.ref a_whole_shares)
  a_lay_table : Addr
  fd_lay_table : FuncData
  F_lay_table : Fun K "lay_table" "lay_table" s_lay_table a_lay_table fd_lay_table
  b_lay_table : Binds K fd_lay_table P_lay_table []
  g_lay_table : mg "lay_table" = some (.ref a_lay_table)
  a_put_reach : Addr
  fd_put_reach : FuncData
  F_put_reach : Fun K "put_reach" "put_reach" s_put_reach a_put_reach fd_put_reach
  b_put_reach : Binds K fd_put_reach P_put_reach []
  g_put_reach : mg "put_reach" = some (.ref a_put_reach)
  a_put_food : Addr
  fd_put_food : FuncData
  F_put_food : Fun K "put_food" "put_food" s_put_food a_put_food fd_put_food
  b_put_food : Binds K fd_put_food P_put_food []
  g_put_food : mg "put_food" = some (.ref a_put_food)
  a_put_appetite : Addr
  fd_put_appetite : FuncData
  F_put_appetite : Fun K "put_appetite" "put_appetite" s_put_appetite a_put_appetite fd_put_appetite
  b_put_appetite : Binds K fd_put_appetite P_put_appetite []
  g_put_appetite : mg "put_appetite" = some (.ref a_put_appetite)
  a_tell_all : Addr
  fd_tell_all : FuncData
  F_tell_all : Fun K "tell_all" "tell_all" s_tell_all a_tell_all fd_tell_all
  b_tell_all : Binds K fd_tell_all P_tell_all []
  g_tell_all : mg "tell_all" = some (.ref a_tell_all)
  a_tell_most : Addr
  fd_tell_most : FuncData
  F_tell_most : Fun K "tell_most" "tell_most" s_tell_most a_tell_most fd_tell_most
  b_tell_most : Binds K fd_tell_most P_tell_most []
  g_tell_most : mg "tell_most" = some (.ref a_tell_most)
  a_tell_binding : Addr
  fd_tell_binding : FuncData
  F_tell_binding : Fun K "tell_binding" "tell_binding" s_tell_binding a_tell_binding fd_tell_binding
  b_tell_binding : Binds K fd_tell_binding P_tell_binding []
  g_tell_binding : mg "tell_binding" = some (.ref a_tell_binding)
  a_tell_can : Addr
  fd_tell_can : FuncData
  F_tell_can : Fun K "tell_can" "tell_can" s_tell_can a_tell_can fd_tell_can
  b_tell_can : Binds K fd_tell_can P_tell_can []
  g_tell_can : mg "tell_can" = some (.ref a_tell_can)
  a_tell_fair : Addr
  fd_tell_fair : FuncData
  F_tell_fair : Fun K "tell_fair" "tell_fair" s_tell_fair a_tell_fair fd_tell_fair
  b_tell_fair : Binds K fd_tell_fair P_tell_fair []
  g_tell_fair : mg "tell_fair" = some (.ref a_tell_fair)
  a_tell_levels : Addr
  fd_tell_levels : FuncData
  F_tell_levels : Fun K "tell_levels" "tell_levels" s_tell_levels a_tell_levels fd_tell_levels
  b_tell_levels : Binds K fd_tell_levels P_tell_levels []
  g_tell_levels : mg "tell_levels" = some (.ref a_tell_levels)
  a_tell_whole : Addr
  fd_tell_whole : FuncData
  F_tell_whole : Fun K "tell_whole" "tell_whole" s_tell_whole a_tell_whole fd_tell_whole
  b_tell_whole : Binds K fd_tell_whole P_tell_whole []
  g_tell_whole : mg "tell_whole" = some (.ref a_tell_whole)
  a_rename_mouths : Addr
  fd_rename_mouths : FuncData
  F_rename_mouths : Fun K "rename_mouths" "rename_mouths" s_rename_mouths a_rename_mouths fd_rename_mouths
  b_rename_mouths : Binds K fd_rename_mouths P_rename_mouths []
  g_rename_mouths : mg "rename_mouths" = some (.ref a_rename_mouths)
  a_do_call : Addr
  fd_do_call : FuncData
  F_do_call : Fun K "do_call" "do_call" s_do_call a_do_call fd_do_call
  b_do_call : Binds K fd_do_call P_do_call []
  g_do_call : mg "do_call" = some (.ref a_do_call)
  a_Reader___init__ : Addr
  fd_Reader___init__ : FuncData
  F_Reader___init__ : Fun K "__init__" "Reader.__init__" s_Reader___init__ a_Reader___init__ fd_Reader___init__
  b_Reader___init__ : Binds K fd_Reader___init__ P_Reader___init__ []
  a_Reader_is_done : Addr
  fd_Reader_is_done : FuncData
  F_Reader_is_done : Fun K "is_done" "Reader.is_done" s_Reader_is_done a_Reader_is_done fd_Reader_is_done
  b_Reader_is_done : Binds K fd_Reader_is_done P_Reader_is_done []
  a_Reader_take_number : Addr
  fd_Reader_take_number : FuncData
  F_Reader_take_number : Fun K "take_number" "Reader.take_number" s_Reader_take_number a_Reader_take_number fd_Reader_take_number
  b_Reader_take_number : Binds K fd_Reader_take_number P_Reader_take_number []
  a_Reader_take_row : Addr
  fd_Reader_take_row : FuncData
  F_Reader_take_row : Fun K "take_row" "Reader.take_row" s_Reader_take_row a_Reader_take_row fd_Reader_take_row
  b_Reader_take_row : Binds K fd_Reader_take_row P_Reader_take_row []
  a_Reader_take_given : Addr
  fd_Reader_take_given : FuncData
  F_Reader_take_given : Fun K "take_given" "Reader.take_given" s_Reader_take_given a_Reader_take_given fd_Reader_take_given
  b_Reader_take_given : Binds K fd_Reader_take_given P_Reader_take_given []
  a_State___init__ : Addr
  fd_State___init__ : FuncData
  F_State___init__ : Fun K "__init__" "State.__init__" s_State___init__ a_State___init__ fd_State___init__
  b_State___init__ : Binds K fd_State___init__ P_State___init__ []
  a_answers : Addr
  fd_answers : FuncData
  F_answers : Fun K "answers" "answers" s_answers a_answers fd_answers
  b_answers : Binds K fd_answers P_answers []
  g_answers : mg "answers" = some (.ref a_answers)
  C_Level : Addr
  c_Level : Cls K C_Level
  g_Level : mg "Level" = some (.ref C_Level)
  m_Level : Mk K C_Level a_Level___init__
  n_Level_above : NoAttr K C_Level "above"
  n_Level_below : NoAttr K C_Level "below"
  n_Level_mouths : NoAttr K C_Level "mouths"
  C_Reader : Addr
  c_Reader : Cls K C_Reader
  g_Reader : mg "Reader" = some (.ref C_Reader)
  m_Reader : Mk K C_Reader a_Reader___init__
  t_Reader_is_done : Meth K C_Reader "is_done" a_Reader_is_done
  t_Reader_take_number : Meth K C_Reader "take_number" a_Reader_take_number
  t_Reader_take_row : Meth K C_Reader "take_row" a_Reader_take_row
  t_Reader_take_given : Meth K C_Reader "take_given" a_Reader_take_given
  n_Reader_line : NoAttr K C_Reader "line"
  n_Reader_at : NoAttr K C_Reader "at"
  C_State : Addr
  c_State : Cls K C_State
  g_State : mg "State" = some (.ref C_State)
  m_State : Mk K C_State a_State___init__
  n_State_food : NoAttr K C_State "food"
  n_State_appetites : NoAttr K C_State "appetites"
  n_State_reaches : NoAttr K C_State "reaches"
  n_sum : mg "sum" = none
  n_enumerate : mg "enumerate" = none
  n_min : mg "min" = none
  n_any : mg "any" = none
  n_range : mg "range" = none
  n_len : mg "len" = none
  n_all : mg "all" = none
  g_MOST_AMOUNT : ∃ t, mg "MOST_AMOUNT" = some (.int 100 t)
  g_MOST_OF_EACH : ∃ t, mg "MOST_OF_EACH" = some (.int 8 t)
  n_sorted : mg "sorted" = none
  n_list : mg "list" = none
  n_zip : mg "zip" = none
  A_DOINGS : Addr
  g_DOINGS : mg "DOINGS" = some (.ref A_DOINGS)
  w_DOINGS_0 : WInt K A_DOINGS 0 (.ref a_lay_table)
  w_DOINGS_1 : WInt K A_DOINGS 1 (.ref a_put_reach)
  w_DOINGS_2 : WInt K A_DOINGS 2 (.ref a_put_food)
  w_DOINGS_3 : WInt K A_DOINGS 3 (.ref a_put_appetite)
  w_DOINGS_4 : WInt K A_DOINGS 4 (.ref a_tell_all)
  w_DOINGS_5 : WInt K A_DOINGS 5 (.ref a_tell_most)
  w_DOINGS_6 : WInt K A_DOINGS 6 (.ref a_tell_binding)
  w_DOINGS_7 : WInt K A_DOINGS 7 (.ref a_tell_can)
  w_DOINGS_8 : WInt K A_DOINGS 8 (.ref a_tell_fair)
  w_DOINGS_9 : WInt K A_DOINGS 9 (.ref a_tell_levels)
  w_DOINGS_10 : WInt K A_DOINGS 10 (.ref a_tell_whole)
  w_DOINGS_11 : WInt K A_DOINGS 11 (.ref a_rename_mouths)
  A_SHAPES : Addr
  g_SHAPES : mg "SHAPES" = some (.ref A_SHAPES)
  w_SHAPES : ∀ (p : Int) (n k : Nat), PyVbecaf.shape p = some (n, k) → p ≤ lastP → ∃ t, WInt K A_SHAPES p (.ref t) ∧ ∀ H, SqT K H t [.int (n : Int), .int (k : Int)]
end Tbl
set_option Elab.async false
set_option linter.all false
set_option maxRecDepth 100000
namespace Tbl
open PySem PySem.Spec PyProof.Rows L2 Evl
section
variable {K : PySem.W.Frag} {mg : Str → Option Value}
def rdF (l : Addr) (i : Nat) : List (Str × V) := [("line", .ref l), ("at", .int (i : Int))]
theorem rdF_line {l : Addr} {i : Nat} : (rdF l i).lookup ("line" : Str) = some (.ref l) := lk_here
theorem rdF_at {l : Addr} {i : Nat} : (rdF l i).lookup ("at" : Str) = some (.int (i : Int)) := (lk_past (by decide +kernel)).trans lk_here
theorem rdF_put {l : Addr} {i j : Nat} : putF "at" (.int (j : Int)) (rdF l i) = rdF l j := (put_past (by decide +kernel)).trans (congrArg _ put_here)
def RdAt (T : Txt K mg) (a l : Addr) (i : Nat) (H : Hp) : Prop := ∃ dx, H a = some (.ins T.C_Reader dx (rdF l i))
theorem RdAt.ex {T : Txt K mg} {a l : Addr} {i : Nat} {H H' : Hp} (h : RdAt T a l i H) (e : Ex H H') : RdAt T a l i H' := h.imp fun dx q => e a _ q
theorem RdAt.line {T : Txt K mg} {a l : Addr} {i : Nat} {H H' : Hp} {xs : List V} (h : RdAt T a l i H) (hs : SqL K H l xs) (f : Fr (· = a) H H') : SqL K H' l xs := by
  obtain ⟨dx, h⟩ := h
  refine sql_fr hs f fun e => ?_
  rw [e, h]
  refine ⟨fun ys z => ?_, fun o u z => ?_⟩
  · cases z
  · cases z
/-! ### the state -/
def enN (n : Nat) : V := .int (n : Int)
theorem enN_map {l : List Int} (h : ∀ x ∈ l, 0 ≤ x) : (l.map Int.toNat).map enN = l.map V.int := by
  conv => rhs; rw [← toNat_map h]
  rw [List.map_map (l := l.map Int.toNat)]
  rfl
def stF (f ap r : Addr) : List (Str × V) := [("food", .ref f), ("appetites", .ref ap), ("reaches", .ref r)]
theorem stF_food {f ap r : Addr} : (stF f ap r).lookup ("food" : Str) = some (.ref f) := lk_here
theorem stF_app {f ap r : Addr} : (stF f ap r).lookup ("appetites" : Str) = some (.ref ap) := (lk_past (by decide +kernel)).trans lk_here
theorem stF_re {f ap r : Addr} : (stF f ap r).lookup ("reaches" : Str) = some (.ref r) := (lk_past (by decide +kernel)).trans ((lk_past (by decide +kernel)).trans lk_here)
theorem stF_pf {f ap r b : Addr} : putF "food" (.ref b) (stF f ap r) = stF b ap r := put_here
theorem stF_pa {f ap r b : Addr} : putF "appetites" (.ref b) (stF f ap r) = stF f b r := (put_past (by decide +kernel)).trans (congrArg _ put_here)
theorem stF_pr {f ap r b : Addr} : putF "reaches" (.ref b) (stF f ap r) = stF f ap b := (put_past (by decide +kernel)).trans (congrArg _ ((put_past (by decide +kernel)).trans (congrArg _ put_here)))
structure StA (T : Txt K mg) (t : Vbecaf.Table) (s dx f ap r : Addr) (qs : List Addr) (H : Hp) : Prop where
  ob : H s = some (.ins T.C_State dx (stF f ap r))
  fo : H f = some (.lst (t.food.map enN))
  app : H ap = some (.lst (t.appetites.map enN))
  re : H r = some (.lst (qs.map V.ref))
  len : qs.length = t.reach.length
  rows : ∀ (i : Nat) (q : Addr) (x : List Nat), qs[i]? = some q → t.reach[i]? = some x → H q = some (.lst (x.map enN))
  nfa : f ≠ ap
  nfr : f ≠ r
  nar : ap ≠ r
  nqf : f ∉ qs
  nqa : ap ∉ qs
  nqr : r ∉ qs
def StAt (T : Txt K mg) (t : Vbecaf.Table) (s : Addr) (S : Addr → Prop) (H : Hp) : Prop := ∃ dx f ap r qs, StA T t s dx f ap r qs H ∧ S s ∧ S f ∧ S ap ∧ S r ∧ ∀ q ∈ qs, S q
theorem StA.ex {T : Txt K mg} {t : Vbecaf.Table} {s dx f ap r : Addr} {qs : List Addr} {H H' : Hp} (h : StA T t s dx f ap r qs H) (e : Ex H H') : StA T t s dx f ap r qs H' :=
  ⟨e _ _ h.ob, e _ _ h.fo, e _ _ h.app, e _ _ h.re, h.len, fun i q x a b => e _ _ (h.rows i q x a b), h.nfa, h.nfr, h.nar, h.nqf, h.nqa, h.nqr⟩
theorem StAt.ex {T : Txt K mg} {t : Vbecaf.Table} {s : Addr} {S : Addr → Prop} {H H' : Hp} (h : StAt T t s S H) (e : Ex H H') : StAt T t s S H' := by
  obtain ⟨dx, f, ap, r, qs, a, b⟩ := h
  exact ⟨dx, f, ap, r, qs, a.ex e, b⟩
theorem StAt.mono {T : Txt K mg} {t : Vbecaf.Table} {s : Addr} {S S' : Addr → Prop} {H : Hp} (h : StAt T t s S H) (m : ∀ a, S a → S' a) : StAt T t s S' H := by
  obtain ⟨dx, f, ap, r, qs, a, b1, b2, b3, b4, b5⟩ := h
  exact ⟨dx, f, ap, r, qs, a, m _ b1, m _ b2, m _ b3, m _ b4, fun q hq => m _ (b5 q hq)⟩
/-- what else may change -/
theorem StAt.fr {T : Txt K mg} {t : Vbecaf.Table} {s : Addr} {S W : Addr → Prop} {H H' : Hp} (h : StAt T t s S H) (f : Fr W H H') (n : ∀ a, S a → ¬ W a) : StAt T t s S H' := by
  obtain ⟨dx, fo, ap, r, qs, a, b1, b2, b3, b4, b5⟩ := h
  refine ⟨dx, fo, ap, r, qs, ⟨f _ _ a.ob (n _ b1), f _ _ a.fo (n _ b2), f _ _ a.app (n _ b3), f _ _ a.re (n _ b4), a.len, fun i q x h1 h2 => f _ _ (a.rows i q x h1 h2) (n _ (b5 q (List.mem_of_getElem? h1))), a.nfa, a.nfr, a.nar, a.nqf, a.nqa, a.nqr⟩, b1, b2, b3, b4, b5⟩
theorem StAt.tracked {T : Txt K mg} {t : Vbecaf.Table} {s : Addr} {S : Addr → Prop} {H : Hp} (h : StAt T t s S H) : StAt T t s (fun x => S x ∧ H x ≠ none) H := by
  obtain ⟨dx, f, ap, r, rs, hA, k1, k2, k3, k4, k5⟩ := h
  have ne2 : ∀ b o, H b = some o → H b ≠ none := fun b o h z => by rw [h] at z; cases z
  refine ⟨dx, f, ap, r, rs, hA, ⟨k1, ne2 _ _ hA.ob⟩, ⟨k2, ne2 _ _ hA.fo⟩, ⟨k3, ne2 _ _ hA.app⟩, ⟨k4, ne2 _ _ hA.re⟩, fun c hc => ⟨k5 c hc, ?_⟩⟩
  obtain ⟨i, hi⟩ := List.mem_iff_getElem?.mp hc
  have hl : i < t.reach.length := by rw [← hA.len]; exact (List.getElem?_eq_some_iff.mp hi).1
  exact ne2 _ _ (hA.rows i c _ hi (List.getElem?_eq_getElem hl))
theorem inV_enN (m : Nat) (l : List Nat) : inV (enN m) (l.map enN) = l.contains m := by
  unfold inV
  rw [List.any_map, List.contains_eq_any_beq]
  congr 1
  funext x
  show ((x : Int) == (m : Int)) = (m == x)
  by_cases h : m = x
  · rw [h]; simp
  · rw [beq_false_of_ne (by omega : (x : Int) ≠ (m : Int))]
    exact (beq_false_of_ne h).symm
theorem flat_enN (l : List Nat) : (l.map enN).all flatV = true := by
  rw [List.all_map, List.all_eq_true]
  intro x _
  rfl
/-! ### what a call is handed, and what it leaves -/
structure DoPre (T : Txt K mg) (s g : Addr) (S : Addr → Prop) (t : Vbecaf.Table) (p : Int) (ns : List Int) (xs : List (List Int)) (qs : List Addr) (H : Hp) : Prop where
  st : StAt T t s S H
  wf : WfT t
  gv : H g = some (.lst (ns.map V.int ++ qs.map V.ref))
  len : qs.length = xs.length
  nd : qs.Nodup
  rows : ∀ (i : Nat) (q : Addr) (x : List Int), qs[i]? = some q → xs[i]? = some x → H q = some (.lst (x.map V.int))
  out : ∀ q ∈ qs, ¬ S q
  shape : PyVbecaf.shape p = some (ns.length, xs.length)
  small : ∀ x ∈ xs, x.length ≤ 100
def DoPost (T : Txt K mg) (s : Addr) (S : Addr → Prop) (t : Vbecaf.Table) (p : Int) (ns : List Int) (xs : List (List Int)) (qs : List Addr) (H : Hp) (v : V) (H' : Hp) : Prop :=
  ∃ b, v = .ref b ∧ H b = none ∧ H' b = some (.lst ((Vbecaf.step ⟨t⟩ ((p :: ns) :: xs)).2.map V.int)) ∧ StAt T (Vbecaf.step ⟨t⟩ ((p :: ns) :: xs)).1.table s (fun a => S a ∨ a ∈ qs ∨ H a = none) H' ∧ Fr S H H'
def DoD : Type := Addr × Addr × (Addr → Prop) × Vbecaf.Table × List Int × List (List Int) × List Addr
def spDo (T : Txt K mg) (p : Int) : Sp := PH (fun d : DoD => [.ref d.1, .ref d.2.1]) (fun d H => DoPre T d.1 d.2.1 d.2.2.1 d.2.2.2.1 p d.2.2.2.2.1 d.2.2.2.2.2.1 d.2.2.2.2.2.2 H)
  fun d H v H' => DoPost T d.1 d.2.2.1 d.2.2.2.1 p d.2.2.2.2.1 d.2.2.2.2.2.1 d.2.2.2.2.2.2 H v H'
/-- an answer that changes nothing -/
theorem do_same {T : Txt K mg} {s : Addr} {S : Addr → Prop} {t : Vbecaf.Table} {p : Int} {ns : List Int} {xs : List (List Int)} {qs : List Addr} {H H' : Hp} {b : Addr} {l : List Int} (hs : StAt T t s S H) (e : Ex H H') (nb : H b = none) (hb : H' b = some (.lst (l.map V.int)))
    (h : Vbecaf.step ⟨t⟩ ((p :: ns) :: xs) = (⟨t⟩, l)) : DoPost T s S t p ns xs qs H (.ref b) H' :=
  ⟨b, rfl, nb, by rw [h]; exact hb, by rw [h]; exact (hs.ex e).mono fun a h => .inl h, e.fr⟩
end
end Tbl
set_option Elab.async false
set_option linter.all false
set_option maxRecDepth 100000
set_option maxHeartbeats 2000000
namespace Tbl
open PySem PySem.Spec PyProof.Rows L2 Evl
section
variable {P : Program} {w : World} {K : PySem.W.Frag} {mg : Str → Option Value} {base : Heap}
def sp_is_there (T : Txt K mg) : Sp := PV (fun d : Int × Int => [.int d.1, .int d.2]) (fun _ _ => True) fun d => .bl (decide (0 ≤ d.1) && decide (d.1 < d.2))
theorem ok_is_there (T : Txt K mg) : FnOk P w K mg base CX0 1 T.a_is_there T.fd_is_there P_is_there (sp_is_there T) := by
  refine T.F_is_there.ok sc_is_there (fun vs H Q E h => ?_) (fun cdv A outer s H vs Q E hr h => ⟨_, (pss_one (ps_ret (pe_chain op_le op_lt pe_int (pv 0) (pv 1)))), ?_⟩)
  · obtain ⟨d, rfl, _⟩ := h
    rfl
  · obtain ⟨d, rfl, _, q⟩ := h
    refine s_ret (ev_chain ev_c (ev_var rfl) rv_I0 (fun _ => ev_var rfl) fun _ => rv_I0) q
def sp_is_amount (T : Txt K mg) : Sp := PV (fun d : Int => [.int d]) (fun _ _ => True) fun d => .bl (decide (0 ≤ d) && decide (d ≤ 100))
theorem ok_is_amount (T : Txt K mg) : FnOk P w K mg base CX0 1 T.a_is_amount T.fd_is_amount P_is_amount (sp_is_amount T) := by
  refine T.F_is_amount.ok sc_is_amount (fun vs H Q E h => ?_) (fun cdv A outer s H vs Q E hr h => ⟨_, (pss_one (ps_ret (pe_chain op_le op_le pe_int (pv 0) (pe_glob (v := .int 100) rfl (T.g_MOST_AMOUNT).choose_spec ⟨_, rfl⟩)))), ?_⟩)
  · obtain ⟨d, rfl, _⟩ := h
    rfl
  · obtain ⟨d, rfl, _, q⟩ := h
    refine s_ret (ev_chain ev_c (ev_var rfl) rv_I0 (fun _ => ev_c) fun _ => rv_I0) q
def sp_goes_up (T : Txt K mg) : Sp := PV (fun d : Addr × List Int => [.ref d.1]) (fun d H => SqL K H d.1 (d.2.map V.int) ∧ d.2.length ≤ 1000) fun d => .bl (Vbecaf.rising d.2)
theorem ok_goes_up (T : Txt K mg) : FnOk P w K mg base CX0 1 T.a_goes_up T.fd_goes_up P_goes_up (sp_goes_up T) := by
  refine T.F_goes_up.ok sc_goes_up (fun vs H Q E h => ?_) (fun cdv A outer s H vs Q E hr h => ⟨_, (pss_cons (ps_for PassesOwn.never rfl (pi_range2 (by rfl) T.n_range (pa_cons pe_int (pa_cons (pe_callB call_len_seq (by rfl) T.n_len PySem.boot_len (pa_cons (pv 0) pa_nil)) pa_nil))) (pg_name (i := 1) sc_goes_up.nd rfl (.inl rfl))
      (pss_one (ps_if (pt_cmpR op_ge (pe_ix ix_list (pv 0) (pe_op op_sub (pv 1) pe_int) (fun _ _ => rfl)) (pe_ix ix_list (pv 0) (pv 1) (fun _ _ => rfl)) (nomark _))
      (pss_one (ps_ret pe_bl))
      pss_nil)))
      (pss_one (ps_ret pe_bl))), ?_⟩)
  · obtain ⟨d, rfl, _⟩ := h
    rfl
  · obtain ⟨⟨a, ns⟩, rfl, ⟨hS, hl⟩, q⟩ := h
    dsimp only at hS hl q
    have hn : ((ns.map V.int).length : Int) = (ns.length : Int) := by rw [List.length_map]
    refine q_forR2 (lo := 1) (n := ((ns.map V.int).length : Int)) (ea_cons ev_c (ea_cons (ev_len (ev_var rfl) hS) ea_nil)) (by omega)
      (fun i σ' H' => Ex H H' ∧ σ'[0]? = some (some (.ref a)) ∧ (∃ y, σ' = [some (.ref a), y]) ∧ ∀ (j : Nat) (x y : Int), j < i → ns[j]? = some x → ns[j + 1]? = some y → x < y) ?_ ?_ ?_
    · exact fun H1 e => ⟨e, rfl, ⟨none, rfl⟩, fun j x y hj => by omega⟩
    · rintro i σ' H' hi ⟨e, _, ⟨y0, rfl⟩, hp⟩
      have h1 : i + 1 < ns.length := by omega
      have g1 : (ns.map V.int)[i]? = some (.int ns[i]) := by rw [List.getElem?_map, List.getElem?_eq_getElem (by omega)]; rfl
      have g2 : (ns.map V.int)[i + 1]? = some (.int ns[i + 1]) := by rw [List.getElem?_map, List.getElem?_eq_getElem (by omega)]; rfl
      have a1 : atI (ns.map V.int) ((1 : Int) + (i : Int) - 1) = some (.int ns[i]) := by
        have := atI_nat g1
        rw [show ((1 : Int) + (i : Int) - 1) = (i : Int) by omega]
        exact this
      have a2 : atI (ns.map V.int) ((1 : Int) + (i : Int)) = some (.int ns[i + 1]) := by
        have := atI_nat g2
        rw [show ((1 : Int) + (i : Int)) = ((i + 1 : Nat) : Int) by omega]
        exact this
      refine s_when (b := decide (ns[i + 1] ≤ ns[i])) (et_test (ev_op (ev_op (ev_var rfl) (ev_op (ev_var rfl) ev_c rv_I0) (rv_ixL (ex_l e hS) a1)) (ev_op (ev_var rfl) (ev_var rfl) (rv_ixL (ex_l e hS) a2)) rv_I0)) (fun hb H1 e1 => ?_) (fun hb H1 e1 => ?_)
      · refine s_ret ev_c fun H2 e2 => ?_
        have r : Vbecaf.rising ns = false := by
          cases hr : Vbecaf.rising ns with
          | false => rfl
          | true =>
            have := (rising_iff ns).mp hr i _ _ (List.getElem?_eq_getElem (by omega)) (List.getElem?_eq_getElem h1)
            have hb' := of_decide_eq_true hb
            omega
        rw [r] at q
        exact q H2 ((e.trans e1).trans e2)
      · refine ⟨e.trans e1, rfl, ⟨_, rfl⟩, fun j x y hj hx hy => ?_⟩
        by_cases c : j = i
        · subst c
          rw [List.getElem?_eq_getElem (by omega)] at hx hy
          cases hx
          cases hy
          have hb' := of_decide_eq_false hb
          omega
        · exact hp j x y (by omega) hx hy
    · rintro σ' H' ⟨e, _, ⟨y0, rfl⟩, hp⟩
      refine s_ret ev_c fun H2 e2 => ?_
      have r : Vbecaf.rising ns = true := by
        refine (rising_iff ns).mpr fun i x y hx hy => hp i x y ?_ hx hy
        have := (List.getElem?_eq_some_iff.mp hy).1
        omega
      rw [r] at q
      exact q H2 (e.trans e2)
end
end Tbl
set_option Elab.async false
set_option linter.all false
set_option maxRecDepth 100000
set_option maxHeartbeats 2000000
namespace Tbl
open PySem PySem.Spec PyProof.Rows L2 Evl
section
variable {P : Program} {w : World} {K : PySem.W.Frag} {mg : Str → Option Value} {base : Heap}
def sp_is_choice (T : Txt K mg) : Sp := PV (fun d : Addr × List Int × Int => [.ref d.1, .int d.2.2]) (fun d H => SqL K H d.1 (d.2.1.map V.int) ∧ d.2.1.length ≤ 1000) fun d => .bl (Vbecaf.rising d.2.1 && inAll d.2.1 d.2.2)
theorem ok_is_choice (T : Txt K mg) : FnOk P w K mg base CX0 2 T.a_is_choice T.fd_is_choice P_is_choice (sp_is_choice T) := by
  refine T.F_is_choice.ok sc_is_choice (fun vs H Q E h => ?_) (fun cdv A outer s H vs Q E hr h => ⟨_, (pss_one (ps_ret (pe_and (pe_call (ok_goes_up T) (hr.mono (by decide)) (by rfl) T.g_goes_up T.F_goes_up.kp T.b_goes_up .nil pass0 (pa_cons (pv 0) pa_nil)) (pe_one (pe_callB (cr_all rfl) (by rfl) T.n_all (by decide +kernel) (pa_cons (pe_lc (own := [("number", 2)]) (g := gName 2) (tt := tYes) rfl sc_is_choice.nd (pi_list (pv 0)) (blkOk_by (own := [("number", 2)]) (N := N_is_choice) (sc := defScope s_is_choice) (by decide +kernel)) (fun _ _ _ _ _ => (pg_name (i := 2) sc_is_choice.nd rfl (.inl rfl))) (fun _ _ _ _ _ => pts_nil) (fun _ _ _ _ _ => (pe_call (ok_is_there T) (hr.mono (by decide)) (by rfl) T.g_is_there T.F_is_there.kp T.b_is_there .nil pass0 (pa_cons (pv 2) (pa_cons (pv 1) pa_nil))))) pa_nil)))))), ?_⟩)
  · obtain ⟨d, rfl, _⟩ := h
    rfl
  · obtain ⟨⟨a, ns, c⟩, rfl, ⟨hS, hl⟩, q⟩ := h
    dsimp only at hS hl q
    refine s_ret (ev_andV (ev_pv (a, ns) (ea_cons (ev_var rfl) ea_nil) fun H1 e => ⟨ex_l e hS, hl⟩) fun _ => ?_) q
    have e : inAll ns c = (ns.map fun n => decide (0 ≤ n) && decide (n < c)).all id := by
      unfold inAll
      rw [List.all_map]
      rfl
    rw [e]
    refine ev_all ?_
    rw [List.map_map]
    exact el_compAll (en := V.int) _ (ev_var rfl) hS (by omega) (fun _ => rfl) fun x H1 e1 _ => ev_pv (x, c) (ea_cons (ev_var rfl) (ea_cons (ev_var rfl) ea_nil)) fun _ _ => trivial
def sp_is_amount_row (T : Txt K mg) : Sp := PV (fun d : Addr × List Int => [.ref d.1]) (fun d H => SqL K H d.1 (d.2.map V.int) ∧ d.2.length ≤ 1000) fun d => .bl (amountRow d.2)
theorem ok_is_amount_row (T : Txt K mg) : FnOk P w K mg base CX0 2 T.a_is_amount_row T.fd_is_amount_row P_is_amount_row (sp_is_amount_row T) := by
  refine T.F_is_amount_row.ok sc_is_amount_row (fun vs H Q E h => ?_) (fun cdv A outer s H vs Q E hr h => ⟨_, (pss_one (ps_ret (pe_and (pe_chain op_le op_le pe_int (pe_callB call_len_seq (by rfl) T.n_len PySem.boot_len (pa_cons (pv 0) pa_nil)) (pe_glob (v := .int 8) rfl (T.g_MOST_OF_EACH).choose_spec ⟨_, rfl⟩)) (pe_one (pe_callB (cr_all rfl) (by rfl) T.n_all (by decide +kernel) (pa_cons (pe_lc (own := [("amount", 1)]) (g := gName 1) (tt := tYes) rfl sc_is_amount_row.nd (pi_list (pv 0)) (blkOk_by (own := [("amount", 1)]) (N := N_is_amount_row) (sc := defScope s_is_amount_row) (by decide +kernel)) (fun _ _ _ _ _ => (pg_name (i := 1) sc_is_amount_row.nd rfl (.inl rfl))) (fun _ _ _ _ _ => pts_nil) (fun _ _ _ _ _ => (pe_call (ok_is_amount T) (hr.mono (by decide)) (by rfl) T.g_is_amount T.F_is_amount.kp T.b_is_amount .nil pass0 (pa_cons (pv 1) pa_nil)))) pa_nil)))))), ?_⟩)
  · obtain ⟨d, rfl, _⟩ := h
    rfl
  · obtain ⟨⟨a, ns⟩, rfl, ⟨hS, hl⟩, q⟩ := h
    dsimp only at hS hl q
    have e : (ns.all fun n => decide (0 ≤ n) && decide (n ≤ 100)) = (ns.map fun n => decide (0 ≤ n) && decide (n ≤ 100)).all id := by
      rw [List.all_map]
      rfl
    unfold amountRow at q
    rw [e] at q
    refine s_ret (ev_andV (ev_chain ev_c (ev_lenM (ev_var rfl) hS) rv_I0 (fun _ => ev_c) fun _ => rv_I0) fun _ => ?_) q
    refine ev_all ?_
    rw [List.map_map]
    exact el_compAll (en := V.int) _ (ev_var rfl) hS (by omega) (fun _ => rfl) fun x H1 e1 _ => ev_pv x (ea_cons (ev_var rfl) ea_nil) fun _ _ => trivial
end
end Tbl
set_option Elab.async false
set_option linter.all false
set_option maxRecDepth 100000
set_option maxHeartbeats 2000000
namespace Tbl
open PySem PySem.Spec PyProof.Rows L2 Evl
section
variable {P : Program} {w : World} {K : PySem.W.Frag} {mg : Str → Option Value} {base : Heap}
def sp_Reader___init__ (T : Txt K mg) : Sp := PH (fun d : Addr × Addr × Addr => [.ref d.1, .ref d.2.1]) (fun d H => H d.1 = some (.ins T.C_Reader d.2.2 [])) fun d H v H' => v = .non ∧ RdAt T d.1 d.2.1 0 H' ∧ Fr (· = d.1) H H'
theorem ok_Reader___init__ (T : Txt K mg) : FnOk P w K mg base CX0 1 T.a_Reader___init__ T.fd_Reader___init__ P_Reader___init__ (sp_Reader___init__ T) := by
  refine T.F_Reader___init__.ok sc_Reader___init__ (fun vs H Q E h => ?_) (fun cdv A outer s H vs Q E hr h => ⟨_, (pss_cons (ps_fld (pv 0) (pv 1) rfl)
      (pss_one (ps_fld (pv 0) pe_int rfl))), ?_⟩)
  · obtain ⟨d, rfl, _⟩ := h
    rfl
  · obtain ⟨⟨a, l, dx⟩, rfl, ho, q⟩ := h
    dsimp only at ho q
    refine q_fld (ev_var rfl) (ev_var rfl) ho T.c_Reader T.n_Reader_line (by show 0 < 1000; decide) fun H1 e1 => ?_
    refine s_fld ev_c (ev_var rfl) upd_same T.c_Reader T.n_Reader_at (by show 1 < 1000; decide) fun H2 e2 => ?_
    refine q .non _ ⟨rfl, ⟨dx, ?_⟩, ?_⟩
    · rw [upd_same]
      rfl
    · exact (((e1.fr).trans (fr_one)).trans e2.fr).trans (fr_one)
def sp_Reader_is_done (T : Txt K mg) : Sp := PV (fun d : Addr × Addr × Nat × List Int => [.ref d.1]) (fun d H => RdAt T d.1 d.2.1 d.2.2.1 H ∧ SqL K H d.2.1 (d.2.2.2.map V.int)) fun d => .bl (decide ((d.2.2.2.length : Int) ≤ (d.2.2.1 : Int)))
theorem ok_Reader_is_done (T : Txt K mg) : FnOk P w K mg base CX0 1 T.a_Reader_is_done T.fd_Reader_is_done P_Reader_is_done (sp_Reader_is_done T) := by
  refine T.F_Reader_is_done.ok sc_Reader_is_done (fun vs H Q E h => ?_) (fun cdv A outer s H vs Q E hr h => ⟨_, (pss_one (ps_ret (pe_cmpR op_ge (pe_fld (pv 0) rfl) (pe_callB call_len_seq (by rfl) T.n_len PySem.boot_len (pa_cons (pe_fld (pv 0) rfl) pa_nil)) (nomark _)))), ?_⟩)
  · obtain ⟨d, rfl, _⟩ := h
    rfl
  · obtain ⟨⟨a, l, i, ls⟩, rfl, ⟨⟨dx, hR⟩, hS⟩, q⟩ := h
    dsimp only at hR hS q
    exact s_ret (ev_op (ev_fld (ev_var rfl) hR T.c_Reader T.n_Reader_at rdF_at) (ev_lenM (ev_fld (ev_var rfl) hR T.c_Reader T.n_Reader_line rdF_line) hS) rv_I0) q
def sp_Reader_take_number (T : Txt K mg) : Sp := PH (fun d : Addr × Addr × Nat × List Int × Int => [.ref d.1]) (fun d H => RdAt T d.1 d.2.1 d.2.2.1 H ∧ SqL K H d.2.1 (d.2.2.2.1.map V.int) ∧ d.2.2.2.1[d.2.2.1]? = some d.2.2.2.2)
  fun d H v H' => v = .int d.2.2.2.2 ∧ RdAt T d.1 d.2.1 (d.2.2.1 + 1) H' ∧ Fr (· = d.1) H H'
theorem ok_Reader_take_number (T : Txt K mg) : FnOk P w K mg base CX0 1 T.a_Reader_take_number T.fd_Reader_take_number P_Reader_take_number (sp_Reader_take_number T) := by
  refine T.F_Reader_take_number.ok sc_Reader_take_number (fun vs H Q E h => ?_) (fun cdv A outer s H vs Q E hr h => ⟨_, (pss_cons (ps_set (i := 1) sc_Reader_take_number.nd rfl (.inl rfl) (pe_ix ix_list (pe_fld (pv 0) rfl) (pe_fld (pv 0) rfl) (fun _ _ => rfl)))
      (pss_cons (ps_fldaug (pv 0) pe_int in_add)
      (pss_one (ps_ret (pv 1))))), ?_⟩)
  · obtain ⟨d, rfl, _⟩ := h
    rfl
  · obtain ⟨⟨a, l, i, ls, n⟩, rfl, ⟨⟨dx, hR⟩, hS, hn⟩, q⟩ := h
    dsimp only at hR hS hn q
    have hi : (ls.map V.int)[i]? = some (.int n) := by rw [List.getElem?_map, hn]; rfl
    refine q_asg (ev_op (ev_fld (ev_var rfl) hR T.c_Reader T.n_Reader_line rdF_line) (ev_fld (ev_var rfl) hR T.c_Reader T.n_Reader_at rdF_at) (rv_ixL hS (atI_nat hi))) fun H1 e1 => ?_
    refine q_fldaug (g := fun x y => x + y) (ev_var rfl) (e1 a _ hR) T.c_Reader T.n_Reader_at rdF_at ev_c (by show 2 < 1000; decide) radd_go fun H2 e2 => ?_
    refine s_ret (ev_var rfl) fun H3 e3 => ?_
    refine q _ H3 ⟨rfl, ⟨dx, e3 a _ ?_⟩, ((e1.trans e2).fr.trans (fr_one)).trans e3.fr⟩
    rw [upd_same]
    exact congrArg (fun z => some (HO.ins T.C_Reader dx z)) (rdF_put (j := i + 1))
def sp_Reader_take_row (T : Txt K mg) : Sp := PH (fun d : Addr × Addr × Nat × List Int × Nat => [.ref d.1]) (fun d H => RdAt T d.1 d.2.1 d.2.2.1 H ∧ SqL K H d.2.1 (d.2.2.2.1.map V.int) ∧ d.2.2.2.1[d.2.2.1]? = some (d.2.2.2.2 : Int) ∧ d.2.2.1 + 1 + d.2.2.2.2 ≤ d.2.2.2.1.length)
  fun d H v H' => ∃ p, v = .ref p ∧ H p = none ∧ H' p = some (.lst (((d.2.2.2.1.drop (d.2.2.1 + 1)).take d.2.2.2.2).map V.int)) ∧ RdAt T d.1 d.2.1 (d.2.2.1 + 1 + d.2.2.2.2) H' ∧ Fr (· = d.1) H H'
theorem ok_Reader_take_row (T : Txt K mg) : FnOk P w K mg base CX0 2 T.a_Reader_take_row T.fd_Reader_take_row P_Reader_take_row (sp_Reader_take_row T) := by
  refine T.F_Reader_take_row.ok sc_Reader_take_row (fun vs H Q E h => ?_) (fun cdv A outer s H vs Q E hr h => ⟨_, (pss_cons (ps_set (i := 1) sc_Reader_take_row.nd rfl (.inl rfl) (pe_meth0 (pv 0) T.c_Reader T.t_Reader_take_number (ok_Reader_take_number T) (hr.mono (by decide)) T.b_Reader_take_number .nil pass0))
      (pss_cons (ps_set (i := 2) sc_Reader_take_row.nd rfl (.inl rfl) (pe_fld (pv 0) rfl))
      (pss_cons (ps_fld (pv 0) (pe_op op_add (pv 2) (pv 1)) rfl)
      (pss_one (ps_ret (pe_slice sl_list (pe_fld (pv 0) rfl) (po_some (pv 2)) (po_some (pe_fld (pv 0) rfl)))))))), ?_⟩)
  · obtain ⟨d, rfl, _⟩ := h
    rfl
  · obtain ⟨⟨a, l, i, ls, n⟩, rfl, ⟨hR, hS, hn, hz⟩, q⟩ := h
    dsimp only at hR hS hn hz q
    obtain ⟨dx, hR'⟩ := hR
    refine g_asg (go_meth (a, l, i, ls, (n : Int)) (ev_var rfl) hR' (by rfl) ea_nil rfl fun H1 e1 => ⟨⟨dx, e1 a _ hR'⟩, ex_l e1 hS, hn⟩) fun v H2 ⟨H1, e1, ev, ⟨dx2, hR2⟩, fr2⟩ => ?_
    subst ev
    dsimp only at hR2 fr2
    have hS2 : SqL K H2 l (ls.map V.int) := RdAt.line (T := T) (i := i) ⟨dx, e1 a _ hR'⟩ (ex_l e1 hS) fr2
    refine q_asg (ev_fld (ev_var rfl) hR2 T.c_Reader T.n_Reader_at rdF_at) fun H3 e3 => ?_
    refine q_fld (ev_op (ev_var rfl) (ev_var rfl) rv_I0) (ev_var rfl) (e3 a _ hR2) T.c_Reader T.n_Reader_at (by show 2 < 1000; decide) fun H4 e4 => ?_
    have e5 : putF "at" (V.int (((i + 1 : Nat) : Int) + (n : Int))) (rdF l (i + 1)) = rdF l (i + 1 + n) := by
      rw [show ((i + 1 : Nat) : Int) + (n : Int) = ((i + 1 + n : Nat) : Int) by omega]
      exact rdF_put
    rw [e5]
    have hR5 : (upd H4 a (.ins T.C_Reader dx2 (rdF l (i + 1 + n)))) a = some (.ins T.C_Reader dx2 (rdF l (i + 1 + n))) := upd_same
    have fr5 : Fr (fun x => x = a) H2 (upd H4 a (.ins T.C_Reader dx2 (rdF l (i + 1 + n)))) := ((e3.trans e4).fr).trans fr_one
    have hS5 : SqL K (upd H4 a (.ins T.C_Reader dx2 (rdF l (i + 1 + n)))) l (ls.map V.int) := RdAt.line (T := T) ⟨dx2, hR2⟩ hS2 fr5
    refine s_retL (el_sl (ev_fld (ev_var rfl) hR5 T.c_Reader T.n_Reader_line rdF_line) (eo_some (ev_var rfl)) (eo_some (ev_fld (ev_var rfl) hR5 T.c_Reader T.n_Reader_at rdF_at)) hS5) fun p H6 hp e6 h6 => ?_
    have fr6 : Fr (fun x => x = a) H H6 := ((e1.fr.trans fr2).trans fr5).trans e6.fr
    refine q _ H6 ⟨p, rfl, ?_, ?_, ⟨dx2, e6 a _ hR5⟩, fr6⟩
    · cases hh : H p with
      | none => rfl
      | some o =>
        have hpa : p ≠ a := fun z => by
          rw [z, upd_same] at hp
          cases hp
        have := (((e1.fr.trans fr2).trans fr5 : Fr (fun x => x = a) H _)) p o hh hpa
        rw [this] at hp
        cases hp
    · rw [h6, cut_nat _ (by omega) (by rw [List.length_map]; exact hz), ← List.map_drop, ← List.map_take]
      rw [show i + 1 + n - (i + 1) = n by omega]
end
end Tbl
set_option Elab.async false
set_option linter.all false
set_option maxRecDepth 100000
set_option maxHeartbeats 2000000
namespace Tbl
open PySem PySem.Spec PyProof.Rows L2 Evl
section
variable {P : Program} {w : World} {K : PySem.W.Frag} {mg : Str → Option Value} {base : Heap}
structure GivenAt (l : List Int) (i : Nat) (p : Int) (ns : List Int) (xs : List (List Int)) (j : Nat) : Prop where
  nums : ns = (l.drop i).take ns.length
  room : i + ns.length ≤ l.length
  rows : PyFlat.rows xs.length (l.drop (i + ns.length)) = some (xs, l.drop j)
  le : j ≤ l.length
  shape : PyVbecaf.shape p = some (ns.length, xs.length)
def sp_Reader_take_given (T : Txt K mg) : Sp := PH (fun d : Addr × Addr × Nat × List Int × Int × List Int × List (List Int) × Nat => [.ref d.1, .int d.2.2.2.2.1])
  (fun d H => RdAt T d.1 d.2.1 d.2.2.1 H ∧ SqL K H d.2.1 (d.2.2.2.1.map V.int) ∧ GivenAt d.2.2.2.1 d.2.2.1 d.2.2.2.2.1 d.2.2.2.2.2.1 d.2.2.2.2.2.2.1 d.2.2.2.2.2.2.2 ∧ d.2.2.2.2.1 ≤ lastP)
  fun d H v H' => ∃ g qs, v = .ref g ∧ H g = none ∧ H' g = some (.lst (d.2.2.2.2.2.1.map V.int ++ qs.map V.ref)) ∧ Rows d.2.2.2.2.2.2.1 qs H H' ∧ g ∉ qs ∧ RdAt T d.1 d.2.1 d.2.2.2.2.2.2.2 H' ∧ Fr (· = d.1) H H'
theorem ok_Reader_take_given (T : Txt K mg) : FnOk P w K mg base CX0 3 T.a_Reader_take_given T.fd_Reader_take_given P_Reader_take_given (sp_Reader_take_given T) := by
  refine T.F_Reader_take_given.ok sc_Reader_take_given (fun vs H Q E h => ?_) (fun cdv A outer s H vs Q E hr h => ⟨_, (pss_cons (ps_set (i := 2) sc_Reader_take_given.nd rfl (.inl rfl) (pe_ix ix_wdict (pe_glob (v := .ref T.A_SHAPES) rfl T.g_SHAPES rfl) (pv 1) (fun _ _ => rfl)))
      (pss_cons (ps_set (i := 3) sc_Reader_take_given.nd rfl (.inl rfl) (pe_lst pa_nil))
      (pss_cons (ps_for PassesOwn.never rfl (pi_range1 (by rfl) T.n_range (pa_cons (pe_ix ix_tup (pv 2) pe_int (fun _ _ => rfl)) pa_nil)) (pg_name (i := 4) sc_Reader_take_given.nd rfl (.inl rfl))
      (pss_one (ps_expr (pe_bm PySem.F.plainAttrs_list PySem.F.slot_list_append PySem.F.type_list_append mt_append (pv 3) (pa_cons (pe_meth0 (pv 0) T.c_Reader T.t_Reader_take_number (ok_Reader_take_number T) (hr.mono (by decide)) T.b_Reader_take_number .nil pass0) pa_nil)))))
      (pss_cons (ps_for PassesOwn.never rfl (pi_range1 (by rfl) T.n_range (pa_cons (pe_ix ix_tup (pv 2) pe_int (fun _ _ => rfl)) pa_nil)) (pg_name (i := 4) sc_Reader_take_given.nd rfl (.inl rfl))
      (pss_one (ps_expr (pe_bm PySem.F.plainAttrs_list PySem.F.slot_list_append PySem.F.type_list_append mt_append (pv 3) (pa_cons (pe_meth0 (pv 0) T.c_Reader T.t_Reader_take_row (ok_Reader_take_row T) (hr.mono (by decide)) T.b_Reader_take_row .nil pass0) pa_nil)))))
      (pss_one (ps_ret (pv 3))))))), ?_⟩)
  · obtain ⟨d, rfl, _⟩ := h
    rfl
  · obtain ⟨⟨a, l, i, ls, p, ns, xs, j⟩, rfl, ⟨hR, hS, hG, hp⟩, q⟩ := h
    dsimp only at hR hS hG hp q
    obtain ⟨ts, hw, ht⟩ := T.w_SHAPES p ns.length xs.length hG.shape hp
    have hlenS : ns.length ≤ 2 ∧ xs.length ≤ 2 := by
      rcases shape_cases hG.shape with h | h | h | h | h | h | h | h | h | h | h | h <;> omega
    refine q_asg (ev_op ev_c (ev_var rfl) (rv_ixW hw)) fun H1 e1 => ?_
    refine q_asgL (el_lst ea_nil (by decide)) fun g H2 ng e2 hg => ?_
    have ngH : H g = none := fresh_back e1 ng
    refine q_forR1 (n := (ns.length : Int)) (ea_cons (ev_op (ev_var rfl) ev_c (rv_ixTn (i := 0) (ht _) rfl)) ea_nil) (by omega)
      (fun m σ' H' => (∃ y, σ' = [some (.ref a), some (.int p), some (.ref ts), some (.ref g), y]) ∧ RdAt T a l (i + m) H' ∧ SqL K H' l (ls.map V.int) ∧ H' g = some (.lst ((ns.take m).map V.int)) ∧ Fr (fun x => x = a) H H') ?_ ?_ ?_
    · intro H3 e3
      exact ⟨⟨none, rfl⟩, hR.ex ((e1.trans e2).trans e3), ex_l ((e1.trans e2).trans e3) hS, e3 g _ hg, ((e1.trans e2).trans e3).fr⟩
    · rintro m σ' H' hm ⟨⟨y, rfl⟩, hRm, hSm, hgm, frm⟩
      have hm' : m < ns.length := by omega
      have hn : ls[i + m]? = some ns[m] := by
        have h1 : ns[m]? = some ns[m] := List.getElem?_eq_getElem hm'
        have h2 : ns[m]? = ((ls.drop i).take ns.length)[m]? := congrArg (fun z => z[m]?) hG.nums
        rw [List.getElem?_take, if_pos hm', List.getElem?_drop] at h2
        rw [← h2]
        exact h1
      have hRm0 := hRm
      obtain ⟨dx, hRm'⟩ := hRm
      have hga : g ≠ a := fun z => by
        rw [z, hRm'] at hgm
        cases hgm
      refine g_app (xs := (ns.take m).map V.int) (P := fun v H2 => v = .int ns[m] ∧ RdAt T a l (i + m + 1) H2 ∧ Fr (fun x => x = a) H' H2) (ev_var rfl) hgm (fun H3 e3 => ?_) (by rw [List.length_map, List.length_take]; omega) (fun v H3 ⟨_, _, fr⟩ => fr g _ hgm hga) (fun v H3 ⟨ev, r3, fr⟩ => ?_)
      · intro Q k
        refine go_meth (a, l, i + m, ls, ns[m]) (ev_var rfl) (e3 a _ hRm') (by rfl) ea_nil rfl (fun H4 e4 => ⟨⟨dx, e4 a _ (e3 a _ hRm')⟩, ex_l (e3.trans e4) hSm, hn⟩) Q fun v H4 ⟨H5, e5, ev, r5, fr5⟩ => k v H4 ⟨ev, r5, (e3.trans e5).fr.trans fr5⟩
      · subst ev
        have fr' : Fr (fun x => x = a) H (upd H3 g (.lst ((ns.take m).map V.int ++ [.int ns[m]]))) := (frm.trans fr).mut ngH
        obtain ⟨dx3, r3'⟩ := r3
        refine ⟨⟨_, rfl⟩, ⟨dx3, ?_⟩, ?_, ?_, fr'⟩
        · rw [upd_ne hga.symm]
          exact r3'
        · exact RdAt.line hR hS fr'
        · rw [upd_same, List.take_add_one, List.getElem?_eq_getElem hm', List.map_append]
          rfl
    · rintro σ' H' ⟨⟨y, rfl⟩, hRn, hSn, hgn, frn⟩
      rw [show ((ns.length : Int)).toNat = ns.length from Int.toNat_natCast _, List.take_length] at hgn
      rw [show ((ns.length : Int)).toNat = ns.length from Int.toNat_natCast _] at hRn
      refine q_forR1 (n := (xs.length : Int)) (ea_cons (ev_op (ev_var rfl) ev_c (rv_ixTn (i := 1) (ht _) rfl)) ea_nil) (by omega)
        (fun m σ' H' => (∃ y, σ' = [some (.ref a), some (.int p), some (.ref ts), some (.ref g), y]) ∧ (∃ im, RdAt T a l im H' ∧ im ≤ ls.length ∧ PyFlat.rows (xs.length - m) (ls.drop im) = some (xs.drop m, ls.drop j)) ∧ SqL K H' l (ls.map V.int) ∧
          (∃ qs, H' g = some (.lst (ns.map V.int ++ qs.map V.ref)) ∧ Rows (xs.take m) qs H H' ∧ g ∉ qs) ∧ Fr (fun x => x = a) H H') ?_ ?_ ?_
      · intro H3 e3
        refine ⟨⟨y, rfl⟩, ⟨i + ns.length, hRn.ex e3, hG.room, hG.rows⟩, ex_l e3 hSn, ⟨[], ?_, rows_nil, by simp⟩, frn.trans e3.fr⟩
        rw [List.map_nil, List.append_nil]
        exact e3 g _ hgn
      · rintro m σ' H' hm ⟨⟨y, rfl⟩, ⟨im, hRm, him, hrow⟩, hSm, ⟨qs, hgm, hqs, hgq⟩, frm⟩
        have hm' : m < xs.length := by omega
        rw [show xs.length - m = (xs.length - (m + 1)) + 1 by omega] at hrow
        obtain ⟨x, s, ys, w1, w2, w3⟩ := rows_succ hrow
        obtain ⟨n, n1, n2, n3, n4⟩ := row_drop w1
        have hx : xs[m]? = some x := by rw [← List.head?_drop, w3]; rfl
        have hys : ys = xs.drop (m + 1) := by rw [← List.drop_drop, w3]; rfl
        have hRm0 := hRm
        obtain ⟨dx, hRm'⟩ := hRm
        have hga : g ≠ a := fun z => by
          rw [z, hRm'] at hgm
          cases hgm
        have hqa : ∀ b ∈ qs, b ≠ a := fun b hb z => by
          obtain ⟨k, hk⟩ := List.mem_iff_getElem?.mp hb
          have hlt : k < (xs.take m).length := by rw [← hqs.len]; exact (List.getElem?_eq_some_iff.mp hk).1
          have := hqs.at_ k b _ hk (List.getElem?_eq_getElem hlt)
          rw [z, hRm'] at this
          cases this
        refine g_app (xs := ns.map V.int ++ qs.map V.ref) (P := fun v H2 => ∃ b, v = .ref b ∧ H' b = none ∧ H2 b = some (.lst (x.map V.int)) ∧ RdAt T a l (im + 1 + n) H2 ∧ Fr (fun x => x = a) H' H2) (ev_var rfl) hgm (fun H3 e3 => ?_) ?_ (fun v H3 ⟨_, _, _, _, _, fr⟩ => fr g _ hgm hga) (fun v H3 ⟨b, ev, nb, hb, r3, fr⟩ => ?_)
        · intro Q k
          refine go_meth (a, l, im, ls, n) (ev_var rfl) (e3 a _ hRm') (by rfl) ea_nil rfl (fun H4 e4 => ⟨⟨dx, e4 a _ (e3 a _ hRm')⟩, ex_l (e3.trans e4) hSm, n1, n2⟩) Q fun v H4 ⟨H5, e5, b, ev, nb, hb, r5, fr5⟩ => k v H4 ⟨b, ev, fresh_back (e3.trans e5) nb, by rw [n3]; exact hb, r5, (e3.trans e5).fr.trans fr5⟩
        · rw [List.length_append, List.length_map, List.length_map, hqs.len, List.length_take]
          omega
        · subst ev
          have hbg : b ≠ g := fun z => by
            rw [z, hgm] at nb
            cases nb
          have hba : b ≠ a := fun z => by
            rw [z, hRm'] at nb
            cases nb
          have fr' : Fr (fun x => x = a) H (upd H3 g (.lst ((ns.map V.int ++ qs.map V.ref) ++ [.ref b]))) := (frm.trans fr).mut ngH
          obtain ⟨dx3, r3'⟩ := r3
          have hqb : ∀ c ∈ qs, H' c ≠ none := fun c hc z => by
            obtain ⟨k, hk⟩ := List.mem_iff_getElem?.mp hc
            have hlt : k < (xs.take m).length := by rw [← hqs.len]; exact (List.getElem?_eq_some_iff.mp hk).1
            have := hqs.at_ k c _ hk (List.getElem?_eq_getElem hlt)
            rw [z] at this
            cases this
          refine ⟨⟨_, rfl⟩, ⟨im + 1 + n, ⟨dx3, ?_⟩, n2, ?_⟩, ?_, ⟨qs ++ [b], ?_, ?_, ?_⟩, fr'⟩
          · rw [upd_ne hga.symm]
            exact r3'
          · rw [← hys, ← n4]
            exact w2
          · exact RdAt.line hR hS fr'
          · rw [upd_same, List.map_append, List.append_assoc]
            rfl
          · rw [List.take_add_one, hx]
            refine hqs.snoc (frm.fresh nb hba) (fun c hc z => hqb c hc (by rw [z]; exact nb)) ?_ (fun c hc o ho => ?_)
            · rw [upd_ne hbg]
              exact hb
            · rw [upd_ne (fun z => hgq (by rw [← z]; exact hc))]
              exact fr c o ho (hqa c hc)
          · rw [List.mem_append]
            rintro (z | z)
            · exact hgq z
            · exact hbg (List.mem_singleton.mp z).symm
      · rintro σ' H' ⟨⟨y, rfl⟩, ⟨im, hRm, him, hrow⟩, hSm, ⟨qs, hgm, hqs, hgq⟩, frm⟩
        rw [show ((xs.length : Int)).toNat = xs.length from Int.toNat_natCast _] at hrow hqs
        rw [Nat.sub_self, List.drop_length] at hrow
        rw [List.take_length] at hqs
        have ej := (rows_zero hrow).2
        have hij : im = j := by
          have h1 := congrArg List.length ej
          rw [List.length_drop, List.length_drop] at h1
          have := hG.le
          omega
        rw [hij] at hRm
        exact s_ret (ev_var rfl) fun H3 e3 => q _ H3 ⟨g, qs, rfl, ngH, e3 g _ hgm, hqs.move (fun b _ o ho => e3 b o ho), hgq, hRm.ex e3, frm.trans e3.fr⟩
end
end Tbl
set_option Elab.async false
set_option linter.all false
set_option maxRecDepth 100000
set_option maxHeartbeats 2000000
namespace Tbl
open PySem PySem.Spec PyProof.Rows L2 Evl
section
variable {P : Program} {w : World} {K : PySem.W.Frag} {mg : Str → Option Value} {base : Heap}
def sp_put_food (T : Txt K mg) : Sp := spDo T 2
theorem ok_put_food (T : Txt K mg) : FnOk P w K mg base CX0 2 T.a_put_food T.fd_put_food P_put_food (sp_put_food T) := by
  refine T.F_put_food.ok sc_put_food (fun vs H Q E h => ?_) (fun cdv A outer s H vs Q E hr h => ⟨_, (pss_cons (ps_set (i := 2) sc_put_food.nd rfl (.inl rfl) (pe_ix ix_list (pv 1) pe_int (fun _ _ => rfl)))
      (pss_cons (ps_set (i := 3) sc_put_food.nd rfl (.inl rfl) (pe_ix ix_list (pv 1) pe_int (fun _ _ => rfl)))
      (pss_cons (ps_if (pt_not (pt_val (pe_call (ok_is_there T) (hr.mono (by decide)) (by rfl) T.g_is_there T.F_is_there.kp T.b_is_there .nil pass0 (pa_cons (pv 2) (pa_cons (pe_callB call_len_seq (by rfl) T.n_len PySem.boot_len (pa_cons (pe_fld (pv 0) rfl) pa_nil)) pa_nil)))))
      (pss_one (ps_ret (pe_lst (pa_cons (pe_un un_neg pe_int) pa_nil))))
      pss_nil)
      (pss_cons (ps_if (pt_not (pt_val (pe_call (ok_is_amount T) (hr.mono (by decide)) (by rfl) T.g_is_amount T.F_is_amount.kp T.b_is_amount .nil pass0 (pa_cons (pv 3) pa_nil))))
      (pss_one (ps_ret (pe_lst (pa_cons (pe_un un_neg pe_int) pa_nil))))
      pss_nil)
      (pss_cons (ps_asg (pv 3) (pg_sub (pe_fld (pv 0) rfl) (pv 2) set_list))
      (pss_one (ps_ret (pe_lst (pa_cons pe_int pa_nil))))))))), ?_⟩)
  · obtain ⟨d, rfl, _⟩ := h
    rfl
  · obtain ⟨⟨s, g, S, t, ns, xs, qs⟩, rfl, hp, q⟩ := h
    dsimp only at hp q
    obtain ⟨hS, wf, gv, hlen, hnd, hrows, hout, hsh, hsm⟩ := hp
    have e1 : (2, 0) = (ns.length, xs.length) := Option.some.inj hsh
    obtain ⟨c, u, rfl⟩ : ∃ c u, ns = [c, u] := by
      match ns, congrArg Prod.fst e1 with
      | [c, u], _ => exact ⟨c, u, rfl⟩
    obtain rfl : xs = [] := List.eq_nil_of_length_eq_zero (congrArg Prod.snd e1).symm
    obtain ⟨dx, f, ap, r, rs, hA, s1, s2, s3, s4, s5⟩ := id hS
    refine q_asg (ev_op (ev_var rfl) ev_c (rv_ixLn (i := 0) (sq_of gv) rfl)) fun H1 x1 => ?_
    refine q_asg (ev_op (ev_var rfl) ev_c (rv_ixLn (i := 1) (sq_of (x1 _ _ gv)) rfl)) fun H2 x2 => ?_
    have y2 := x1.trans x2
    refine q_when (b := !thereB c t.food.length) (et_not (et_B (ev_pv (c, (t.food.length : Int)) (ea_cons (ev_var rfl) (ea_cons (ev_lenM (ev_fld (ev_var rfl) (hA.ex y2).ob T.c_State T.n_State_food stF_food) (sq_of (hA.ex y2).fo)) ea_nil)) fun _ _ => trivial))) (fun hb H3 x3 => ?_) (fun hb H3 x3 => ?_)
    · refine s_retL (el_lst (ea_cons (ev_neg ev_c) ea_nil) (by decide)) fun b H4 nb x4 h4 => q _ _ (do_same (l := [-3]) hS ((y2.trans x3).trans x4) (fresh_back (y2.trans x3) nb) h4 ?_)
      rw [step_food, if_pos (not_t hb)]
    have y3 := y2.trans x3
    have h0 : thereB c t.food.length = true := not_f hb
    refine q_when (b := !amountOk u) (et_not (et_B (ev_pv u (ea_cons (ev_var rfl) ea_nil) fun _ _ => trivial))) (fun hb2 H4 x4 => ?_) (fun hb2 H4 x4 => ?_)
    · refine s_retL (el_lst (ea_cons (ev_neg ev_c) ea_nil) (by decide)) fun b H5 nb x5 h5 => q _ _ (do_same (l := [-4]) hS ((y3.trans x4).trans x5) (fresh_back (y3.trans x4) nb) h5 ?_)
      rw [step_food, if_neg (by rw [h0]; decide), if_pos (not_t hb2)]
    have y4 := y3.trans x4
    have h1 : amountOk u = true := not_f hb2
    have c1 := there_iff.mp h0
    have u1 := amount_iff.mp h1
    refine q_setL (j := c.toNat) (hA.ex y4).fo (ev_var rfl) (ev_fld (ev_var rfl) (hA.ex y4).ob T.c_State T.n_State_food stF_food) (ev_is (ev_var rfl) (by rw [Int.toNat_of_nonneg c1.1])) (by rw [List.length_map]; exact c1.2) fun H5 x5 => ?_
    refine s_retL (el_lst (ea_cons ev_c ea_nil) (by decide)) fun b H6 nb x6 h6 => ?_
    have y5 := y4.trans x5
    have fr5 : Fr S H (upd H5 f (.lst ((t.food.map enN).set c.toNat (.int u)))) := y5.fr.trans (fr_upd s2)
    have hz : Vbecaf.step ⟨t⟩ [[2, c, u]] = (Vbecaf.put { food := t.food.set c.toNat u.toNat, appetites := t.appetites, reach := t.reach }, [0]) := by
      rw [step_food, if_neg (by rw [h0]; decide), if_neg (by rw [h1]; decide)]
    have nbf : b ≠ f := fun z => by
      rw [z, upd_same] at nb
      cases nb
    refine q _ _ ⟨b, rfl, ?_, ?_, ?_, fr5.trans x6.fr⟩
    · cases hh : H b with
      | none => rfl
      | some o =>
        rw [upd_ne nbf] at nb
        rw [y5 b o hh] at nb
        cases nb
    · rw [hz]
      exact h6
    · rw [hz]
      have hA5 := hA.ex y5
      have e2 : (upd H5 f (.lst ((t.food.map enN).set c.toNat (.int u)))) f = some (.lst ((t.food.set c.toNat u.toNat).map enN)) := by
        rw [upd_same, List.map_set]
        congr 3
        show V.int u = V.int (u.toNat : Int)
        rw [Int.toNat_of_nonneg u1.1]
      refine ⟨dx, f, ap, r, rs, ⟨x6 _ _ ?_, x6 _ _ e2, x6 _ _ ?_, x6 _ _ ?_, hA.len, fun i b x h1 h2 => x6 _ _ ?_, hA.nfa, hA.nfr, hA.nar, hA.nqf, hA.nqa, hA.nqr⟩, .inl s1, .inl s2, .inl s3, .inl s4, fun b hb => .inl (s5 b hb)⟩
      · rw [upd_ne (ne_of hA.ob hA.fo (by intro z; cases z))]
        exact hA5.ob
      · rw [upd_ne hA.nfa.symm]
        exact hA5.app
      · rw [upd_ne hA.nfr.symm]
        exact hA5.re
      · rw [upd_ne (fun z => hA.nqf (by rw [← z]; exact List.mem_of_getElem? h1))]
        exact hA5.rows i b x h1 h2
def sp_put_appetite (T : Txt K mg) : Sp := spDo T 3
theorem ok_put_appetite (T : Txt K mg) : FnOk P w K mg base CX0 2 T.a_put_appetite T.fd_put_appetite P_put_appetite (sp_put_appetite T) := by
  refine T.F_put_appetite.ok sc_put_appetite (fun vs H Q E h => ?_) (fun cdv A outer s H vs Q E hr h => ⟨_, (pss_cons (ps_set (i := 2) sc_put_appetite.nd rfl (.inl rfl) (pe_ix ix_list (pv 1) pe_int (fun _ _ => rfl)))
      (pss_cons (ps_set (i := 3) sc_put_appetite.nd rfl (.inl rfl) (pe_ix ix_list (pv 1) pe_int (fun _ _ => rfl)))
      (pss_cons (ps_if (pt_not (pt_val (pe_call (ok_is_there T) (hr.mono (by decide)) (by rfl) T.g_is_there T.F_is_there.kp T.b_is_there .nil pass0 (pa_cons (pv 2) (pa_cons (pe_callB call_len_seq (by rfl) T.n_len PySem.boot_len (pa_cons (pe_fld (pv 0) rfl) pa_nil)) pa_nil)))))
      (pss_one (ps_ret (pe_lst (pa_cons (pe_un un_neg pe_int) pa_nil))))
      pss_nil)
      (pss_cons (ps_if (pt_not (pt_val (pe_call (ok_is_amount T) (hr.mono (by decide)) (by rfl) T.g_is_amount T.F_is_amount.kp T.b_is_amount .nil pass0 (pa_cons (pv 3) pa_nil))))
      (pss_one (ps_ret (pe_lst (pa_cons (pe_un un_neg pe_int) pa_nil))))
      pss_nil)
      (pss_cons (ps_asg (pv 3) (pg_sub (pe_fld (pv 0) rfl) (pv 2) set_list))
      (pss_one (ps_ret (pe_lst (pa_cons pe_int pa_nil))))))))), ?_⟩)
  · obtain ⟨d, rfl, _⟩ := h
    rfl
  · obtain ⟨⟨s, g, S, t, ns, xs, qs⟩, rfl, hp, q⟩ := h
    dsimp only at hp q
    obtain ⟨hS, wf, gv, hlen, hnd, hrows, hout, hsh, hsm⟩ := hp
    have e1 : (2, 0) = (ns.length, xs.length) := Option.some.inj hsh
    obtain ⟨c, u, rfl⟩ : ∃ c u, ns = [c, u] := by
      match ns, congrArg Prod.fst e1 with
      | [c, u], _ => exact ⟨c, u, rfl⟩
    obtain rfl : xs = [] := List.eq_nil_of_length_eq_zero (congrArg Prod.snd e1).symm
    obtain ⟨dx, f, ap, r, rs, hA, s1, s2, s3, s4, s5⟩ := id hS
    refine q_asg (ev_op (ev_var rfl) ev_c (rv_ixLn (i := 0) (sq_of gv) rfl)) fun H1 x1 => ?_
    refine q_asg (ev_op (ev_var rfl) ev_c (rv_ixLn (i := 1) (sq_of (x1 _ _ gv)) rfl)) fun H2 x2 => ?_
    have y2 := x1.trans x2
    refine q_when (b := !thereB c (Vbecaf.mouths t)) (et_not (et_B (ev_pv (c, (t.appetites.length : Int)) (ea_cons (ev_var rfl) (ea_cons (ev_lenM (ev_fld (ev_var rfl) (hA.ex y2).ob T.c_State T.n_State_appetites stF_app) (sq_of (hA.ex y2).app)) ea_nil)) fun _ _ => trivial))) (fun hb H3 x3 => ?_) (fun hb H3 x3 => ?_)
    · refine s_retL (el_lst (ea_cons (ev_neg ev_c) ea_nil) (by decide)) fun b H4 nb x4 h4 => q _ _ (do_same (l := [-2]) hS ((y2.trans x3).trans x4) (fresh_back (y2.trans x3) nb) h4 ?_)
      rw [step_appetite, if_pos (not_t hb)]
    have y3 := y2.trans x3
    have h0 : thereB c (Vbecaf.mouths t) = true := not_f hb
    refine q_when (b := !amountOk u) (et_not (et_B (ev_pv u (ea_cons (ev_var rfl) ea_nil) fun _ _ => trivial))) (fun hb2 H4 x4 => ?_) (fun hb2 H4 x4 => ?_)
    · refine s_retL (el_lst (ea_cons (ev_neg ev_c) ea_nil) (by decide)) fun b H5 nb x5 h5 => q _ _ (do_same (l := [-4]) hS ((y3.trans x4).trans x5) (fresh_back (y3.trans x4) nb) h5 ?_)
      rw [step_appetite, if_neg (by rw [h0]; decide), if_pos (not_t hb2)]
    have y4 := y3.trans x4
    have h1 : amountOk u = true := not_f hb2
    have c1 := there_iff.mp h0
    have u1 := amount_iff.mp h1
    refine q_setL (j := c.toNat) (hA.ex y4).app (ev_var rfl) (ev_fld (ev_var rfl) (hA.ex y4).ob T.c_State T.n_State_appetites stF_app) (ev_is (ev_var rfl) (by rw [Int.toNat_of_nonneg c1.1])) (by rw [List.length_map]; exact c1.2) fun H5 x5 => ?_
    refine s_retL (el_lst (ea_cons ev_c ea_nil) (by decide)) fun b H6 nb x6 h6 => ?_
    have y5 := y4.trans x5
    have fr5 : Fr S H (upd H5 ap (.lst ((t.appetites.map enN).set c.toNat (.int u)))) := y5.fr.trans (fr_upd s3)
    have hz : Vbecaf.step ⟨t⟩ [[3, c, u]] = (Vbecaf.put { food := t.food, appetites := t.appetites.set c.toNat u.toNat, reach := t.reach }, [0]) := by
      rw [step_appetite, if_neg (by rw [h0]; decide), if_neg (by rw [h1]; decide)]
    have nbf : b ≠ ap := fun z => by
      rw [z, upd_same] at nb
      cases nb
    refine q _ _ ⟨b, rfl, ?_, ?_, ?_, fr5.trans x6.fr⟩
    · cases hh : H b with
      | none => rfl
      | some o =>
        rw [upd_ne nbf] at nb
        rw [y5 b o hh] at nb
        cases nb
    · rw [hz]
      exact h6
    · rw [hz]
      have hA5 := hA.ex y5
      have e2 : (upd H5 ap (.lst ((t.appetites.map enN).set c.toNat (.int u)))) ap = some (.lst ((t.appetites.set c.toNat u.toNat).map enN)) := by
        rw [upd_same, List.map_set]
        congr 3
        show V.int u = V.int (u.toNat : Int)
        rw [Int.toNat_of_nonneg u1.1]
      refine ⟨dx, f, ap, r, rs, ⟨x6 _ _ ?_, x6 _ _ ?_, x6 _ _ e2, x6 _ _ ?_, hA.len, fun i b x h1 h2 => x6 _ _ ?_, hA.nfa, hA.nfr, hA.nar, hA.nqf, hA.nqa, hA.nqr⟩, .inl s1, .inl s2, .inl s3, .inl s4, fun b hb => .inl (s5 b hb)⟩
      · rw [upd_ne (ne_of hA.ob hA.app (by intro z; cases z))]
        exact hA5.ob
      · rw [upd_ne hA.nfa]
        exact hA5.fo
      · rw [upd_ne hA.nar.symm]
        exact hA5.re
      · rw [upd_ne (fun z => hA.nqa (by rw [← z]; exact List.mem_of_getElem? h1))]
        exact hA5.rows i b x h1 h2
def sp_put_reach (T : Txt K mg) : Sp := spDo T 1
theorem ok_put_reach (T : Txt K mg) : FnOk P w K mg base CX0 3 T.a_put_reach T.fd_put_reach P_put_reach (sp_put_reach T) := by
  refine T.F_put_reach.ok sc_put_reach (fun vs H Q E h => ?_) (fun cdv A outer s H vs Q E hr h => ⟨_, (pss_cons (ps_set (i := 2) sc_put_reach.nd rfl (.inl rfl) (pe_ix ix_list (pv 1) pe_int (fun _ _ => rfl)))
      (pss_cons (ps_set (i := 3) sc_put_reach.nd rfl (.inl rfl) (pe_ix ix_list (pv 1) pe_int (fun _ _ => rfl)))
      (pss_cons (ps_if (pt_not (pt_val (pe_call (ok_is_there T) (hr.mono (by decide)) (by rfl) T.g_is_there T.F_is_there.kp T.b_is_there .nil pass0 (pa_cons (pv 2) (pa_cons (pe_callB call_len_seq (by rfl) T.n_len PySem.boot_len (pa_cons (pe_fld (pv 0) rfl) pa_nil)) pa_nil)))))
      (pss_one (ps_ret (pe_lst (pa_cons (pe_un un_neg pe_int) pa_nil))))
      pss_nil)
      (pss_cons (ps_if (pt_not (pt_val (pe_call (ok_is_choice T) (hr.mono (by decide)) (by rfl) T.g_is_choice T.F_is_choice.kp T.b_is_choice .nil pass0 (pa_cons (pv 3) (pa_cons (pe_callB call_len_seq (by rfl) T.n_len PySem.boot_len (pa_cons (pe_fld (pv 0) rfl) pa_nil)) pa_nil)))))
      (pss_one (ps_ret (pe_lst (pa_cons (pe_un un_neg pe_int) pa_nil))))
      pss_nil)
      (pss_cons (ps_asg (pv 3) (pg_sub (pe_fld (pv 0) rfl) (pv 2) set_list))
      (pss_one (ps_ret (pe_lst (pa_cons pe_int pa_nil))))))))), ?_⟩)
  · obtain ⟨d, rfl, _⟩ := h
    rfl
  · obtain ⟨⟨s, g, S, t, ns, xs, qs⟩, rfl, hp, q⟩ := h
    dsimp only at hp q
    obtain ⟨hS, wf, gv, hlen, hnd, hrows, hout, hsh, hsm⟩ := hp
    have e1 : (1, 1) = (ns.length, xs.length) := Option.some.inj hsh
    obtain ⟨c, rfl⟩ : ∃ c, ns = [c] := by
      match ns, congrArg Prod.fst e1 with
      | [c], _ => exact ⟨c, rfl⟩
    obtain ⟨l, rfl⟩ : ∃ l, xs = [l] := by
      match xs, congrArg Prod.snd e1 with
      | [l], _ => exact ⟨l, rfl⟩
    obtain ⟨ql, rfl⟩ : ∃ b, qs = [b] := by
      match qs, hlen with
      | [b], _ => exact ⟨b, rfl⟩
    have hl := hrows 0 ql l rfl rfl
    have hl100 := hsm l (by simp)
    obtain ⟨dx, f, ap, r, rs, hA, s1, s2, s3, s4, s5⟩ := id hS
    refine q_asg (ev_op (ev_var rfl) ev_c (rv_ixLn (i := 0) (sq_of gv) rfl)) fun H1 x1 => ?_
    refine q_asg (ev_op (ev_var rfl) ev_c (rv_ixLn (i := 1) (sq_of (x1 _ _ gv)) rfl)) fun H2 x2 => ?_
    have y2 := x1.trans x2
    refine q_when (b := !thereB c (Vbecaf.mouths t)) (et_not (et_B (ev_pv (c, (t.appetites.length : Int)) (ea_cons (ev_var rfl) (ea_cons (ev_lenM (ev_fld (ev_var rfl) (hA.ex y2).ob T.c_State T.n_State_appetites stF_app) (sq_of (hA.ex y2).app)) ea_nil)) fun _ _ => trivial))) (fun hb H3 x3 => ?_) (fun hb H3 x3 => ?_)
    · refine s_retL (el_lst (ea_cons (ev_neg ev_c) ea_nil) (by decide)) fun b H4 nb x4 h4 => q _ _ (do_same (l := [-2]) hS ((y2.trans x3).trans x4) (fresh_back (y2.trans x3) nb) h4 ?_)
      rw [step_reach, if_pos (not_t hb)]
    have y3 := y2.trans x3
    have h0 : thereB c (Vbecaf.mouths t) = true := not_f hb
    refine q_when (b := !(Vbecaf.rising l && inAll l (t.food.length : Int))) (et_not (et_B (ev_pv (ql, l, (t.food.length : Int)) (ea_cons (ev_var rfl) (ea_cons (ev_lenM (ev_fld (ev_var rfl) (hA.ex y3).ob T.c_State T.n_State_food stF_food) (sq_of (hA.ex y3).fo)) ea_nil)) fun H1 e1 => ⟨sq_of (e1 _ _ (y3 _ _ hl)), by dsimp only; omega⟩))) (fun hb2 H4 x4 => ?_) (fun hb2 H4 x4 => ?_)
    · refine s_retL (el_lst (ea_cons (ev_neg ev_c) ea_nil) (by decide)) fun b H5 nb x5 h5 => q _ _ (do_same (l := [-3]) hS ((y3.trans x4).trans x5) (fresh_back (y3.trans x4) nb) h5 ?_)
      rw [step_reach, if_neg (by rw [h0]; decide), if_pos (not_t hb2)]
    have y4 := y3.trans x4
    have h1 : (Vbecaf.rising l && inAll l (t.food.length : Int)) = true := not_f hb2
    have c1 := there_iff.mp h0
    have u1 := told_up h1
    have hcr : c.toNat < rs.length := by
      rw [hA.len, wf.rl]
      exact c1.2
    refine q_setL (j := c.toNat) (hA.ex y4).re (ev_var rfl) (ev_fld (ev_var rfl) (hA.ex y4).ob T.c_State T.n_State_reaches stF_re) (ev_is (ev_var rfl) (by rw [Int.toNat_of_nonneg c1.1])) (by rw [List.length_map]; exact hcr) fun H5 x5 => ?_
    refine s_retL (el_lst (ea_cons ev_c ea_nil) (by decide)) fun b H6 nb x6 h6 => ?_
    have y5 := y4.trans x5
    have fr5 : Fr S H (upd H5 r (.lst ((rs.map V.ref).set c.toNat (.ref ql)))) := y5.fr.trans (fr_upd s4)
    have hz : Vbecaf.step ⟨t⟩ [[1, c], l] = (Vbecaf.put { food := t.food, appetites := t.appetites, reach := t.reach.set c.toNat (l.map Int.toNat) }, [0]) := by
      rw [step_reach, if_neg (by rw [h0]; decide), if_neg (by rw [h1]; decide)]
    have nbf : b ≠ r := fun z => by
      rw [z, upd_same] at nb
      cases nb
    have nql : ¬ S ql := hout ql (by simp)
    refine q _ _ ⟨b, rfl, ?_, ?_, ?_, fr5.trans x6.fr⟩
    · cases hh : H b with
      | none => rfl
      | some o =>
        rw [upd_ne nbf] at nb
        rw [y5 b o hh] at nb
        cases nb
    · rw [hz]
      exact h6
    · rw [hz]
      have hA5 := hA.ex y5
      have nqr : ∀ x, x ∈ rs.set c.toNat ql → x ∈ rs ∨ x = ql := fun x hx => mem_set hx
      refine ⟨dx, f, ap, r, rs.set c.toNat ql, ⟨x6 _ _ ?_, x6 _ _ ?_, x6 _ _ ?_, x6 _ _ ?_, ?_, fun i b x h1 h2 => x6 _ _ ?_, hA.nfa, hA.nfr, hA.nar, ?_, ?_, ?_⟩, .inl s1, .inl s2, .inl s3, .inl s4, fun b hb => ?_⟩
      · rw [upd_ne (ne_of hA.ob hA.re (by intro z; cases z))]
        exact hA5.ob
      · rw [upd_ne hA.nfr]
        exact hA5.fo
      · rw [upd_ne hA.nar]
        exact hA5.app
      · rw [upd_same, List.map_set]
      · rw [List.length_set]
        show rs.length = (t.reach.set c.toNat (l.map Int.toNat)).length
        rw [List.length_set]
        exact hA.len
      · have hbr : b ≠ r := fun z => by
          rcases nqr b (List.mem_of_getElem? h1) with k | k
          · exact hA.nqr (by rw [← z]; exact k)
          · exact nql (by rw [← k, z]; exact s4)
        rw [upd_ne hbr]
        rw [List.getElem?_set] at h1
        have h2' : (t.reach.set c.toNat (l.map Int.toNat))[i]? = some x := h2
        rw [List.getElem?_set] at h2'
        by_cases ci : c.toNat = i
        · rw [if_pos ci, if_pos hcr] at h1
          rw [if_pos ci, if_pos (by rw [← hA.len]; exact hcr)] at h2'
          cases h1
          cases h2'
          rw [enN_map u1.2.2]
          exact y5 _ _ hl
        · rw [if_neg ci] at h1 h2'
          exact hA5.rows i b x h1 h2'
      · intro z
        rcases nqr _ z with k | k
        · exact hA.nqf k
        · exact nql (by rw [← k]; exact s2)
      · intro z
        rcases nqr _ z with k | k
        · exact hA.nqa k
        · exact nql (by rw [← k]; exact s3)
      · intro z
        rcases nqr _ z with k | k
        · exact hA.nqr k
        · exact nql (by rw [← k]; exact s4)
      · rcases nqr b hb with k | k
        · exact .inl (s5 b k)
        · exact .inr (.inl (by rw [k]; simp))
end
end Tbl
set_option Elab.async false
set_option linter.all false
set_option maxRecDepth 100000
set_option maxHeartbeats 2000000
namespace Tbl
open PySem PySem.Spec PyProof.Rows L2 Evl
section
variable {P : Program} {w : World} {K : PySem.W.Frag} {mg : Str → Option Value} {base : Heap}
def sp_lay_table (T : Txt K mg) : Sp := spDo T 0
theorem ok_lay_table (T : Txt K mg) : FnOk P w K mg base CX0 3 T.a_lay_table T.fd_lay_table P_lay_table (sp_lay_table T) := by
  refine T.F_lay_table.ok sc_lay_table (fun vs H Q E h => ?_) (fun cdv A outer s H vs Q E hr h => ⟨_, (pss_cons (ps_set (i := 2) sc_lay_table.nd rfl (.inl rfl) (pe_ix ix_list (pv 1) pe_int (fun _ _ => rfl)))
      (pss_cons (ps_set (i := 3) sc_lay_table.nd rfl (.inl rfl) (pe_ix ix_list (pv 1) pe_int (fun _ _ => rfl)))
      (pss_cons (ps_if (PW.pt (pw_or (pt_not (pt_val (pe_call (ok_is_amount_row T) (hr.mono (by decide)) (by rfl) T.g_is_amount_row T.F_is_amount_row.kp T.b_is_amount_row .nil pass0 (pa_cons (pv 2) pa_nil)))) (pw_or1 (pt_not (pt_val (pe_call (ok_is_amount_row T) (hr.mono (by decide)) (by rfl) T.g_is_amount_row T.F_is_amount_row.kp T.b_is_amount_row .nil pass0 (pa_cons (pv 3) pa_nil)))))))
      (pss_one (ps_ret (pe_lst (pa_cons (pe_un un_neg pe_int) pa_nil))))
      pss_nil)
      (pss_cons (ps_fld (pv 0) (pv 2) rfl)
      (pss_cons (ps_fld (pv 0) (pv 3) rfl)
      (pss_cons (ps_fld (pv 0) (pe_lc (own := [("mouth", 4)]) (g := gName 4) (tt := tYes) rfl sc_lay_table.nd (pi_list (pv 3)) (blkOk_by (own := [("mouth", 4)]) (N := N_lay_table) (sc := defScope s_lay_table) (by decide +kernel)) (fun _ _ _ _ _ => (pg_name (i := 4) sc_lay_table.nd rfl (.inl rfl))) (fun _ _ _ _ _ => pts_nil) (fun _ _ _ _ _ => (pe_lst pa_nil))) rfl)
      (pss_one (ps_ret (pe_lst (pa_cons pe_int pa_nil)))))))))), ?_⟩)
  · obtain ⟨d, rfl, _⟩ := h
    rfl
  · obtain ⟨⟨s, g, S, t, ns, xs, qs⟩, rfl, hp, q⟩ := h
    dsimp only at hp q
    obtain ⟨hS, wf, gv, hlen, hnd, hrows, hout, hsh, hsm⟩ := hp
    have e1 : (0, 2) = (ns.length, xs.length) := Option.some.inj hsh
    obtain rfl : ns = [] := List.eq_nil_of_length_eq_zero (congrArg Prod.fst e1).symm
    obtain ⟨fl, al, rfl⟩ : ∃ a b, xs = [a, b] := by
      match xs, congrArg Prod.snd e1 with
      | [a, b], _ => exact ⟨a, b, rfl⟩
    obtain ⟨qf, qa, rfl⟩ : ∃ a b, qs = [a, b] := by
      match qs, hlen with
      | [a, b], _ => exact ⟨a, b, rfl⟩
    have hf := hrows 0 qf fl rfl rfl
    have ha := hrows 1 qa al rfl rfl
    have hf100 := hsm fl (by simp)
    have ha100 := hsm al (by simp)
    obtain ⟨dx, f, ap, r, rs, hA, s1, s2, s3, s4, s5⟩ := id hS
    refine q_asg (ev_op (ev_var rfl) ev_c (rv_ixLn (i := 0) (sq_of gv) rfl)) fun H1 x1 => ?_
    refine q_asg (ev_op (ev_var rfl) ev_c (rv_ixLn (i := 1) (sq_of (x1 _ _ gv)) rfl)) fun H2 x2 => ?_
    have y2 := x1.trans x2
    refine q_when (b := !amountRow fl || !amountRow al) (et_or (et_not (et_B (ev_pv (qf, fl) (ea_cons (ev_var rfl) ea_nil) fun H1 e1 => ⟨sq_of (e1 _ _ (y2 _ _ hf)), by dsimp only; omega⟩))) fun _ => et_not (et_B (ev_pv (qa, al) (ea_cons (ev_var rfl) ea_nil) fun H1 e1 => ⟨sq_of (e1 _ _ (y2 _ _ ha)), by dsimp only; omega⟩))) (fun hb H3 x3 => ?_) (fun hb H3 x3 => ?_)
    · refine s_retL (el_lst (ea_cons (ev_neg ev_c) ea_nil) (by decide)) fun b H4 nb x4 h4 => q _ _ (do_same (l := [-1]) hS ((y2.trans x3).trans x4) (fresh_back (y2.trans x3) nb) h4 (step_table_no ?_))
      rintro ⟨h1, h2⟩
      rw [h1, h2] at hb
      cases hb
    have y3 := y2.trans x3
    have hb2 : amountRow fl = true ∧ amountRow al = true := by
      rw [Bool.or_eq_false_iff] at hb
      exact ⟨not_f hb.1, not_f hb.2⟩
    have wf' := table_wf hb2
    have hz := step_table_yes (t := t) hb2
    refine q_fld (ev_var rfl) (ev_var rfl) (y3 _ _ hA.ob) T.c_State T.n_State_food (by show 3 < 1000; decide) fun H4 x4 => ?_
    have y4 := y3.trans x4
    rw [stF_pf]
    refine q_fld (ev_var rfl) (ev_var rfl) upd_same T.c_State T.n_State_appetites (by show 3 < 1000; decide) fun H5 x5 => ?_
    rw [stF_pa]
    have f5 : Fr (fun x => x = s) H H5 := (y4.fr.trans fr_one).trans x5.fr
    have hga : qa ≠ s := fun z => hout qa (by simp) (by rw [z]; exact s1)
    have hgf : qf ≠ s := fun z => hout qf (by simp) (by rw [z]; exact s1)
    have hgo : g ≠ s := ne_of gv hA.ob (by intro z; cases z)
    refine q_fldR (er_lcAll (l := al) (en := V.int) (fun _ => []) (ev_var rfl) (sq_of (a := qa) ?_) (by omega) (fun _ => rfl) fun x H6 e6 _ => el_lst ea_nil (by decide)) (ev_var rfl) upd_same T.c_State T.n_State_reaches (by show 3 < 1000; decide) fun p vs H6 np x6 h6 hrows6 => ?_
    · rw [upd_ne hga]
      exact f5 _ _ ha hga
    rw [stF_pr]
    obtain ⟨ps, e7, l7, n7, r7⟩ := nrow_refs hrows6
    rw [List.length_map] at l7
    refine s_retL (el_lst (ea_cons ev_c ea_nil) (by decide)) fun b H8 nb x8 h8 => ?_
    have f6 : Fr (fun x => x = s) H (upd H6 s (.ins T.C_State dx (stF qf qa p))) := ((f5.trans fr_one).trans x6.fr).trans fr_one
    have f8 := f6.trans x8.fr
    have nb' : H b = none := f6.fresh nb (fun z => by
      rw [z, upd_same] at nb
      cases nb)
    have np' : H p = none := (f5.trans fr_one).fresh np (fun z => by
      rw [z, upd_same] at np
      cases np)
    have fresh5 : ∀ c, (upd H5 s (.ins T.C_State dx (stF qf qa r))) c = none → H c = none := fun c hc => (f5.trans fr_one).fresh hc (fun z => by
      rw [z, upd_same] at hc
      cases hc)
    refine q _ _ ⟨b, rfl, nb', ?_, ?_, f8.mono fun z h => by rw [h]; exact s1⟩
    · rw [hz]
      exact h8
    · rw [hz]
      have hp5 : p ≠ s := ne_of_none_rev np upd_same
      refine ⟨dx, qf, qa, p, ps, ⟨x8 _ _ upd_same, ?_, ?_, x8 _ _ ?_, ?_, ?_, ?_, ?_, ?_, ?_, ?_, ?_⟩, .inl s1, .inr (.inl (by simp)), .inr (.inl (by simp)), .inr (.inr np'), fun c hc => .inr (.inr (fresh5 c (n7 c hc).2))⟩
      · show H8 qf = some (.lst ((fl.map Int.toNat).map enN))
        rw [enN_map (fun x hx => ((row_all hb2.1).2 x hx).1)]
        exact f8 _ _ hf hgf
      · show H8 qa = some (.lst ((al.map Int.toNat).map enN))
        rw [enN_map (fun x hx => ((row_all hb2.2).2 x hx).1)]
        exact f8 _ _ ha hga
      · rw [upd_ne hp5, h6, e7]
      · show ps.length = (List.replicate al.length []).length
        rw [l7, List.length_replicate]
      · intro i c x h1 h2
        have h2' : (List.replicate al.length ([] : List Nat))[i]? = some x := h2
        have hi : i < al.length := by rw [← l7]; exact (List.getElem?_eq_some_iff.mp h1).1
        rw [List.getElem?_replicate, if_pos hi] at h2'
        cases h2'
        have hc := n7 c (List.mem_of_getElem? h1)
        have hcs : c ≠ s := ne_of_none_rev hc.2 upd_same
        refine x8 _ _ ?_
        rw [upd_ne hcs]
        exact r7 i c [] h1 (by rw [List.getElem?_map, List.getElem?_eq_getElem hi]; rfl)
      · exact fun z => (List.nodup_cons.mp hnd).1 (by rw [z]; simp)
      · exact ne_of_none hf np'
      · exact ne_of_none ha np'
      · exact fun z => ne_of_none hf (fresh5 _ (n7 _ z).2) rfl
      · exact fun z => ne_of_none ha (fresh5 _ (n7 _ z).2) rfl
      · exact fun z => (n7 _ z).1 rfl
def sp_State___init__ (T : Txt K mg) : Sp := PH (fun d : Addr × Addr => [.ref d.1]) (fun d H => H d.1 = some (.ins T.C_State d.2 [])) fun d H v H' => v = .non ∧ StAt T Vbecaf.start.table d.1 (fun a => a = d.1 ∨ H a = none) H' ∧ Fr (· = d.1) H H'
theorem ok_State___init__ (T : Txt K mg) : FnOk P w K mg base CX0 1 T.a_State___init__ T.fd_State___init__ P_State___init__ (sp_State___init__ T) := by
  refine T.F_State___init__.ok sc_State___init__ (fun vs H Q E h => ?_) (fun cdv A outer s H vs Q E hr h => ⟨_, (pss_cons (ps_fld (pv 0) (pe_lst (pa_cons pe_int pa_nil)) rfl)
      (pss_cons (ps_fld (pv 0) (pe_lst (pa_cons pe_int pa_nil)) rfl)
      (pss_one (ps_fld (pv 0) (pe_lst (pa_cons (pe_lst pa_nil) pa_nil)) rfl)))), ?_⟩)
  · obtain ⟨d, rfl, _⟩ := h
    rfl
  · obtain ⟨⟨s, dx⟩, rfl, ho, q⟩ := h
    dsimp only at ho q
    refine q_fldL (el_lst (ea_cons ev_c ea_nil) (by decide)) (ev_var rfl) ho T.c_State T.n_State_food (by show 0 < 1000; decide) fun f H1 nf x1 h1 => ?_
    have f1 : Fr (fun x => x = s) H (upd H1 s (.ins T.C_State dx (putF "food" (.ref f) []))) := x1.fr.trans fr_one
    refine q_fldL (el_lst (ea_cons ev_c ea_nil) (by decide)) (ev_var rfl) upd_same T.c_State T.n_State_appetites (by show 1 < 1000; decide) fun ap H2 na x2 h2 => ?_
    have f2 : Fr (fun x => x = s) H (upd H2 s (.ins T.C_State dx (putF "appetites" (.ref ap) (putF "food" (.ref f) [])))) := (f1.trans x2.fr).trans fr_one
    have has : ap ≠ s := ne_of_none_rev na upd_same
    have hfs : f ≠ s := ne_of_none_rev nf ho
    have hfa : f ≠ ap := ne_of_none (show (upd H1 s (.ins T.C_State dx (putF "food" (.ref f) []))) f = some _ by rw [upd_ne hfs]; exact h1) na
    have h2f : H2 f = some (.lst [V.int 0]) := x2 _ _ (by rw [upd_ne hfs]; exact h1)
    have hpf2 : putF "appetites" (V.ref ap) (putF "food" (.ref f) []) = ([("food", .ref f), ("appetites", .ref ap)] : List (Str × V)) := (put_past (by decide +kernel)).trans rfl
    have hpf3 : ∀ r : Addr, putF "reaches" (V.ref r) (putF "appetites" (V.ref ap) (putF "food" (.ref f) [])) = stF f ap r := fun r => by
      rw [hpf2]
      exact (put_past (by decide +kernel)).trans (congrArg _ ((put_past (by decide +kernel)).trans rfl))
    refine s_fldR (er_one (el_lst ea_nil (by decide))) (ev_var rfl) upd_same T.c_State T.n_State_reaches (by rw [hpf2]; show 2 < 1000; decide) fun r vs H3 nr x3 h3 hrows => ?_
    rw [hpf3 r]
    obtain ⟨ps, e7, l7, n7, r7⟩ := nrow_refs hrows
    have f3 : Fr (fun x => x = s) H (upd H3 s (.ins T.C_State dx (stF f ap r))) := (f2.trans x3.fr).trans fr_one
    have hrs : r ≠ s := ne_of_none_rev nr upd_same
    have h2a : (upd H2 s (.ins T.C_State dx (putF "appetites" (.ref ap) (putF "food" (.ref f) [])))) ap = some (.lst [V.int 0]) := by rw [upd_ne has]; exact h2
    have h2f' : (upd H2 s (.ins T.C_State dx (putF "appetites" (.ref ap) (putF "food" (.ref f) [])))) f = some (.lst [V.int 0]) := by rw [upd_ne hfs]; exact h2f
    have nn : ∀ c, (upd H2 s (.ins T.C_State dx (putF "appetites" (.ref ap) (putF "food" (.ref f) [])))) c = none → H c = none := fun c hc => f2.fresh hc (ne_of_none_rev hc upd_same)
    refine q _ _ ⟨rfl, ⟨dx, f, ap, r, ps, ⟨upd_same, ?_, ?_, ?_, l7, ?_, hfa, ne_of_none h2f' nr, ne_of_none h2a nr, ?_, ?_, ?_⟩, .inl rfl, .inr nf, ?_, .inr (nn _ nr), fun c hc => .inr (nn c (n7 c hc).2)⟩, f3⟩
    · rw [upd_ne hfs]
      exact x3 _ _ h2f'
    · rw [upd_ne has]
      exact x3 _ _ h2a
    · rw [upd_ne hrs, h3, e7]
    · intro i c x h1 h2
      have hi : i < 1 := by rw [← show ps.length = 1 from l7]; exact (List.getElem?_eq_some_iff.mp h1).1
      obtain rfl : i = 0 := by omega
      cases h2
      have hc := n7 c (List.mem_of_getElem? h1)
      rw [upd_ne (ne_of_none_rev hc.2 upd_same)]
      exact r7 0 c [] h1 rfl
    · exact fun z => ne_of_none h2f' (n7 _ z).2 rfl
    · exact fun z => ne_of_none h2a (n7 _ z).2 rfl
    · exact fun z => (n7 _ z).1 rfl
    · exact .inr (f1.fresh na has)
end
end Tbl
set_option Elab.async false
set_option linter.all false
set_option maxRecDepth 100000
set_option maxHeartbeats 2000000
namespace Tbl
open PySem PySem.Spec PyProof.Rows L2 Evl
section
variable {P : Program} {w : World} {K : PySem.W.Frag} {mg : Str → Option Value} {base : Heap}
theorem enN_ints (l : List Nat) : l.map enN = (Vbecaf.ints l).map V.int := by
  unfold Vbecaf.ints
  rw [List.map_map]
  rfl
def sp_tell_all (T : Txt K mg) : Sp := spDo T 4
theorem ok_tell_all (T : Txt K mg) : FnOk P w K mg base CX0 1 T.a_tell_all T.fd_tell_all P_tell_all (sp_tell_all T) := by
  refine T.F_tell_all.ok sc_tell_all (fun vs H Q E h => ?_) (fun cdv A outer s H vs Q E hr h => ⟨_, (pss_cons (ps_set (i := 2) sc_tell_all.nd rfl (.inl rfl) (pe_op op_cat (pe_op op_cat (pe_lst (pa_cons pe_int (pa_cons (pe_callB call_len_seq (by rfl) T.n_len PySem.boot_len (pa_cons (pe_fld (pv 0) rfl) pa_nil)) (pa_cons (pe_callB call_len_seq (by rfl) T.n_len PySem.boot_len (pa_cons (pe_fld (pv 0) rfl) pa_nil)) pa_nil)))) (pe_fld (pv 0) rfl)) (pe_fld (pv 0) rfl)))
      (pss_cons (ps_for PassesOwn.never rfl (pi_list (pe_fld (pv 0) rfl)) (pg_name (i := 3) sc_tell_all.nd rfl (.inl rfl))
      (pss_cons (ps_expr (pe_bm PySem.F.plainAttrs_list PySem.F.slot_list_append PySem.F.type_list_append mt_append (pv 2) (pa_cons (pe_callB call_len_seq (by rfl) T.n_len PySem.boot_len (pa_cons (pv 3) pa_nil)) pa_nil)))
      (pss_one (ps_expr (pe_bm PySem.F.plainAttrs_list PySem.F.slot_list_extend PySem.F.type_list_extend mt_extend (pv 2) (pa_cons (pv 3) pa_nil))))))
      (pss_one (ps_ret (pv 2))))), ?_⟩)
  · obtain ⟨d, rfl, _⟩ := h
    rfl
  · obtain ⟨⟨s, g, S, t, ns, xs, qs⟩, rfl, hp, q⟩ := h
    dsimp only at hp q
    obtain ⟨hS, wf, gv, hlen, hnd, hrows, hout, hsh, hsm⟩ := hp
    have e1 : (0, 0) = (ns.length, xs.length) := Option.some.inj hsh
    obtain rfl : ns = [] := List.eq_nil_of_length_eq_zero (congrArg Prod.fst e1).symm
    obtain rfl : xs = [] := List.eq_nil_of_length_eq_zero (congrArg Prod.snd e1).symm
    obtain ⟨dx, f, ap, r, rs, hA, s1, s2, s3, s4, s5⟩ := id hS
    let base : List Int := [0, (t.food.length : Int), (t.appetites.length : Int)] ++ Vbecaf.ints t.food ++ Vbecaf.ints t.appetites
    have hfl : (Vbecaf.ints t.food).length = t.food.length := by unfold Vbecaf.ints; rw [List.length_map]
    have hal : (Vbecaf.ints t.appetites).length = t.appetites.length := by unfold Vbecaf.ints; rw [List.length_map]
    have hbl : base.length ≤ 19 := by
      show ([0, (t.food.length : Int), (t.appetites.length : Int)] ++ Vbecaf.ints t.food ++ Vbecaf.ints t.appetites).length ≤ 19
      rw [List.length_append, List.length_append, hfl, hal]
      have h1 := wf.f8
      have h2 := wf.a8
      show 3 + t.food.length + t.appetites.length ≤ 19
      omega
    have hbase : EvL (tOp rCat (tOp rCat (tLst (tCons (tC (.int 0)) (tCons (tCB (rLenS K) (tCons (tFld K (tVar 0) "food") tNil)) (tCons (tCB (rLenS K) (tCons (tFld K (tVar 0) "appetites") tNil)) tNil)))) (tFld K (tVar 0) "food")) (tFld K (tVar 0) "appetites")) (start N_tell_all [.ref s, .ref g]) H (base.map V.int) := by
      have fo' := hA.fo
      have ap' := hA.app
      rw [enN_ints] at fo' ap'
      show EvL _ _ _ (List.map V.int (_ ++ _ ++ _))
      rw [List.map_append, List.map_append]
      refine el_cat (es_new (el_cat (es_new (el_lst (ea_cons ev_c (ea_cons (ev_lenM (en := enN) (ev_fld (ev_var rfl) hA.ob T.c_State T.n_State_food stF_food) (sq_of hA.fo)) (ea_cons (ev_lenM (en := enN) (ev_fld (ev_var rfl) hA.ob T.c_State T.n_State_appetites stF_app) (sq_of hA.app)) ea_nil))) (by show 3 ≤ 100000; decide))) (es_of (ev_fld (ev_var rfl) hA.ob T.c_State T.n_State_food stF_food) fo') ?_)) (es_of (ev_fld (ev_var rfl) hA.ob T.c_State T.n_State_appetites stF_app) ap') ?_
      · have h1 := wf.f8
        simp only [List.length_append, List.length_map, hfl, hal, List.length_cons, List.length_nil]
        omega
      · have h1 := wf.f8
        have h2 := wf.a8
        simp only [List.length_append, List.length_map, hfl, hal, List.length_cons, List.length_nil]
        omega
    refine q_asgL hbase fun a H1 na x1 h1 => ?_
    refine q_forLn (xs := rs.map V.ref) (ev_fld (ev_var rfl) (hA.ex x1).ob T.c_State T.n_State_reaches stF_re) (sq_of (hA.ex x1).re)
      (fun i σ' H' => (∃ y, σ' = [some (.ref s), some (.ref g), some (.ref a), y]) ∧ Ex H H' ∧ H' a = some (.lst ((base ++ (t.reach.take i).flatMap toldRow).map V.int))) ?_ ?_ ?_ ?_
    · intro H2 x2
      refine ⟨⟨none, rfl⟩, x1.trans x2, ?_⟩
      rw [List.take_zero, List.flatMap_nil, List.append_nil]
      exact x2 _ _ h1
    · rintro i σ' H' _ ⟨_, e, _⟩
      exact sq_of (hA.ex e).re
    · rintro i x σ' H' hi ⟨⟨y, rfl⟩, e, ha⟩
      rw [List.getElem?_map] at hi
      cases hq : rs[i]? with
      | none => rw [hq] at hi; cases hi
      | some qi =>
        rw [hq] at hi
        cases hi
        have hi' : i < t.reach.length := by rw [← hA.len]; exact (List.getElem?_eq_some_iff.mp hq).1
        have hx : t.reach[i]? = some t.reach[i] := List.getElem?_eq_getElem hi'
        have hrow := (hA.ex e).rows i qi _ hq hx
        have hlt := toldRows_len (n := 8) (t.reach.take i) fun z hz => wf_row wf (List.mem_of_mem_take hz)
        have hr8 := wf_row wf (List.mem_of_getElem? hx)
        have hti : (t.reach.take i).length ≤ 8 := by
          rw [List.length_take]
          have := wf.rl
          have := wf.a8
          omega
        have hpl : (base ++ (t.reach.take i).flatMap toldRow).length ≤ 200 := by
          rw [List.length_append]
          omega
        have hqa : qi ≠ a := ne_of_none (hA.rows i qi _ hq hx) na
        refine q_app ha (ev_var rfl) (ev_lenM (en := enN) (ev_var rfl) (sq_of hrow)) (by rw [List.length_map]; omega) fun H2 x2 => ?_
        have e2 : Ex H (upd H2 a (.lst (((base ++ (t.reach.take i).flatMap toldRow).map V.int) ++ [.int (t.reach[i].length : Int)]))) := (e.trans x2).mut na
        refine s_ext (ys := t.reach[i].map enN) upd_same (by rw [upd_ne hqa]; exact x2 _ _ hrow) (ev_var rfl) (ev_var rfl) (by rw [List.length_append, List.length_map, List.length_map]; show _ + 1 + _ ≤ _; omega) fun H3 x3 => ?_
        refine ⟨⟨_, rfl⟩, (e2.trans x3).mut na, ?_⟩
        have e3 : List.flatMap toldRow (some t.reach[i]).toList = toldRow t.reach[i] := by
          show toldRow t.reach[i] ++ [] = _
          exact List.append_nil _
        rw [upd_same, List.take_add_one, hx, List.flatMap_append, e3]
        simp only [List.map_append, List.append_assoc]
        rw [enN_ints]
        rfl
    · rintro σ' H' ⟨⟨y, rfl⟩, e, ha⟩
      rw [List.length_map, hA.len, List.take_length] at ha
      refine s_ret (ev_var rfl) fun H2 x2 => q _ _ (do_same hS (e.trans x2) na (x2 _ _ ha) step_told)
end
end Tbl
set_option Elab.async false
set_option linter.all false
set_option maxRecDepth 100000
set_option maxHeartbeats 2000000
namespace Tbl
open PySem PySem.Spec PyProof.Rows L2 Evl
section
variable {P : Program} {w : World} {K : PySem.W.Frag} {mg : Str → Option Value} {base : Heap}
/-- a list of lists of whole numbers stands for these -/
def Lists (l : List (List Nat)) (v : V) (H : Hp) : Prop := ∃ p us, v = .ref p ∧ H p = some (.lst us) ∧ All2 Row (l.map fun c => c.map enN) us H
theorem Lists.ex {l : List (List Nat)} {v : V} {H H' : Hp} (h : Lists l v H) (e : Ex H H') : Lists l v H' := by
  obtain ⟨p, us, a, b, c⟩ := h
  exact ⟨p, us, a, e _ _ b, c.mono row_mono e⟩
/-- the same, all made anew -/
def NLists (H0 : Hp) (l : List (List Nat)) (v : V) (H : Hp) : Prop := ∃ p us, v = .ref p ∧ H0 p = none ∧ H p = some (.lst us) ∧ All2 (FRow H0) (l.map fun c => c.map enN) us H
theorem NLists.lists {H0 : Hp} {l : List (List Nat)} {v : V} {H : Hp} (h : NLists H0 l v H) : Lists l v H := by
  obtain ⟨p, us, a, _, b, c⟩ := h
  exact ⟨p, us, a, b, c.imp fun x v => frow_row⟩
theorem NLists.ex {H0 : Hp} {l : List (List Nat)} {v : V} {H H' : Hp} (h : NLists H0 l v H) (e : Ex H H') : NLists H0 l v H' := by
  obtain ⟨p, us, a, n, b, c⟩ := h
  exact ⟨p, us, a, n, e _ _ b, c.mono frow_mono e⟩
theorem NLists.back {H0 H1 : Hp} {l : List (List Nat)} {v : V} {H : Hp} (e : Ex H0 H1) (h : NLists H1 l v H) : NLists H0 l v H := by
  obtain ⟨p, us, a, n, b, c⟩ := h
  exact ⟨p, us, a, fresh_back e n, b, c.imp fun x v => frow_back e⟩
def sp_all_choices (T : Txt K mg) : Sp := PDH (fun d : Addr × List Nat => [.ref d.1]) (fun d H => H d.1 = some (.lst (d.2.map enN)) ∧ d.2.length ≤ 8) fun d H v H2 => NLists H (chs d.2) v H2
theorem ok_all_choices (T : Txt K mg) : FnOk P w K mg base CX0 1 T.a_all_choices T.fd_all_choices P_all_choices (sp_all_choices T) := by
  refine T.F_all_choices.ok sc_all_choices (fun vs H Q E h => ?_) (fun cdv A outer s H vs Q E hr h => ⟨_, (pss_cons (ps_set (i := 1) sc_all_choices.nd rfl (.inl rfl) (pe_lst (pa_cons (pe_lst pa_nil) pa_nil)))
      (pss_cons (ps_for PassesOwn.never rfl (pi_list (pv 0)) (pg_name (i := 2) sc_all_choices.nd rfl (.inr rfl))
      (pss_one (ps_set (i := 1) sc_all_choices.nd rfl (.inl rfl) (pe_op op_cat (pv 1) (pe_lc (own := [("choice", 3)]) (g := gName 3) (tt := tYes) rfl sc_all_choices.nd (pi_list (pv 1)) (blkOk_by (own := [("choice", 3)]) (N := N_all_choices) (sc := defScope s_all_choices) (by decide +kernel)) (fun _ _ _ _ _ => (pg_name (i := 3) sc_all_choices.nd rfl (.inl rfl))) (fun _ _ _ _ _ => pts_nil) (fun _ _ _ _ _ => (pe_op op_cat (pv 3) (pe_lst (pa_cons (pv 2) pa_nil)))))))))
      (pss_one (ps_ret (pv 1))))), ?_⟩)
  · obtain ⟨d, rfl, _⟩ := h
    rfl
  · obtain ⟨⟨a, ms⟩, rfl, ⟨hS, h8⟩, q⟩ := h
    dsimp only at hS h8 q
    refine q_asgD (R := fun v H1 => NLists H [[]] v H1) (fun H1 e Q k => er_one (el_lst ea_nil (by decide)) H1 e Q fun p us H2 np e2 h2 h3 => k _ _ e2 ⟨p, us, rfl, fresh_back e np, h2, h3.imp fun x v hx => frow_back e (nrow_frow hx)⟩) fun v H1 e1 hv => ?_
    refine q_forLn (xs := ms.map enN) (ev_var rfl) (sq_of (e1 _ _ hS)) (fun i σ' H' => Ex H H' ∧ ∃ v y, σ' = [some (.ref a), some v, y, none] ∧ NLists H (chs (ms.take i)) v H') ?_ ?_ ?_ ?_
    · exact fun H2 e2 => ⟨e1.trans e2, v, none, rfl, by rw [List.take_zero]; exact hv.ex e2⟩
    · exact fun i σ' H' _ p => sq_of (p.1 _ _ hS)
    · rintro i x σ' H' hi ⟨e, v, y, rfl, p, us, rfl, np, hp, hus⟩
      rw [List.getElem?_map] at hi
      cases hm : ms[i]? with
      | none => rw [hm] at hi; cases hi
      | some m =>
        rw [hm] at hi
        cases hi
        have hlen : us.length ≤ 256 := by
          rw [← hus.1, List.length_map, chs_len]
          exact Nat.le_trans (Nat.pow_le_pow_right (by decide) (Nat.le_trans (by rw [List.length_take]; omega) h8)) (by decide)
        refine s_asgD (ed_catN (l := (chs (ms.take i)).map fun c => (c ++ [m]).map enN) (es_of (ev_var rfl) hp) ?_ (by rw [List.length_map, chs_len, ← chs_len, ← List.length_map (f := fun c : List Nat => c.map enN), hus.1]; omega)) fun v H2 e2 ⟨b, us2, ev, nb, hb, h2⟩ => ?_
        · have e4 : ((List.range us.length).filter fun _ => true).map (fun k => (((chs (ms.take i))[k]?.map fun c => (c ++ [m]).map enN).getD [])) = (chs (ms.take i)).map fun c => (c ++ [m]).map enN := by
            rw [← hus.1, List.length_map, range_get (xs := chs (ms.take i)) (fun _ => true) (fun c => (c ++ [m]).map enN) _ (Nat.le_refl _) _ _ (fun k x hk => by rw [hk]; exact ⟨rfl, rfl⟩), List.take_length, List.filter_eq_self.mpr (fun _ _ => rfl)]
          rw [← e4]
          refine er_lcL (fun _ => true) _ (ev_var rfl) (sq_of hp) (by omega) (fun _ => rfl) (fun k x H3 e3 hk => et_yes) (fun k x H3 e3 hk _ => ?_)
          have hk2 : k < us.length := (List.getElem?_eq_some_iff.mp hk).1
          have hk3 : k < (chs (ms.take i)).length := by rw [← List.length_map (f := fun c : List Nat => c.map enN), hus.1]; exact hk2
          obtain ⟨qk, rfl, _, hqk⟩ := hus.2 k (((chs (ms.take i))[k]).map enN) x (by rw [List.getElem?_map, List.getElem?_eq_getElem hk3]; rfl) hk
          rw [List.getElem?_eq_getElem hk3]
          show EvL _ _ _ (((chs (ms.take i))[k] ++ [m]).map enN)
          rw [List.map_append]
          refine el_cat (es_of (ev_var rfl) (e3 _ _ hqk)) (es_new (el_lst (vs := [enN m]) (ea_cons (ev_var rfl) ea_nil) (by show 1 ≤ 100000; decide))) ?_
          have : ((chs (ms.take i))[k]).length ≤ 8 := Nat.le_trans ((mem_chs _).mp (List.getElem_mem hk3)).length_le (by rw [List.length_take]; omega)
          rw [List.length_map]
          show _ + 1 ≤ _
          omega
        · subst ev
          refine ⟨e.trans e2, _, _, rfl, b, _, rfl, fresh_back e nb, hb, ?_⟩
          rw [List.take_add_one, hm]
          show All2 (FRow H) ((chs (ms.take i ++ [m])).map _) _ _
          rw [chs_snoc, List.map_append, List.map_map]
          exact (hus.mono frow_mono e2).append (h2.imp fun x v hx => frow_back e hx)
    · rintro σ' H' ⟨e, v, y, rfl, hv⟩
      rw [List.length_map, List.take_length] at hv
      exact s_ret (ev_var rfl) fun H2 e2 => q _ _ (e.trans e2) (hv.ex e2)
/-- the program reads a table and a list of its mouths -/
def MouthsAt (T : Txt K mg) (s m : Addr) (t : Vbecaf.Table) (ms : List Nat) (H : Hp) : Prop := (∃ S, StAt T t s S H) ∧ WfT t ∧ H m = some (.lst (ms.map enN)) ∧ Up ms ∧ ∀ i ∈ ms, i < Vbecaf.mouths t
theorem MouthsAt.ex {T : Txt K mg} {s m : Addr} {t : Vbecaf.Table} {ms : List Nat} {H H' : Hp} (h : MouthsAt T s m t ms H) (e : Ex H H') : MouthsAt T s m t ms H' := ⟨h.1.imp fun S q => q.ex e, h.2.1, e _ _ h.2.2.1, h.2.2.2⟩
theorem MouthsAt.len {T : Txt K mg} {s m : Addr} {t : Vbecaf.Table} {ms : List Nat} {H : Hp} (h : MouthsAt T s m t ms H) : ms.length ≤ 8 := Nat.le_trans (up_len h.2.2.2.1 _ h.2.2.2.2) h.2.1.a8
def sp_wanted_amount (T : Txt K mg) : Sp := PV (fun d : Addr × Addr × Vbecaf.Table × List Nat => [.ref d.1, .ref d.2.1]) (fun d H => MouthsAt T d.1 d.2.1 d.2.2.1 d.2.2.2 H) fun d => .int ((appL d.2.2.1 d.2.2.2 : Nat) : Int)
theorem sum_nat (l : List Nat) : (l.map fun (n : Nat) => (n : Int)).sum = ((l.sum : Nat) : Int) := by
  induction l with
  | nil => rfl
  | cons x l ih => rw [List.map_cons, List.sum_cons, List.sum_cons, ih]; rfl
theorem ok_wanted_amount (T : Txt K mg) : FnOk P w K mg base CX0 1 T.a_wanted_amount T.fd_wanted_amount P_wanted_amount (sp_wanted_amount T) := by
  refine T.F_wanted_amount.ok sc_wanted_amount (fun vs H Q E h => ?_) (fun cdv A outer s H vs Q E hr h => ⟨_, (pss_one (ps_ret (pe_callB (cr_sum rfl) (by rfl) T.n_sum (by decide +kernel) (pa_cons (pe_lc (own := [("mouth", 2)]) (g := gName 2) (tt := tYes) (te := (tOp (rIxL K) (tFld K _ "appetites") _)) rfl sc_wanted_amount.nd (pi_list (pv 1)) (blkOk_by (own := [("mouth", 2)]) (N := N_wanted_amount) (sc := defScope s_wanted_amount) (by decide +kernel)) (fun _ _ _ _ _ => (pg_name (i := 2) sc_wanted_amount.nd rfl (.inl rfl))) (fun _ _ _ _ _ => pts_nil) (fun _ _ _ _ _ => (pe_ix ix_list (pe_fld (pv 0) rfl) (pv 2) (fun _ _ => rfl)))) pa_nil)))), ?_⟩)
  · obtain ⟨d, rfl, _⟩ := h
    rfl
  · obtain ⟨⟨s, m, t, ms⟩, rfl, hM, q⟩ := h
    dsimp only at hM q
    obtain ⟨⟨S, dx, f, ap, r, rs, hA, _⟩, wf, hm, hu, hl⟩ := id hM
    have e1 : (((appL t ms : Nat) : Int)) = (ms.map fun i => ((Vbecaf.at_ t.appetites i : Nat) : Int)).sum := by
      unfold appL
      rw [← sum_nat, List.map_map]
      rfl
    refine s_ret (ev_is (ev_sum ?_) (by rw [← e1])) q
    rw [List.map_map]
    refine el_compAll (en := enN) _ (ev_var rfl) (sq_of hm) (by have := hM.len; omega) (fun _ => rfl) fun x H1 x1 hx => ?_
    have hx' : x < t.appetites.length := hl x hx
    refine ev_op (ev_fld (ev_var rfl) (hA.ex x1).ob T.c_State T.n_State_appetites stF_app) (ev_var rfl) (rv_ixLn (sq_of (hA.ex x1).app) ?_)
    rw [List.getElem?_map, List.getElem?_eq_getElem hx']
    show some (enN _) = some (V.int ((Vbecaf.at_ t.appetites x : Nat) : Int))
    unfold Vbecaf.at_
    rw [List.getD_eq_getElem?_getD, List.getElem?_eq_getElem hx']
    rfl
end
end Tbl
set_option Elab.async false
set_option linter.all false
set_option maxRecDepth 100000
set_option maxHeartbeats 2000000
namespace Tbl
open PySem PySem.Spec PyProof.Rows L2 Evl
section
variable {P : Program} {w : World} {K : PySem.W.Frag} {mg : Str → Option Value} {base : Heap}
def sp_reached_food (T : Txt K mg) : Sp := PV (fun d : Addr × Addr × Vbecaf.Table × List Nat => [.ref d.1, .ref d.2.1]) (fun d H => MouthsAt T d.1 d.2.1 d.2.2.1 d.2.2.2 H) fun d => .int ((foodL d.2.2.1 d.2.2.2 : Nat) : Int)
def marked (n : Nat) (p : Nat → Bool) : List V := (List.range n).map fun c => .bl (p c)
theorem marked_set {n : Nat} {p : Nat → Bool} {c : Nat} (hc : c < n) : (marked n p).set c (.bl true) = marked n fun x => p x || (x == c) := by
  apply List.ext_getElem?
  intro i
  unfold marked
  rw [List.getElem?_set, List.length_map, List.length_range, List.getElem?_map, List.getElem?_map]
  by_cases h : c = i
  · subst h
    rw [if_pos rfl, if_pos hc, List.getElem?_range hc]
    simp
  · rw [if_neg h]
    by_cases hi : i < n
    · rw [List.getElem?_range hi]
      simp [Ne.symm h]
    · rw [List.getElem?_eq_none_iff.mpr (by rw [List.length_range]; omega)]
      rfl
theorem ok_reached_food (T : Txt K mg) : FnOk P w K mg base CX0 1 T.a_reached_food T.fd_reached_food P_reached_food (sp_reached_food T) := by
  refine T.F_reached_food.ok sc_reached_food (fun vs H Q E h => ?_) (fun cdv A outer s H vs Q E hr h => ⟨_, (pss_cons (ps_set (i := 2) sc_reached_food.nd rfl (.inr rfl) (pe_lc (own := [("amount", 5)]) (g := gName 5) (tt := tYes) rfl sc_reached_food.nd (pi_list (pe_fld (pv 0) rfl)) (blkOk_by (own := [("amount", 5)]) (N := N_reached_food) (sc := defScope s_reached_food) (by decide +kernel)) (fun _ _ _ _ _ => (pg_name (i := 5) sc_reached_food.nd rfl (.inl rfl))) (fun _ _ _ _ _ => pts_nil) (fun _ _ _ _ _ => pe_bl)))
      (pss_cons (ps_for PassesOwn.never rfl (pi_list (pv 1)) (pg_name (i := 3) sc_reached_food.nd rfl (.inl rfl))
      (pss_one (ps_for PassesOwn.never rfl (pi_list (pe_ix ix_list (pe_fld (pv 0) rfl) (pv 3) (fun _ _ => rfl))) (pg_name (i := 4) sc_reached_food.nd rfl (.inl rfl))
      (pss_one (ps_asg pe_bl (pg_sub (pv 2) (pv 4) set_list))))))
      (pss_one (ps_ret (pe_callB (cr_sum rfl) (by rfl) T.n_sum (by decide +kernel) (pa_cons (pe_lc (own := [("place", 4), ("amount", 5)]) (g := gTup K 2 (gCons (gName 4) (gCons (gName 5) gNil))) (tt := (tB (tOp (rIxL K) _ _))) rfl sc_reached_food.nd (pi_enum (by rfl) T.n_enumerate (pa_cons (pe_fld (pv 0) rfl) pa_nil)) (blkOk_by (own := [("place", 4), ("amount", 5)]) (N := N_reached_food) (sc := defScope s_reached_food) (by decide +kernel)) (fun _ _ _ _ _ => (pg_tup rfl (pgs_cons (pg_name (i := 4) sc_reached_food.nd rfl (.inl rfl)) (pgs_cons (pg_name (i := 5) sc_reached_food.nd rfl (.inl rfl)) pgs_nil)))) (fun _ _ _ _ _ => pts_one (pt_val (pe_ix ix_list (pv 2) (pv 4) (fun _ _ => rfl)))) (fun _ _ _ _ _ => (pv 5))) pa_nil)))))), ?_⟩)
  · obtain ⟨d, rfl, _⟩ := h
    rfl
  · obtain ⟨⟨s, m, t, ms⟩, rfl, hM, q⟩ := h
    dsimp only at hM q
    obtain ⟨⟨S, dx, f, ap, r, rs, hA, _⟩, wf, hm, hu, hl⟩ := id hM
    have hn := wf.f8
    have e0 : marked t.food.length (fun _ => false) = t.food.map fun _ => V.bl false := by
      unfold marked
      apply List.ext_getElem (by simp)
      intro i h1 h2
      simp
    refine q_asgL (xs := marked t.food.length fun _ => false) ?_ fun b H1 nb x1 hb => ?_
    · rw [e0]
      exact el_compAll (en := enN) (fun _ => V.bl false) (ev_fld (ev_var rfl) hA.ob T.c_State T.n_State_food stF_food) (sq_of hA.fo) (by omega) (fun _ => rfl) fun x H1 _ _ => ev_c
    refine q_forLn (xs := ms.map enN) (ev_var rfl) (sq_of (x1 _ _ hm)) (fun i σ' H' => Ex H H' ∧ (∃ y z, σ' = [some (.ref s), some (.ref m), some (.ref b), y, z, none]) ∧ H' b = some (.lst (marked t.food.length fun c => (ms.take i).any fun k => (t.reach.getD k []).contains c))) ?_ ?_ ?_ ?_
    · exact fun H2 x2 => ⟨x1.trans x2, ⟨none, none, rfl⟩, by rw [List.take_zero]; exact x2 _ _ hb⟩
    · exact fun i σ' H' _ p => sq_of (p.1 _ _ hm)
    · rintro i x σ' H' hi ⟨e, ⟨y, z, rfl⟩, hb'⟩
      rw [List.getElem?_map] at hi
      cases hk : ms[i]? with
      | none => rw [hk] at hi; cases hi
      | some k =>
        rw [hk] at hi
        cases hi
        have hkl : k < t.reach.length := by rw [wf.rl]; exact hl k (List.mem_of_getElem? hk)
        have hkr : k < rs.length := by rw [hA.len]; exact hkl
        have hrow := (hA.ex e).rows k rs[k] _ (List.getElem?_eq_getElem hkr) (List.getElem?_eq_getElem hkl)
        have hru := wf.ru _ (List.getElem_mem hkl)
        have hri : (rs.map V.ref)[k]? = some (.ref rs[k]) := by rw [List.getElem?_map, List.getElem?_eq_getElem hkr]; rfl
        have hgd : t.reach.getD k [] = t.reach[k] := by rw [List.getD_eq_getElem?_getD, List.getElem?_eq_getElem hkl]; rfl
        have hnew : rs[k] ≠ b := ne_of_none (hA.rows k rs[k] _ (List.getElem?_eq_getElem hkr) (List.getElem?_eq_getElem hkl)) nb
        refine s_forLn (xs := t.reach[k].map enN) (ev_op (ev_fld (ev_var rfl) (hA.ex e).ob T.c_State T.n_State_reaches stF_re) (ev_var rfl) (rv_ixLn (sq_of (hA.ex e).re) hri)) (sq_of hrow)
          (fun j σ2 H2 => Ex H H2 ∧ (∃ z, σ2 = [some (.ref s), some (.ref m), some (.ref b), some (enN k), z, none]) ∧ H2 b = some (.lst (marked t.food.length fun c => ((ms.take i).any fun k => (t.reach.getD k []).contains c) || (t.reach[k].take j).contains c))) ?_ ?_ ?_ ?_
        · refine fun H2 x2 => ⟨e.trans x2, ⟨z, rfl⟩, ?_⟩
          rw [List.take_zero]
          simp only [List.contains_nil, Bool.or_false]
          exact x2 _ _ hb'
        · exact fun j σ2 H2 _ p => sq_of ((hA.ex p.1).rows k rs[k] _ (List.getElem?_eq_getElem hkr) (List.getElem?_eq_getElem hkl))
        · rintro j x σ2 H2 hj ⟨e2, ⟨z2, rfl⟩, hb2⟩
          rw [List.getElem?_map] at hj
          cases hc : t.reach[k][j]? with
          | none => rw [hc] at hj; cases hj
          | some c =>
            rw [hc] at hj
            cases hj
            have hcn : c < t.food.length := hru.2 c (List.mem_of_getElem? hc)
            refine s_setL (j := c) hb2 ev_c (ev_var rfl) (ev_var rfl) (by unfold marked; rw [List.length_map, List.length_range]; exact hcn) fun H3 x3 => ?_
            refine ⟨(e2.trans x3).mut nb, ⟨_, rfl⟩, ?_⟩
            rw [upd_same, marked_set hcn, List.take_add_one, hc]
            congr 3
            funext x
            show _ = (_ || (t.reach[k].take j ++ [c]).contains x)
            rw [Bool.or_assoc]
            congr 1
            rw [Bool.eq_iff_iff]
            simp only [Bool.or_eq_true, List.contains_iff_mem, List.mem_append, List.mem_singleton, beq_iff_eq]
        · rintro σ2 H2 ⟨e2, ⟨z2, rfl⟩, hb2⟩
          refine ⟨e2, ⟨_, _, rfl⟩, ?_⟩
          rw [hb2, List.length_map, List.take_length, List.take_add_one, hk]
          congr 3
          funext c
          show _ = (List.take i ms ++ [k]).any _
          rw [List.any_append, ← hgd]
          simp
    · rintro σ' H' ⟨e, ⟨y, z, rfl⟩, hb'⟩
      rw [List.length_map, List.take_length] at hb'
      have e1 : ((foodL t ms : Nat) : Int) = (((List.range t.food.length).filter fun c => ms.any fun k => (t.reach.getD k []).contains c).map fun c => ((Vbecaf.at_ t.food c : Nat) : Int)).sum := by
        unfold foodL
        rw [sum_filter, ← sum_nat, List.map_map]
        rfl
      refine s_ret (ev_is (ev_sum ?_) (by rw [← e1])) fun H2 e2 => q H2 (e.trans e2)
      rw [List.map_map]
      refine el_compE (en := enN) (fun c => ms.any fun k => (t.reach.getD k []).contains c) _ (ea_cons (ev_fld (ev_var rfl) (hA.ex e).ob T.c_State T.n_State_food stF_food) ea_nil) (sq_of (hA.ex e).fo) (by omega) (fun _ _ => rfl) (fun i x H1 x1 hi => ?_) (fun i x H1 x1 hi _ => ?_)
      · have hi' : i < t.food.length := (List.getElem?_eq_some_iff.mp hi).1
        refine et_B (ev_op (ev_var rfl) (ev_var rfl) (rv_ixLn (sq_of (x1 _ _ hb')) ?_))
        unfold marked
        rw [List.getElem?_map, List.getElem?_range hi']
        rfl
      · refine ev_is (ev_var rfl) ?_
        show enN x = V.int ((Vbecaf.at_ t.food i : Nat) : Int)
        unfold Vbecaf.at_
        rw [List.getD_eq_getElem?_getD, hi]
        rfl
def sp_bound_of (T : Txt K mg) : Sp := PV (fun d : Addr × Addr × Addr × Vbecaf.Table × List Nat × List Nat => [.ref d.1, .ref d.2.1, .ref d.2.2.1]) (fun d H => MouthsAt T d.1 d.2.1 d.2.2.2.1 d.2.2.2.2.1 H ∧ H d.2.2.1 = some (.lst (d.2.2.2.2.2.map enN)) ∧ d.2.2.2.2.2.Sublist d.2.2.2.2.1) fun d => .int ((boundL d.2.2.2.1 d.2.2.2.2.1 d.2.2.2.2.2 : Nat) : Int)
theorem ok_bound_of (T : Txt K mg) : FnOk P w K mg base CX0 2 T.a_bound_of T.fd_bound_of P_bound_of (sp_bound_of T) := by
  refine T.F_bound_of.ok sc_bound_of (fun vs H Q E h => ?_) (fun cdv A outer s H vs Q E hr h => ⟨_, (pss_cons (ps_setLc (i := 3) (own := [("mouth", 4)]) (g := gName 4) (tt := (tTest (tOp (rIn K true) _ _))) rfl sc_bound_of.nd rfl rfl (sw_true rfl rfl rfl (by decide +kernel)) (pi_list (pv 1)) (blkOk_by (own := [("mouth", 4)]) (N := N_bound_of) (sc := defScope s_bound_of) (by decide +kernel)) (fun _ _ _ _ _ => (pg_name (i := 4) sc_bound_of.nd rfl (.inl rfl))) (fun _ _ _ _ _ => pts_one (pt_cmpR op_notIn_seq (pv 4) (pv 2) (by rfl))) (fun _ _ _ _ _ => (pv 4)))
      (pss_one (ps_ret (pe_op op_add (pe_call (ok_reached_food T) (hr.mono (by decide)) (by rfl) T.g_reached_food T.F_reached_food.kp T.b_reached_food .nil pass0 (pa_cons (pv 0) (pa_cons (pv 2) pa_nil))) (pe_call (ok_wanted_amount T) (hr.mono (by decide)) (by rfl) T.g_wanted_amount T.F_wanted_amount.kp T.b_wanted_amount .nil pass0 (pa_cons (pv 0) (pa_cons (pv 3) pa_nil))))))), ?_⟩)
  · obtain ⟨d, rfl, _⟩ := h
    rfl
  · obtain ⟨⟨s, m, c, t, ms, cs⟩, rfl, ⟨hM, hc, hsub⟩, q⟩ := h
    dsimp only at hM hc hsub q
    obtain ⟨hSt, wf, hm, hu, hl⟩ := id hM
    refine q_asgL (xs := (ms.filter fun x => !cs.contains x).map enN) ?_ fun o H1 no x1 ho => ?_
    · refine el_comp (en := enN) (fun x => !cs.contains x) enN (ev_var rfl) (sq_of hm) (by have := hM.len; omega) (fun _ => rfl) (fun x H1 x1 _ => ?_) (fun x H1 x1 _ _ => ev_var rfl)
      refine et_is (et_test (ev_op (ev_var rfl) (ev_var rfl) (rv_niL (sq_of (x1 _ _ hc)) rfl (flat_enN cs)))) ?_
      rw [inV_enN]
    have e1 : ((boundL t ms cs : Nat) : Int) = ((foodL t cs : Nat) : Int) + ((appL t (ms.filter fun x => !cs.contains x) : Nat) : Int) := rfl
    refine s_ret (ev_is (ev_op (ev_pv (s, c, t, cs) (ea_cons (ev_var rfl) (ea_cons (ev_var rfl) ea_nil)) fun H2 x2 => ?_) (ev_pv (s, o, t, ms.filter fun x => !cs.contains x) (ea_cons (ev_var rfl) (ea_cons (ev_var rfl) ea_nil)) fun H2 x2 => ?_) rv_I0) (by rw [e1])) fun H2 x2 => q H2 (x1.trans x2)
    · exact ⟨hSt.imp fun S h => h.ex (x1.trans x2), wf, x2 _ _ (x1 _ _ hc), sub_up hsub hu, fun i hi => hl i (hsub.subset hi)⟩
    · exact ⟨hSt.imp fun S h => h.ex (x1.trans x2), wf, x2 _ _ ho, up_filter _ hu, fun i hi => hl i (List.mem_filter.mp hi).1⟩
def sp_most_of (T : Txt K mg) : Sp := PV (fun d : Addr × Addr × Vbecaf.Table × List Nat => [.ref d.1, .ref d.2.1]) (fun d H => MouthsAt T d.1 d.2.1 d.2.2.1 d.2.2.2 H) fun d => .int ((Vbecaf.mostOf d.2.2.1 (Vbecaf.sums d.2.2.1) (Vbecaf.setOf d.2.2.2) : Nat) : Int)
theorem ok_most_of (T : Txt K mg) : FnOk P w K mg base CX0 3 T.a_most_of T.fd_most_of P_most_of (sp_most_of T) := by
  refine T.F_most_of.ok sc_most_of (fun vs H Q E h => ?_) (fun cdv A outer s H vs Q E hr h => ⟨_, (pss_one (ps_ret (pe_callB (cr_min rfl) (by rfl) T.n_min (by decide +kernel) (pa_cons (pe_lc (own := [("chosen", 2)]) (g := gName 2) (tt := tYes) rfl sc_most_of.nd (pi_list (pe_call (ok_all_choices T) (hr.mono (by decide)) (by rfl) T.g_all_choices T.F_all_choices.kp T.b_all_choices .nil pass0 (pa_cons (pv 1) pa_nil))) (blkOk_by (own := [("chosen", 2)]) (N := N_most_of) (sc := defScope s_most_of) (by decide +kernel)) (fun _ _ _ _ _ => (pg_name (i := 2) sc_most_of.nd rfl (.inl rfl))) (fun _ _ _ _ _ => pts_nil) (fun _ _ _ _ _ => (pe_call (ok_bound_of T) (hr.mono (by decide)) (by rfl) T.g_bound_of T.F_bound_of.kp T.b_bound_of .nil pass0 (pa_cons (pv 0) (pa_cons (pv 1) (pa_cons (pv 2) pa_nil)))))) pa_nil)))), ?_⟩)
  · obtain ⟨d, rfl, _⟩ := h
    rfl
  · obtain ⟨⟨s, m, t, ms⟩, rfl, hM, q⟩ := h
    dsimp only at hM q
    obtain ⟨hSt, wf, hm, hu, hl⟩ := id hM
    refine s_ret (ev_minL (ns := (chs ms).map fun c => ((boundL t ms c : Nat) : Int)) ?_ (by rw [List.length_map, chs_len]; exact Nat.two_pow_pos _) fun k h1 h2 => least_most hu hl h1 h2) q
    rw [List.map_map]
    refine el_lcD (l := chs ms) (R := fun c v H => Row (c.map enN) v H) (ed_pdh (args := fun d : Addr × List Nat => [.ref d.1]) (m, ms) (ea_cons (ev_var rfl) ea_nil) (fun H2 e2 => ⟨e2 _ _ hm, hM.len⟩) fun H1 v H2 _ _ h => ?_) ?_ (fun _ => rfl) fun c v H1 x1 hc hv => ?_
    · obtain ⟨p, us, ev, hp, hus⟩ := h.lists
      exact ⟨p, us, ev, hp, hus.unmap⟩
    · rw [chs_len]
      exact Nat.le_trans (Nat.pow_le_pow_right (by decide) hM.len) (by decide)
    · obtain ⟨b, rfl, hb⟩ := hv
      exact ev_pv (s, m, b, t, ms, c) (ea_cons (ev_var rfl) (ea_cons (ev_var rfl) (ea_cons (ev_var rfl) ea_nil))) fun H2 x2 => ⟨hM.ex (x1.trans x2), x2 _ _ hb, (mem_chs ms).mp hc⟩
end
end Tbl
set_option Elab.async false
set_option linter.all false
set_option maxRecDepth 100000
set_option maxHeartbeats 2000000
namespace Tbl
open PySem PySem.Spec PyProof.Rows L2 Evl
section
variable {P : Program} {w : World} {K : PySem.W.Frag} {mg : Str → Option Value} {base : Heap}
def sp_tell_most (T : Txt K mg) : Sp := spDo T 5
theorem ok_tell_most (T : Txt K mg) : FnOk P w K mg base CX0 4 T.a_tell_most T.fd_tell_most P_tell_most (sp_tell_most T) := by
  refine T.F_tell_most.ok sc_tell_most (fun vs H Q E h => ?_) (fun cdv A outer s H vs Q E hr h => ⟨_, (pss_cons (ps_set (i := 2) sc_tell_most.nd rfl (.inl rfl) (pe_ix ix_list (pv 1) pe_int (fun _ _ => rfl)))
      (pss_cons (ps_if (pt_not (pt_val (pe_call (ok_is_choice T) (hr.mono (by decide)) (by rfl) T.g_is_choice T.F_is_choice.kp T.b_is_choice .nil pass0 (pa_cons (pv 2) (pa_cons (pe_callB call_len_seq (by rfl) T.n_len PySem.boot_len (pa_cons (pe_fld (pv 0) rfl) pa_nil)) pa_nil)))))
      (pss_one (ps_ret (pe_lst (pa_cons (pe_un un_neg pe_int) pa_nil))))
      pss_nil)
      (pss_one (ps_ret (pe_lst (pa_cons (pe_call (ok_most_of T) (hr.mono (by decide)) (by rfl) T.g_most_of T.F_most_of.kp T.b_most_of .nil pass0 (pa_cons (pv 0) (pa_cons (pv 2) pa_nil))) pa_nil)))))), ?_⟩)
  · obtain ⟨d, rfl, _⟩ := h
    rfl
  · obtain ⟨⟨s, g, S, t, ns, xs, qs⟩, rfl, hp, q⟩ := h
    dsimp only at hp q
    obtain ⟨hS, wf, gv, hlen, hnd, hrows, hout, hsh, hsm⟩ := hp
    have e1 : (0, 1) = (ns.length, xs.length) := Option.some.inj hsh
    obtain rfl : ns = [] := List.eq_nil_of_length_eq_zero (congrArg Prod.fst e1).symm
    obtain ⟨l, rfl⟩ : ∃ l, xs = [l] := by
      match xs, congrArg Prod.snd e1 with
      | [l], _ => exact ⟨l, rfl⟩
    obtain ⟨ql, rfl⟩ : ∃ b, qs = [b] := by
      match qs, hlen with
      | [b], _ => exact ⟨b, rfl⟩
    have hl := hrows 0 ql l rfl rfl
    have hl100 := hsm l (by simp)
    obtain ⟨dx, f, ap, r, rs, hA, s1, s2, s3, s4, s5⟩ := id hS
    refine q_asg (ev_op (ev_var rfl) ev_c (rv_ixLn (i := 0) (sq_of gv) rfl)) fun H1 x1 => ?_
    refine q_when (b := !(Vbecaf.rising l && inAll l (Vbecaf.mouths t : Int))) (et_not (et_B (ev_pv (ql, l, (t.appetites.length : Int)) (ea_cons (ev_var rfl) (ea_cons (ev_lenM (ev_fld (ev_var rfl) (hA.ex x1).ob T.c_State T.n_State_appetites stF_app) (sq_of (hA.ex x1).app)) ea_nil)) fun H2 e2 => ⟨sq_of (e2 _ _ (x1 _ _ hl)), by dsimp only; omega⟩))) (fun hb H2 x2 => ?_) (fun hb H2 x2 => ?_)
    · refine s_retL (el_lst (ea_cons (ev_neg ev_c) ea_nil) (by decide)) fun b H3 nb x3 h3 => q _ _ (do_same (l := [-2]) hS ((x1.trans x2).trans x3) (fresh_back (x1.trans x2) nb) h3 ?_)
      rw [step_most, if_neg (by rw [not_t hb]; decide)]
    · have h1 := not_f hb
      have u := told_up h1
      have y := x1.trans x2
      refine s_retL (el_lst (vs := [V.int _]) (ea_cons (ev_pv (s, ql, t, l.map Int.toNat) (ea_cons (ev_var rfl) (ea_cons (ev_var rfl) ea_nil)) fun H3 x3 => ⟨⟨S, hS.ex (y.trans x3)⟩, wf, ?_, u.1, u.2.1⟩) ea_nil) (by show 1 ≤ 100000; decide)) fun b H3 nb x3 h3 => q _ _ (do_same (l := [((Vbecaf.mostOf t (Vbecaf.sums t) (Vbecaf.setOf (l.map Int.toNat)) : Nat) : Int)]) hS (y.trans x3) (fresh_back y nb) h3 ?_)
      · dsimp only
        rw [enN_map u.2.2]
        exact x3 _ _ (y _ _ hl)
      · rw [step_most, if_pos h1]
end
end Tbl
set_option Elab.async false
set_option linter.all false
set_option maxRecDepth 100000
set_option maxHeartbeats 2000000
namespace Tbl
open PySem PySem.Spec PyProof.Rows L2 Evl
section
variable {P : Program} {w : World} {K : PySem.W.Frag} {mg : Str → Option Value} {base : Heap}
def sp_is_share_row (T : Txt K mg) : Sp := PV (fun d : Addr × List Int × Int => [.ref d.1, .int d.2.2]) (fun d H => SqL K H d.1 (d.2.1.map V.int) ∧ d.2.1.length ≤ 1000) fun d => .bl (decide ((d.2.1.length : Int) = d.2.2) && d.2.1.all fun v => decide (0 ≤ v))
theorem ok_is_share_row (T : Txt K mg) : FnOk P w K mg base CX0 1 T.a_is_share_row T.fd_is_share_row P_is_share_row (sp_is_share_row T) := by
  refine T.F_is_share_row.ok sc_is_share_row (fun vs H Q E h => ?_) (fun cdv A outer s H vs Q E hr h => ⟨_, (pss_one (ps_ret (pe_and (pe_cmpR op_eq (pe_callB call_len_seq (by rfl) T.n_len PySem.boot_len (pa_cons (pv 0) pa_nil)) (pv 1) (nomark _)) (pe_one (pe_callB (cr_all rfl) (by rfl) T.n_all (by decide +kernel) (pa_cons (pe_lc (own := [("share", 2)]) (g := gName 2) (tt := tYes) rfl sc_is_share_row.nd (pi_list (pv 0)) (blkOk_by (own := [("share", 2)]) (N := N_is_share_row) (sc := defScope s_is_share_row) (by decide +kernel)) (fun _ _ _ _ _ => (pg_name (i := 2) sc_is_share_row.nd rfl (.inl rfl))) (fun _ _ _ _ _ => pts_nil) (fun _ _ _ _ _ => (pe_cmpR op_ge (pv 2) pe_int (nomark _)))) pa_nil)))))), ?_⟩)
  · obtain ⟨d, rfl, _⟩ := h
    rfl
  · obtain ⟨⟨a, ns, c⟩, rfl, ⟨hS, hl⟩, q⟩ := h
    dsimp only at hS hl q
    have e : (ns.all fun n => decide (0 ≤ n)) = (ns.map fun n => decide (0 ≤ n)).all id := by
      rw [List.all_map]
      rfl
    rw [e] at q
    refine s_ret (ev_andV (ev_is (ev_op (ev_lenM (ev_var rfl) hS) (ev_var rfl) (rv_eq rfl)) (by rw [eq_int])) fun _ => ?_) q
    refine ev_all ?_
    rw [List.map_map]
    exact el_compAll (en := V.int) _ (ev_var rfl) hS (by omega) (fun _ => rfl) fun x H1 e1 _ => ev_op (ev_var rfl) ev_c rv_I0
def sp_is_order (T : Txt K mg) : Sp := PV (fun d : Addr × List Int × Nat => [.ref d.1, .int (d.2.2 : Int)]) (fun d H => SqL K H d.1 (d.2.1.map V.int) ∧ d.2.2 ≤ 1000) fun d => .bl (Vbecaf.isOrder d.2.2 d.2.1)
theorem ok_is_order (T : Txt K mg) : FnOk P w K mg base CX0 1 T.a_is_order T.fd_is_order P_is_order (sp_is_order T) := by
  refine T.F_is_order.ok sc_is_order (fun vs H Q E h => ?_) (fun cdv A outer s H vs Q E hr h => ⟨_, (pss_one (ps_ret (pe_cmpR (op_eqD hr.units) (pe_callB cr_sortedI (by rfl) T.n_sorted (by decide +kernel) (pa_cons (pv 0) pa_nil)) (pe_listRg rfl (by rfl) T.n_list (prg_1 (by rfl) T.n_range (pv 1))) (nomark _)))), ?_⟩)
  · obtain ⟨d, rfl, _⟩ := h
    rfl
  · obtain ⟨⟨a, ns, n⟩, rfl, ⟨hS, hl⟩, q⟩ := h
    dsimp only at hS hl q
    exact s_ret (ev_sortedEq (n := n) (ev_var rfl) hS (ev_var rfl) (by omega) fun ns' h1 h2 => order_sorted h1 h2) q
end
end Tbl
set_option Elab.async false
set_option linter.all false
set_option maxRecDepth 100000
set_option maxHeartbeats 2000000
namespace Tbl
open PySem PySem.Spec PyProof.Rows L2 Evl
section
variable {P : Program} {w : World} {K : PySem.W.Frag} {mg : Str → Option Value} {base : Heap}
def sp_every_set (T : Txt K mg) : Sp := PDH (fun d : Nat => [.int (d : Int)]) (fun d _ => d ≤ 8) fun d H v H2 => NLists H (chs (List.range d)) v H2
theorem ok_every_set (T : Txt K mg) : FnOk P w K mg base CX0 2 T.a_every_set T.fd_every_set P_every_set (sp_every_set T) := by
  refine T.F_every_set.ok sc_every_set (fun vs H Q E h => ?_) (fun cdv A outer s H vs Q E hr h => ⟨_, (pss_one (ps_ret (pe_call (ok_all_choices T) (hr.mono (by decide)) (by rfl) T.g_all_choices T.F_all_choices.kp T.b_all_choices .nil pass0 (pa_cons (pe_listRg rfl (by rfl) T.n_list (prg_1 (by rfl) T.n_range (pv 0))) pa_nil)))), ?_⟩)
  · obtain ⟨d, rfl, _⟩ := h
    rfl
  · obtain ⟨n, rfl, hn, q⟩ := h
    dsimp only at hn q
    refine s_retD (ed_pdhL (xs := (List.range n).map enN) (fun p => (p, List.range n)) (el_range (ev_var rfl) (by omega)) (fun _ => rfl) (fun p H1 _ h1 => ⟨h1, by dsimp only; rw [List.length_range]; exact hn⟩) fun p H1 v H2 e1 e2 h => ?_) fun v H1 e1 h => q v H1 e1 h
    exact h.back e1
def sp_sums_of_sets (T : Txt K mg) : Sp := PL (fun d : Addr × List Nat => [.ref d.1]) (fun d H => H d.1 = some (.lst (d.2.map enN)) ∧ d.2.length ≤ 8) fun d => (sums2 d.2).map enN
theorem ok_sums_of_sets (T : Txt K mg) : FnOk P w K mg base CX0 1 T.a_sums_of_sets T.fd_sums_of_sets P_sums_of_sets (sp_sums_of_sets T) := by
  refine T.F_sums_of_sets.ok sc_sums_of_sets (fun vs H Q E h => ?_) (fun cdv A outer s H vs Q E hr h => ⟨_, (pss_cons (ps_set (i := 1) sc_sums_of_sets.nd rfl (.inl rfl) (pe_lst (pa_cons pe_int pa_nil)))
      (pss_cons (ps_for PassesOwn.never rfl (pi_list (pv 0)) (pg_name (i := 2) sc_sums_of_sets.nd rfl (.inr rfl))
      (pss_one (ps_set (i := 1) sc_sums_of_sets.nd rfl (.inl rfl) (pe_op op_cat (pv 1) (pe_lc (own := [("amount", 3)]) (g := gName 3) (tt := tYes) rfl sc_sums_of_sets.nd (pi_list (pv 1)) (blkOk_by (own := [("amount", 3)]) (N := N_sums_of_sets) (sc := defScope s_sums_of_sets) (by decide +kernel)) (fun _ _ _ _ _ => (pg_name (i := 3) sc_sums_of_sets.nd rfl (.inl rfl))) (fun _ _ _ _ _ => pts_nil) (fun _ _ _ _ _ => (pe_op op_add (pv 3) (pv 2))))))))
      (pss_one (ps_ret (pv 1))))), ?_⟩)
  · obtain ⟨d, rfl, _⟩ := h
    rfl
  · obtain ⟨⟨a, xs⟩, rfl, ⟨hS, h8⟩, q⟩ := h
    dsimp only at hS h8 q
    refine q_asgL (xs := [enN 0]) (el_lst (ea_cons ev_c ea_nil) (by decide)) fun b H1 nb e1 hb => ?_
    refine q_forLn (xs := xs.map enN) (ev_var rfl) (sq_of (e1 _ _ hS)) (fun i σ' H' => Ex H H' ∧ ∃ b y, σ' = [some (.ref a), some (.ref b), y, none] ∧ H b = none ∧ H' b = some (.lst ((sums2 (xs.take i)).map enN))) ?_ ?_ ?_ ?_
    · exact fun H2 e2 => ⟨e1.trans e2, b, none, rfl, nb, by rw [List.take_zero]; exact e2 _ _ hb⟩
    · exact fun i σ' H' _ p => sq_of (p.1 _ _ hS)
    · rintro i x σ' H' hi ⟨e, b, y, rfl, nb, hb⟩
      rw [List.getElem?_map] at hi
      cases hm : xs[i]? with
      | none => rw [hm] at hi; cases hi
      | some m =>
        rw [hm] at hi
        cases hi
        have hlen : (sums2 (xs.take i)).length ≤ 256 := by
          rw [sums2_len _ _ rfl]
          exact Nat.le_trans (Nat.pow_le_pow_right (by decide) (Nat.le_trans (by rw [List.length_take]; omega) h8)) (by decide)
        refine s_asgL (xs := (sums2 (xs.take (i + 1))).map enN) ?_ fun p H2 np e2 h2 => ⟨e.trans e2, p, _, rfl, fresh_back e np, h2⟩
        rw [List.take_add_one, hm]
        show EvL _ _ _ ((sums2 (xs.take i ++ [m])).map enN)
        rw [sums2_snoc, List.map_append, List.map_map]
        refine el_cat (es_of (ev_var rfl) hb) (es_new ?_) (by rw [List.length_map, List.length_map]; omega)
        refine el_compAll (en := enN) _ (ev_var rfl) (sq_of hb) (by omega) (fun _ => rfl) fun x H3 e3 _ => ?_
        refine ev_is (ev_op (ev_var rfl) (ev_var rfl) rv_I0) ?_
        show V.int _ = V.int _
        congr 1
    · rintro σ' H' ⟨e, b, y, rfl, nb, hb⟩
      rw [List.length_map, List.take_length] at hb
      exact s_ret (ev_var rfl) fun H2 e2 => q b _ nb (e.trans e2) (e2 _ _ hb)
def firstV (o : Option Nat) : V := match o with
  | none => .non
  | some k => .int (k : Int)
def sp_first_above (T : Txt K mg) : Sp := PV (fun d : Addr × Addr × List Nat × List Nat => [.ref d.1, .ref d.2.1]) (fun d H => H d.1 = some (.lst (d.2.2.1.map enN)) ∧ H d.2.1 = some (.lst (d.2.2.2.map enN)) ∧ d.2.2.1.length = d.2.2.2.length ∧ d.2.2.1.length ≤ 256) fun d => firstV (firstOf d.2.2.1 d.2.2.2)
theorem ok_first_above (T : Txt K mg) : FnOk P w K mg base CX0 1 T.a_first_above T.fd_first_above P_first_above (sp_first_above T) := by
  refine T.F_first_above.ok sc_first_above (fun vs H Q E h => ?_) (fun cdv A outer s H vs Q E hr h => ⟨_, (pss_cons (ps_for PassesOwn.never rfl (pi_range1 (by rfl) T.n_range (pa_cons (pe_callB call_len_seq (by rfl) T.n_len PySem.boot_len (pa_cons (pv 0) pa_nil)) pa_nil)) (pg_name (i := 2) sc_first_above.nd rfl (.inl rfl))
      (pss_one (ps_if (pt_cmpR op_gt (pe_ix ix_list (pv 0) (pv 2) (fun _ _ => rfl)) (pe_ix ix_list (pv 1) (pv 2) (fun _ _ => rfl)) (nomark _))
      (pss_one (ps_ret (pv 2)))
      pss_nil)))
      (pss_one (ps_ret pe_non))), ?_⟩)
  · obtain ⟨d, rfl, _⟩ := h
    rfl
  · obtain ⟨⟨a, b, xs, ys⟩, rfl, ⟨ha, hb, hl, h8⟩, q⟩ := h
    dsimp only at ha hb hl h8 q
    refine q_forR1 (n := (xs.length : Int)) (ea_cons (ev_lenM (ev_var rfl) (sq_of ha)) ea_nil) (by omega) (fun i σ' H' => Ex H H' ∧ (∃ y, σ' = [some (.ref a), some (.ref b), y]) ∧ ∀ j, j < i → ¬ Vbecaf.at_ ys j < Vbecaf.at_ xs j) ?_ ?_ ?_
    · exact fun H1 e => ⟨e, ⟨none, rfl⟩, fun j hj => by omega⟩
    · rintro i σ' H' hi ⟨e, ⟨y, rfl⟩, hp⟩
      have h1 : i < xs.length := by omega
      refine s_when (b := decide (((Vbecaf.at_ ys i : Nat) : Int) < ((Vbecaf.at_ xs i : Nat) : Int))) (et_test (ev_op (ev_op (ev_var rfl) (ev_var rfl) (rv_ixLn (sq_of (e _ _ ha)) (get_at h1))) (ev_op (ev_var rfl) (ev_var rfl) (rv_ixLn (sq_of (e _ _ hb)) (get_at (by omega)))) rv_I0)) (fun hb2 H1 e1 => ?_) (fun hb2 H1 e1 => ?_)
      · have hb3 := of_decide_eq_true hb2
        refine s_ret (ev_var rfl) fun H2 e2 => ?_
        have := q H2 ((e.trans e1).trans e2)
        rw [first_some h1 (by omega) hp] at this
        exact this
      · have hb3 := of_decide_eq_false hb2
        refine ⟨e.trans e1, ⟨_, rfl⟩, fun j hj => ?_⟩
        by_cases c : j = i
        · subst c
          omega
        · exact hp j (by omega)
    · rintro σ' H' ⟨e, ⟨y, rfl⟩, hp⟩
      refine s_ret ev_c fun H2 e2 => ?_
      have := q H2 (e.trans e2)
      rw [first_none fun j hj => hp j (by omega)] at this
      exact this
theorem rowN_mono : Mono (fun (c : List Nat) (v : V) (H : Hp) => Row (c.map enN) v H) := fun c v H H' e h => row_mono (c.map enN) v H H' e h
def sp_bound_by_food (T : Txt K mg) : Sp := PL (fun d : Addr × Addr × Vbecaf.Table × List Nat => [.ref d.1, .ref d.2.1]) (fun d H => MouthsAt T d.1 d.2.1 d.2.2.1 d.2.2.2 H) fun d => (Vbecaf.members d.2.2.1 (Vbecaf.binding d.2.2.1 (Vbecaf.sums d.2.2.1) (Vbecaf.setOf d.2.2.2))).map enN
theorem ok_bound_by_food (T : Txt K mg) : FnOk P w K mg base CX0 3 T.a_bound_by_food T.fd_bound_by_food P_bound_by_food (sp_bound_by_food T) := by
  refine T.F_bound_by_food.ok sc_bound_by_food (fun vs H Q E h => ?_) (fun cdv A outer s H vs Q E hr h => ⟨_, (pss_cons (ps_set (i := 2) sc_bound_by_food.nd rfl (.inr rfl) (pe_call (ok_all_choices T) (hr.mono (by decide)) (by rfl) T.g_all_choices T.F_all_choices.kp T.b_all_choices .nil pass0 (pa_cons (pv 1) pa_nil)))
      (pss_cons (ps_setLc (i := 3) (own := [("chosen", 6)]) (g := gName 6) (tt := tYes) rfl sc_bound_by_food.nd rfl rfl (sw_true rfl rfl rfl (by decide +kernel)) (pi_list (pv 2)) (blkOk_by (own := [("chosen", 6)]) (N := N_bound_by_food) (sc := defScope s_bound_by_food) (by decide +kernel)) (fun _ _ _ _ _ => (pg_name (i := 6) sc_bound_by_food.nd rfl (.inl rfl))) (fun _ _ _ _ _ => pts_nil) (fun _ _ _ _ _ => (pe_call (ok_bound_of T) (hr.mono (by decide)) (by rfl) T.g_bound_of T.F_bound_of.kp T.b_bound_of .nil pass0 (pa_cons (pv 0) (pa_cons (pv 1) (pa_cons (pv 6) pa_nil))))))
      (pss_cons (ps_set (i := 4) sc_bound_by_food.nd rfl (.inr rfl) (pe_callB (cr_min rfl) (by rfl) T.n_min (by decide +kernel) (pa_cons (pv 3) pa_nil)))
      (pss_cons (ps_set (i := 5) sc_bound_by_food.nd rfl (.inr rfl) (pe_lc (own := [("at", 7), ("bound", 8)]) (g := gTup K 2 (gCons (gName 7) (gCons (gName 8) gNil))) (te := (tOp (rIxL K) _ _)) rfl sc_bound_by_food.nd (pi_enum (by rfl) T.n_enumerate (pa_cons (pv 3) pa_nil)) (blkOk_by (own := [("at", 7), ("bound", 8)]) (N := N_bound_by_food) (sc := defScope s_bound_by_food) (by decide +kernel)) (fun _ _ _ _ _ => (pg_tup rfl (pgs_cons (pg_name (i := 7) sc_bound_by_food.nd rfl (.inl rfl)) (pgs_cons (pg_name (i := 8) sc_bound_by_food.nd rfl (.inl rfl)) pgs_nil)))) (fun _ _ _ _ _ => pts_one (pt_cmpR op_eq (pv 8) (pv 4) (nomark _))) (fun _ _ _ _ _ => (pe_ix ix_list (pv 2) (pv 7) (fun _ _ => rfl)))))
      (pss_one (ps_ret (pe_lc (own := [("mouth", 9)]) (g := gName 9) (tt := (tB (tCB (rAny K) (tCons (tLc (iList K _) _ tYes (tOp (rIn K false) _ _) _) tNil)))) rfl sc_bound_by_food.nd (pi_list (pv 1)) (blkOk_by (own := [("mouth", 9)]) (N := N_bound_by_food) (sc := defScope s_bound_by_food) (by decide +kernel)) (fun _ _ _ _ _ => (pg_name (i := 9) sc_bound_by_food.nd rfl (.inr rfl))) (fun _ _ _ _ _ => pts_one (pt_val (pe_callB (cr_any rfl) (by rfl) T.n_any (by decide +kernel) (pa_cons (pe_lc (own := [("chosen", 6)]) (g := gName 6) (tt := tYes) (te := (tOp (rIn K false) _ _)) rfl sc_bound_by_food.nd (pi_list (pv 5)) (blkOk_by (own := [("chosen", 6)]) (N := N_bound_by_food) (sc := { kind := ScopeKind.function, names := [(Str.ofString ".0", NameKind.local), (Str.ofString "mouth", NameKind.cell), (Str.ofString "any", NameKind.globalImplicit), (Str.ofString "tight", NameKind.cell)], isGenerator := false, isCoroutine := false }) (by decide +kernel)) (fun _ _ _ _ _ => (pg_name (i := 6) sc_bound_by_food.nd rfl (.inl rfl))) (fun _ _ _ _ _ => pts_nil) (fun _ _ _ _ _ => (pe_cmpR op_in_seq (pv 9) (pv 6) (by rfl)))) pa_nil)))) (fun _ _ _ _ _ => (pv 9))))))))), ?_⟩)
  · obtain ⟨d, rfl, _⟩ := h
    rfl
  · obtain ⟨⟨s, m, t, ms⟩, rfl, hM, q⟩ := h
    dsimp only at hM q
    obtain ⟨hSt, wf, hm, hu, hl⟩ := id hM
    have h8 : (chs ms).length ≤ 256 := by
      rw [chs_len]
      exact Nat.le_trans (Nat.pow_le_pow_right (by decide) hM.len) (by decide)
    refine q_asgD (R := fun v H2 => Lists (chs ms) v H2) (ed_pdh (args := fun d : Addr × List Nat => [.ref d.1]) (m, ms) (ea_cons (ev_var rfl) ea_nil) (fun H2 e2 => ⟨e2 _ _ hm, hM.len⟩) fun H1 v H2 _ _ h => h.lists) fun v H1 x1 ⟨p, us, ev, hp, hus⟩ => ?_
    subst ev
    have hus1 := hus.unmap
    refine q_asgL (xs := (chs ms).map fun c => V.int ((boundL t ms c : Nat) : Int)) ?_ fun b H2 nb x2 hb => ?_
    · refine el_lcD (l := chs ms) (R := fun c v H => Row (c.map enN) v H) (ed_var rfl fun H2 e2 => ⟨p, us, rfl, e2 _ _ hp, hus1.mono rowN_mono e2⟩) (by omega) (fun _ => rfl) fun c v H2 e2 hc hv => ?_
      obtain ⟨r, rfl, hr⟩ := hv
      exact ev_pv (s, m, r, t, ms, c) (ea_cons (ev_var rfl) (ea_cons (ev_var rfl) (ea_cons (ev_var rfl) ea_nil))) fun H3 e3 => ⟨hM.ex ((x1.trans e2).trans e3), e3 _ _ hr, (mem_chs ms).mp hc⟩
    have eb : ((chs ms).map fun c => V.int ((boundL t ms c : Nat) : Int)) = ((chs ms).map fun c => ((boundL t ms c : Nat) : Int)).map V.int := by rw [List.map_map]; rfl
    rw [eb] at hb
    refine q_asg (v := .int ((Mo t (Vbecaf.setOf ms) : Nat) : Int)) (ev_minS (es_of (ev_var rfl) hb) (by rw [List.length_map, chs_len]; exact Nat.two_pow_pos _) fun k h1 h2 => least_most hu hl h1 h2) fun H3 x3 => ?_
    have y3 := (x1.trans x2).trans x3
    have hp3 : H3 p = some (.lst us) := (x2.trans x3) _ _ hp
    have hus3 := hus1.mono rowN_mono (x2.trans x3)
    have hul : us.length = (chs ms).length := hus1.1.symm
    refine q_asgL (xs := ((List.range (chs ms).length).filter fun k => decide (boundL t ms ((chs ms).getD k []) = Mo t (Vbecaf.setOf ms))).map fun k => us.getD k .non) ?_ fun r H4 nr x4 hr => ?_
    · have el : (chs ms).length = ((chs ms).map fun c => ((boundL t ms c : Nat) : Int)).length := by rw [List.length_map]
      rw [el]
      refine el_compE (en := V.int) (fun k => decide (boundL t ms ((chs ms).getD k []) = Mo t (Vbecaf.setOf ms))) (fun k => us.getD k .non) (ea_cons (ev_var rfl) ea_nil) (sq_of (x3 _ _ hb)) (by rw [List.length_map]; omega) (fun _ _ => rfl) (fun i x H5 x5 hi => ?_) (fun i x H5 x5 hi _ => ?_)
      · refine et_is (et_test (ev_op (ev_var rfl) (ev_var rfl) (rv_eq rfl))) ?_
        rw [List.getElem?_map] at hi
        cases hc : (chs ms)[i]? with
        | none => rw [hc] at hi; cases hi
        | some c =>
          rw [hc] at hi
          cases hi
          rw [eq_int, List.getD_eq_getElem?_getD, hc]
          show decide (((boundL t ms c : Nat) : Int) = _) = decide (boundL t ms c = _)
          by_cases z : boundL t ms c = Mo t (Vbecaf.setOf ms)
          · rw [z]; simp
          · rw [decide_eq_false z, decide_eq_false (by omega)]
      · have hi' : i < us.length := by
          have := (List.getElem?_eq_some_iff.mp hi).1
          rw [List.length_map] at this
          omega
        refine ev_is (ev_op (ev_var rfl) (ev_var rfl) (rv_ixLn (sq_of (x5 _ _ hp3)) (List.getElem?_eq_getElem hi'))) ?_
        rw [List.getD_eq_getElem?_getD, List.getElem?_eq_getElem hi']
        rfl
    -- the choices with the least bound
    let ks := (List.range (chs ms).length).filter fun k => decide (boundL t ms ((chs ms).getD k []) = Mo t (Vbecaf.setOf ms))
    have hkl : ∀ k ∈ ks, k < (chs ms).length := fun k hk => List.mem_range.mp (List.mem_filter.mp hk).1
    have htl : ks.length ≤ 256 := by
      have := List.length_filter_le (fun k => decide (boundL t ms ((chs ms).getD k []) = Mo t (Vbecaf.setOf ms))) (List.range (chs ms).length)
      rw [List.length_range] at this
      exact Nat.le_trans this h8
    have hT : All2 (fun c v H => Row (c.map enN) v H) (ks.map fun k => (chs ms).getD k []) (ks.map fun k => us.getD k .non) H4 := by
      refine ⟨by rw [List.length_map, List.length_map], fun i x v h1 h2 => ?_⟩
      rw [List.getElem?_map] at h1 h2
      cases hk : ks[i]? with
      | none => rw [hk] at h1; cases h1
      | some k =>
        rw [hk] at h1 h2
        cases h1
        cases h2
        have hk' := hkl k (List.mem_of_getElem? hk)
        have hk2 : k < us.length := by omega
        refine row_mono _ _ _ _ x4 (hus3.2 k _ _ ?_ ?_)
        · show _ = some ((chs ms).getD k [])
          rw [List.getD_eq_getElem?_getD, List.getElem?_eq_getElem hk']; rfl
        · show _ = some (us.getD k .non)
          rw [List.getD_eq_getElem?_getD, List.getElem?_eq_getElem hk2]; rfl
    have et : ∀ x, ((ks.map fun k => (chs ms).getD k []).any fun c => c.contains x) = (tight t ms).any fun c => c.contains x := fun x => by
      rw [Bool.eq_iff_iff, List.any_eq_true, List.any_eq_true]
      unfold tight
      constructor
      · rintro ⟨c, hc, hx⟩
        obtain ⟨k, hk, rfl⟩ := List.mem_map.mp hc
        obtain ⟨k1, k2⟩ := List.mem_filter.mp hk
        have hk' := List.mem_range.mp k1
        refine ⟨_, List.mem_filter.mpr ⟨?_, k2⟩, hx⟩
        rw [List.getD_eq_getElem?_getD, List.getElem?_eq_getElem hk']
        exact List.getElem_mem hk'
      · rintro ⟨c, hc, hx⟩
        obtain ⟨c1, c2⟩ := List.mem_filter.mp hc
        obtain ⟨k, hk⟩ := List.mem_iff_getElem?.mp c1
        have e : (chs ms).getD k [] = c := by rw [List.getD_eq_getElem?_getD, hk]; rfl
        refine ⟨c, List.mem_map.mpr ⟨k, List.mem_filter.mpr ⟨List.mem_range.mpr (List.getElem?_eq_some_iff.mp hk).1, ?_⟩, e⟩, hx⟩
        rw [e]
        exact c2
    have y4 := y3.trans x4
    rw [← binding_list hu hl] at q
    refine s_retL ?_ fun b5 H5 n5 x5 h5 => q b5 H5 (fresh_back y4 n5) (y4.trans x5) h5
    refine el_comp (en := enN) (fun x => (tight t ms).any fun c => c.contains x) enN (ev_var rfl) (sq_of (y4 _ _ hm)) (by have := hM.len; omega) (fun _ => rfl) (fun x H5 x5 _ => ?_) (fun x H5 x5 _ _ => ev_var rfl)
    rw [← et x]
    have ea : ∀ L : List (List Nat), (L.any fun c => c.contains x) = (L.map fun c => c.contains x).any id := fun L => by
      rw [List.any_map]
      rfl
    rw [ea]
    refine et_B (ev_any ?_)
    rw [List.map_map]
    refine el_lcD (l := ks.map fun k => (chs ms).getD k []) (R := fun c v H => Row (c.map enN) v H) (ed_var rfl fun H6 e6 => ⟨r, _, rfl, (x5.trans e6) _ _ hr, hT.mono rowN_mono (x5.trans e6)⟩) (by rw [List.length_map]; omega) (fun _ => rfl) fun c v H6 e6 hc hv => ?_
    obtain ⟨rc, rfl, hrc⟩ := hv
    refine ev_is (ev_op (ev_var rfl) (ev_var rfl) (rv_isL (sq_of hrc) rfl (flat_enN c))) ?_
    rw [inV_enN]
    rfl
end
end Tbl
set_option Elab.async false
set_option linter.all false
set_option maxRecDepth 100000
set_option maxHeartbeats 2000000
namespace Tbl
open PySem PySem.Spec PyProof.Rows L2 Evl
section
variable {P : Program} {w : World} {K : PySem.W.Frag} {mg : Str → Option Value} {base : Heap}
def sp_mosts_of_sets (T : Txt K mg) : Sp := PL (fun d : Addr × Vbecaf.Table => [.ref d.1]) (fun d H => (∃ S, StAt T d.2 d.1 S H) ∧ WfT d.2) fun d => (Vbecaf.mosts d.2).map enN
theorem mosts_len (t : Vbecaf.Table) : (Vbecaf.mosts t).length = 2 ^ Vbecaf.mouths t := by
  unfold Vbecaf.mosts
  rw [List.length_map, List.length_range]
theorem two8 {n : Nat} (h : n ≤ 8) : 2 ^ n ≤ 256 := Nat.le_trans (Nat.pow_le_pow_right (by decide) h) (by decide)
theorem ok_mosts_of_sets (T : Txt K mg) : FnOk P w K mg base CX0 3 T.a_mosts_of_sets T.fd_mosts_of_sets P_mosts_of_sets (sp_mosts_of_sets T) := by
  refine T.F_mosts_of_sets.ok sc_mosts_of_sets (fun vs H Q E h => ?_) (fun cdv A outer s H vs Q E hr h => ⟨_, (pss_cons (ps_set (i := 1) sc_mosts_of_sets.nd rfl (.inr rfl) (pe_lst pa_nil))
      (pss_cons (ps_for PassesOwn.never rfl (pi_enum (by rfl) T.n_enumerate (pa_cons (pe_call (ok_every_set T) (hr.mono (by decide)) (by rfl) T.g_every_set T.F_every_set.kp T.b_every_set .nil pass0 (pa_cons (pe_callB call_len_seq (by rfl) T.n_len PySem.boot_len (pa_cons (pe_fld (pv 0) rfl) pa_nil)) pa_nil)) pa_nil)) (pg_tup rfl (pgs_cons (pg_name (i := 2) sc_mosts_of_sets.nd rfl (.inr rfl)) (pgs_cons (pg_name (i := 3) sc_mosts_of_sets.nd rfl (.inl rfl)) pgs_nil)))
      (pss_cons (ps_setLc (i := 4) (own := [("mouth", 5)]) (g := gName 5) (tt := tYes) (te := (tOp _ (tOp (rIxL K) _ _) (tOp (rIxL K) (tFld K _ "appetites") _))) rfl sc_mosts_of_sets.nd rfl rfl (sw_true rfl rfl rfl (by decide +kernel)) (pi_list (pv 3)) (blkOk_by (own := [("mouth", 5)]) (N := N_mosts_of_sets) (sc := defScope s_mosts_of_sets) (by decide +kernel)) (fun _ _ _ _ _ => (pg_name (i := 5) sc_mosts_of_sets.nd rfl (.inl rfl))) (fun _ _ _ _ _ => pts_nil) (fun _ _ _ _ _ => (pe_op op_add (pe_ix ix_list (pv 1) (pe_op op_sub (pv 2) (pe_op op_shl pe_int (pv 5))) (fun _ _ => rfl)) (pe_ix ix_list (pe_fld (pv 0) rfl) (pv 5) (fun _ _ => rfl)))))
      (pss_one (ps_expr (pe_bm PySem.F.plainAttrs_list PySem.F.slot_list_append PySem.F.type_list_append mt_append (pv 1) (pa_cons (pe_callB (cr_min rfl) (by rfl) T.n_min (by decide +kernel) (pa_cons (pe_op op_cat (pe_lst (pa_cons (pe_call (ok_reached_food T) (hr.mono (by decide)) (by rfl) T.g_reached_food T.F_reached_food.kp T.b_reached_food .nil pass0 (pa_cons (pv 0) (pa_cons (pv 3) pa_nil))) pa_nil)) (pv 4)) pa_nil)) pa_nil))))))
      (pss_one (ps_ret (pv 1))))), ?_⟩)
  · obtain ⟨d, rfl, _⟩ := h
    rfl
  · obtain ⟨⟨s, t⟩, rfl, ⟨hSt, wf⟩, q⟩ := h
    dsimp only at hSt wf q
    obtain ⟨S, dx, f, ap, r, rs, hA, _⟩ := id hSt
    have h8 : Vbecaf.mouths t ≤ 8 := wf.a8
    have h256 := two8 h8
    refine q_asgL (xs := []) (el_lst ea_nil (by decide)) fun b H1 nb x1 hb => ?_
    refine q_forE (l := (chs (List.range (Vbecaf.mouths t))).map fun c => c.map enN) (R := FRow H1) (ed_pdh (args := fun d : Nat => [.int (d : Int)]) (Vbecaf.mouths t) (ea_cons (ev_lenM (ev_fld (ev_var rfl) (hA.ex x1).ob T.c_State T.n_State_appetites stF_app) (sq_of (hA.ex x1).app)) ea_nil) (fun _ _ => h8) fun H2 v H3 e2 _ h => ?_)
      (fun p us i σ' H' => Ex H H' ∧ (∃ y2 y3 y4, σ' = [some (.ref s), some (.ref b), y2, y3, y4, none]) ∧ p ≠ b ∧ H' b = some (.lst (((List.range i).map (Mo t)).map enN)) ∧ H' p = some (.lst us) ∧ All2 (FRow H1) ((chs (List.range (Vbecaf.mouths t))).map fun c => c.map enN) us H') ?_ ?_ ?_ ?_
    · obtain ⟨p, us, ev, _, hp, hus⟩ := h.back e2
      exact ⟨p, us, ev, hp, hus⟩
    · intro p us H2 e2 hp hus
      refine ⟨x1.trans e2, ⟨none, none, none, rfl⟩, ?_, e2 _ _ hb, hp, hus⟩
      rintro rfl
      have h0 := e2 _ _ hb
      rw [hp] at h0
      cases h0
      have := hus.1
      rw [List.length_map, chs_len, List.length_range] at this
      have := Nat.two_pow_pos (Vbecaf.mouths t)
      rw [List.length_nil] at *
      omega
    · rintro p us i σ' H' _ ⟨_, _, _, _, hp, _⟩
      exact sq_of hp
    · rintro p us i x σ' H' TT hx ⟨e, ⟨y2, y3, y4, rfl⟩, hpb, hb', hp, hus⟩ nT
      have hiu : i < us.length := (List.getElem?_eq_some_iff.mp hx).1
      have hlen := hus.1
      rw [List.length_map, chs_len, List.length_range] at hlen
      have hi : i < 2 ^ Vbecaf.mouths t := by omega
      have hrow : ((chs (List.range (Vbecaf.mouths t))).map fun c => c.map enN)[i]? = some ((Vbecaf.members t i).map enN) := by
        rw [chs_members, List.map_map, List.getElem?_map, List.getElem?_range hi]
        rfl
      obtain ⟨m, rfl, nm, hm⟩ := hus.2 i _ x hrow hx
      have hmb : m ≠ b := (ne_of_none hb nm).symm
      have eT : Ex H' (upd H' TT (.tup [.int (i : Int), .ref m])) := Ex.new nT
      have e1 := e.trans eT
      have hm1 := eT _ _ hm
      have hMs : MouthsAt T s m t (Vbecaf.members t i) (upd H' TT (.tup [.int (i : Int), .ref m])) := ⟨hSt.imp fun S h => h.ex e1, wf, hm1, members_up t i, fun j hj => (mem_members.mp hj).1⟩
      have hml : (Vbecaf.members t i).length ≤ 8 := hMs.len
      refine q_asgL (xs := (Vbecaf.members t i).map fun j => enN (Mo t (i - 2 ^ j) + Vbecaf.at_ t.appetites j)) ?_ fun c H2 nc x2 hc => ?_
      · refine el_compAll (en := enN) _ (ev_var rfl) (sq_of hm1) (by omega) (fun _ => rfl) fun j H2 e2 hj => ?_
        obtain ⟨hj1, hj2⟩ := mem_members.mp hj
        have hlt := minus_lt hj2
        have hp2 : 2 ^ j ≤ i := by
          have := Nat.ge_two_pow_of_testBit hj2
          omega
        have hgb : (((List.range i).map (Mo t)).map enN)[i - 2 ^ j]? = some (enN (Mo t (i - 2 ^ j))) := by
          rw [List.getElem?_map, get_range hlt]
          rfl
        have e3 : ((i : Int) - 1 * 2 ^ ((j : Int)).toNat) = ((i - 2 ^ j : Nat) : Int) := by
          rw [shl_nat, Int.natCast_sub hp2]
        refine ev_is (ev_op (ev_op (ev_var rfl) (ev_is (ev_op (ev_var rfl) (ev_op ev_c (ev_var rfl) (rv_I ⟨by omega, by omega, by decide⟩)) rv_I0) (by rw [e3])) (rv_ixLn (sq_of (e2 _ _ (eT _ _ hb'))) hgb)) (ev_op (ev_fld (ev_var rfl) (hA.ex (e1.trans e2)).ob T.c_State T.n_State_appetites stF_app) (ev_var rfl) (rv_ixLn (sq_of (hA.ex (e1.trans e2)).app) (get_at (l := t.appetites) hj1))) rv_I0) ?_
        show V.int _ = V.int _
        congr 1
      · have em : (V.int ((foodL t (Vbecaf.members t i) : Nat) : Int)) :: ((Vbecaf.members t i).map fun j => enN (Mo t (i - 2 ^ j) + Vbecaf.at_ t.appetites j)) = ([((foodL t (Vbecaf.members t i) : Nat) : Int)] ++ (Vbecaf.members t i).map fun j => ((Mo t (i - 2 ^ j) + Vbecaf.at_ t.appetites j : Nat) : Int)).map V.int := by
          rw [List.map_append, List.map_map]
          rfl
        have y2' := e1.trans x2
        refine s_app (x2 _ _ (eT _ _ hb')) (ev_var rfl) (ev_minS (es_new (h := ?_)) (by rw [List.length_append]; show 0 < 1 + _; omega) fun k h1 h2 => mo_least hi h1 h2) (by rw [List.length_map, List.length_map, List.length_range]; omega) fun H3 x3 => ?_
        · rw [← em]
          show EvL _ _ _ ([V.int _] ++ _)
          refine el_cat (es_new (el_lst (ea_cons (ev_pv (s, m, t, Vbecaf.members t i) (ea_cons (ev_var rfl) (ea_cons (ev_var rfl) ea_nil)) fun H3 x3 => hMs.ex (x2.trans x3)) ea_nil) (by show 1 ≤ 100000; decide))) (es_of (ev_var rfl) hc) ?_
          rw [List.length_map]
          show 1 + _ ≤ _
          omega
        · refine ⟨(y2'.trans x3).mut nb, ⟨_, _, _, rfl⟩, hpb, ?_, ?_, ?_⟩
          · rw [upd_same, List.range_succ, List.map_append, List.map_append]
            rfl
          · rw [upd_ne hpb]
            exact (x2.trans x3) _ _ (eT _ _ hp)
          · refine hus.imp fun xs v ⟨q, a1, a2, a3⟩ => ⟨q, a1, a2, ?_⟩
            rw [upd_ne (ne_of_none hb a2).symm]
            exact (x2.trans x3) _ _ (eT _ _ a3)
    · rintro p us σ' H' ⟨e, ⟨y2, y3, y4, rfl⟩, hpb, hb', hp, hus⟩
      have hlen := hus.1
      rw [List.length_map, chs_len, List.length_range] at hlen
      rw [← hlen] at hb'
      exact s_ret (ev_var rfl) fun H2 e2 => q b _ nb (e.trans e2) (e2 _ _ hb')
end
end Tbl
set_option Elab.async false
set_option linter.all false
set_option maxRecDepth 100000
set_option maxHeartbeats 2000000
namespace Tbl
open PySem PySem.Spec PyProof.Rows L2 Evl
section
variable {P : Program} {w : World} {K : PySem.W.Frag} {mg : Str → Option Value} {base : Heap}
def sp_common_part (T : Txt K mg) : Sp := PV (fun d : Nat × Nat => [.int (d.1 : Int), .int (d.2 : Int)]) (fun _ _ => True) fun d => .int ((Nat.gcd d.1 d.2 : Nat) : Int)
theorem ok_common_part (T : Txt K mg) : FnOk P w K mg base CX0 1 T.a_common_part T.fd_common_part P_common_part (sp_common_part T) := by
  refine T.F_common_part.ok sc_common_part (fun vs H Q E h => ?_) (fun cdv A outer s H vs Q E hr h => ⟨_, (pss_cons (ps_while PassesOwn.never (pt_cmpR op_ne (pv 1) pe_int (nomark _))
      (pss_cons (ps_set (i := 2) sc_common_part.nd rfl (.inl rfl) (pe_op op_modN (pv 0) (pv 1)))
      (pss_cons (ps_set (i := 0) sc_common_part.nd rfl (.inl rfl) (pv 1))
      (pss_one (ps_set (i := 1) sc_common_part.nd rfl (.inl rfl) (pv 2))))))
      (pss_one (ps_ret (pv 0)))), ?_⟩)
  · obtain ⟨d, rfl, _⟩ := h
    rfl
  · obtain ⟨⟨a, b⟩, rfl, _, q⟩ := h
    dsimp only at q
    refine q_while (fun m σ' H' => Ex H H' ∧ ∃ a' y, σ' = [some (.int ((a' : Nat) : Int)), some (.int (m : Int)), y] ∧ Nat.gcd a' m = Nat.gcd a b) b ⟨Ex.refl H, a, none, rfl, rfl⟩ ?_
    rintro m σ' H' ⟨e, a', y, rfl, hg⟩
    refine ⟨!decide ((m : Int) = 0), et_is (et_test (ev_op (ev_var rfl) ev_c (rv_ne rfl))) (by rw [eq_int]), fun hb H1 e1 => ?_, fun hb H1 e1 => ?_⟩
    · have hm : (m : Int) ≠ 0 := of_decide_eq_false (not_t hb)
      have hm' : 0 < m := by omega
      refine ⟨fun σ2 H2 => Ex H H2 ∧ ∃ y, σ2 = [some (.int ((m : Nat) : Int)), some (.int ((a' % m : Nat) : Int)), y], fun σ2 H2 ⟨e2, y2, es⟩ => ⟨a' % m, Nat.mod_lt _ hm', e2, m, y2, es, by rw [← hg, ← gcd_step]⟩, ?_⟩
      refine q_asg (ev_is (ev_op (ev_var rfl) (ev_var rfl) (rv_I hm)) (by rw [fmod_nat])) fun H2 e2 => ?_
      refine q_asg (ev_var rfl) fun H3 e3 => ?_
      refine s_asg (ev_var rfl) fun H4 e4 => ⟨(((e.trans e1).trans e2).trans e3).trans e4, _, rfl⟩
    · have hm : (m : Int) = 0 := of_decide_eq_true (not_f hb)
      have hm' : m = 0 := by omega
      subst hm'
      rw [Nat.gcd_zero_right] at hg
      refine s_ret (ev_var rfl) fun H2 e2 => ?_
      rw [← hg] at q
      exact q H2 ((e.trans e1).trans e2)
def sp_comes_ahead (T : Txt K mg) : Sp := PV (fun d : Nat × Nat × Nat × Nat => [.int (d.1 : Int), .int (d.2.1 : Int), .int (d.2.2.1 : Int), .int (d.2.2.2 : Int)]) (fun d _ => d.2.1 ≤ 256 ∧ d.2.2.2 ≤ 256) fun d => .bl (aheadN d.1 d.2.1 d.2.2.1 d.2.2.2)
theorem ok_comes_ahead (T : Txt K mg) : FnOk P w K mg base CX0 1 T.a_comes_ahead T.fd_comes_ahead P_comes_ahead (sp_comes_ahead T) := by
  refine T.F_comes_ahead.ok sc_comes_ahead (fun vs H Q E h => ?_) (fun cdv A outer s H vs Q E hr h => ⟨_, (pss_cons (ps_set (i := 4) sc_comes_ahead.nd rfl (.inl rfl) (pe_op op_mul (pv 0) (pv 3)))
      (pss_cons (ps_set (i := 5) sc_comes_ahead.nd rfl (.inl rfl) (pe_op op_mul (pv 2) (pv 1)))
      (pss_one (ps_ret (pe_or (pe_cmpR op_lt (pv 4) (pv 5) (nomark _)) (pe_one (pe_and (pe_cmpR op_eq (pv 4) (pv 5) (nomark _)) (pe_one (pe_cmpR op_gt (pv 1) (pv 3) (nomark _)))))))))), ?_⟩)
  · obtain ⟨d, rfl, _⟩ := h
    rfl
  · obtain ⟨⟨a, c, b, d⟩, rfl, ⟨hc, hd⟩, q⟩ := h
    dsimp only at hc hd q
    have m1 : CMul (a : Int) (d : Int) := .inr ⟨by omega, by omega⟩
    have m2 : CMul (b : Int) (c : Int) := .inr ⟨by omega, by omega⟩
    refine q_asg (v := .int ((a * d : Nat) : Int)) (ev_is (ev_op (ev_var rfl) (ev_var rfl) (rv_I m1)) (by rw [Int.natCast_mul])) fun H1 e1 => ?_
    refine q_asg (v := .int ((b * c : Nat) : Int)) (ev_is (ev_op (ev_var rfl) (ev_var rfl) (rv_I m2)) (by rw [Int.natCast_mul])) fun H2 e2 => ?_
    refine s_ret (ev_is (ev_orV (ev_op (ev_var rfl) (ev_var rfl) rv_I0) fun _ => ev_andV (ev_is (ev_op (ev_var rfl) (ev_var rfl) (rv_eq rfl)) (by rw [eq_int])) fun _ => ev_op (ev_var rfl) (ev_var rfl) rv_I0) ?_) fun H3 e3 => q H3 ((e1.trans e2).trans e3)
    unfold aheadN
    congr 1
    rw [Bool.eq_iff_iff]
    simp only [Bool.or_eq_true, Bool.and_eq_true, decide_eq_true_eq]
    omega
def lvF (a b : Int) (m : Addr) : List (Str × V) := [("above", .int a), ("below", .int b), ("mouths", .ref m)]
theorem lvF_above {a b : Int} {m : Addr} : (lvF a b m).lookup ("above" : Str) = some (.int a) := lk_here
theorem lvF_below {a b : Int} {m : Addr} : (lvF a b m).lookup ("below" : Str) = some (.int b) := (lk_past (by decide +kernel)).trans lk_here
theorem lvF_mouths {a b : Int} {m : Addr} : (lvF a b m).lookup ("mouths" : Str) = some (.ref m) := (lk_past (by decide +kernel)).trans ((lk_past (by decide +kernel)).trans lk_here)
def sp_Level___init__ (T : Txt K mg) : Sp := PH (fun d : Addr × Addr × Int × Int × Addr => [.ref d.1, .int d.2.2.1, .int d.2.2.2.1, .ref d.2.2.2.2]) (fun d H => H d.1 = some (.ins T.C_Level d.2.1 [])) fun d H v H' => v = .non ∧ H' d.1 = some (.ins T.C_Level d.2.1 (lvF d.2.2.1 d.2.2.2.1 d.2.2.2.2)) ∧ Fr (· = d.1) H H'
theorem ok_Level___init__ (T : Txt K mg) : FnOk P w K mg base CX0 1 T.a_Level___init__ T.fd_Level___init__ P_Level___init__ (sp_Level___init__ T) := by
  refine T.F_Level___init__.ok sc_Level___init__ (fun vs H Q E h => ?_) (fun cdv A outer s H vs Q E hr h => ⟨_, (pss_cons (ps_fld (pv 0) (pv 1) rfl)
      (pss_cons (ps_fld (pv 0) (pv 2) rfl)
      (pss_one (ps_fld (pv 0) (pv 3) rfl)))), ?_⟩)
  · obtain ⟨d, rfl, _⟩ := h
    rfl
  · obtain ⟨⟨o, dx, a, b, m⟩, rfl, ho, q⟩ := h
    dsimp only at ho q
    refine q_fld (ev_var rfl) (ev_var rfl) ho T.c_Level T.n_Level_above (by show 0 < 1000; decide) fun H1 e1 => ?_
    refine q_fld (ev_var rfl) (ev_var rfl) upd_same T.c_Level T.n_Level_below (by show 1 < 1000; decide) fun H2 e2 => ?_
    have hp2 : putF "below" (V.int b) (putF "above" (.int a) []) = ([("above", .int a), ("below", .int b)] : List (Str × V)) := (put_past (by decide +kernel)).trans rfl
    refine s_fld (ev_var rfl) (ev_var rfl) upd_same T.c_Level T.n_Level_mouths (by rw [hp2]; show 2 < 1000; decide) fun H3 e3 => ?_
    have hp3 : putF "mouths" (V.ref m) (putF "below" (V.int b) (putF "above" (.int a) [])) = lvF a b m := by
      rw [hp2]
      exact (put_past (by decide +kernel)).trans (congrArg _ ((put_past (by decide +kernel)).trans rfl))
    rw [hp3]
    exact q .non _ ⟨rfl, upd_same, (((((e1.fr).trans fr_one).trans e2.fr).trans fr_one).trans e3.fr).trans fr_one⟩
end
end Tbl
set_option Elab.async false
set_option linter.all false
set_option maxRecDepth 100000
set_option maxHeartbeats 2000000
namespace Tbl
open PySem PySem.Spec PyProof.Rows L2 Evl
section
variable {P : Program} {w : World} {K : PySem.W.Frag} {mg : Str → Option Value} {base : Heap}
def sp_level_of (T : Txt K mg) : Sp := PDH (fun d : Nat × Addr × List Nat => [.int (d.1 : Int), .ref d.2.1]) (fun d H => H d.2.1 = some (.lst (d.2.2.map enN)) ∧ 0 < d.2.2.length ∧ d.2.2.length ≤ 8)
  fun d H v H2 => ∃ o dx, v = .ref o ∧ H o = none ∧ H2 o = some (.ins T.C_Level dx (lvF ((Vbecaf.lowest { num := d.1, den := d.2.2.length }).num : Int) ((Vbecaf.lowest { num := d.1, den := d.2.2.length }).den : Int) d.2.1))
theorem ok_level_of (T : Txt K mg) : FnOk P w K mg base CX0 3 T.a_level_of T.fd_level_of P_level_of (sp_level_of T) := by
  refine T.F_level_of.ok sc_level_of (fun vs H Q E h => ?_) (fun cdv A outer s H vs Q E hr h => ⟨_, (pss_cons (ps_set (i := 2) sc_level_of.nd rfl (.inl rfl) (pe_call (ok_common_part T) (hr.mono (by decide)) (by rfl) T.g_common_part T.F_common_part.kp T.b_common_part .nil pass0 (pa_cons (pv 0) (pa_cons (pe_callB call_len_seq (by rfl) T.n_len PySem.boot_len (pa_cons (pv 1) pa_nil)) pa_nil))))
      (pss_one (ps_ret (pe_make T.m_Level (ok_Level___init__ T) (hr.mono (by decide)) (by rfl) T.g_Level T.b_Level___init__ .nil pass0 (pa_cons (pe_op op_fdivN (pv 0) (pv 2)) (pa_cons (pe_op op_fdivN (pe_callB call_len_seq (by rfl) T.n_len PySem.boot_len (pa_cons (pv 1) pa_nil)) (pv 2)) (pa_cons (pv 1) pa_nil))))))), ?_⟩)
  · obtain ⟨d, rfl, _⟩ := h
    rfl
  · obtain ⟨⟨n, m, ms⟩, rfl, ⟨hm, h0, h8⟩, q⟩ := h
    dsimp only at hm h0 h8 q
    have hg : 0 < Nat.gcd n ms.length := Nat.gcd_pos_of_pos_right _ h0
    have hg8 : Nat.gcd n ms.length ≤ 8 := Nat.le_trans (Nat.gcd_le_right _ h0) h8
    have hlow := lowest_pos (a := n) h0
    refine q_asg (v := .int ((Nat.gcd n ms.length : Nat) : Int)) (ev_pv (n, ms.length) (ea_cons (ev_var rfl) (ea_cons (ev_lenM (en := enN) (ev_var rfl) (sq_of hm)) ea_nil)) fun _ _ => trivial) fun H1 e1 => ?_
    have hdv : CDivN (n : Int) ((Nat.gcd n ms.length : Nat) : Int) := ⟨by omega, by omega⟩
    have hdv2 : CDivN (ms.length : Int) ((Nat.gcd n ms.length : Nat) : Int) := ⟨by omega, by omega⟩
    refine g_ret (go_make (fun x dx => (x, dx, ((n / Nat.gcd n ms.length : Nat) : Int), ((ms.length / Nat.gcd n ms.length : Nat) : Int), m)) (ea_cons (ev_is (ev_op (ev_var rfl) (ev_var rfl) (rv_I hdv)) (by rw [fdiv_nat])) (ea_cons (ev_is (ev_op (ev_lenM (en := enN) (ev_var rfl) (sq_of (e1 _ _ hm))) (ev_var rfl) (rv_I hdv2)) (by rw [fdiv_nat])) (ea_cons (ev_var rfl) ea_nil))) (fun _ _ => rfl) (fun H1 x dx _ _ _ _ => upd_same) (fun H1 x dx v H2 h => h.1)) fun v H2 hv => ?_
    obtain ⟨H3, x, dx, e3, nx, nd, nxd, rfl, _, ho, fr⟩ := hv
    dsimp only at ho fr
    have y3 := e1.trans e3
    have ex : Ex H H2 := fun b o hb => by
      have hb1 := y3 b o hb
      have hbs : b ≠ x := ne_of_none hb1 nx
      have hbd : b ≠ dx := ne_of_none hb1 nd
      refine fr b o ?_ hbs
      rw [upd_ne hbs, upd_ne hbd]
      exact hb1
    refine q _ H2 ex ⟨x, dx, rfl, fresh_back y3 nx, ?_⟩
    rw [hlow]
    exact ho
def countsOf (t : Vbecaf.Table) : List Nat := (List.range (2 ^ Vbecaf.mouths t)).map fun s => (Vbecaf.members t s).length
theorem at_counts {t : Vbecaf.Table} {s : Nat} (h : s < 2 ^ Vbecaf.mouths t) : Vbecaf.at_ (countsOf t) s = (Vbecaf.members t s).length := at_range h
theorem at_mo {t : Vbecaf.Table} {s : Nat} (h : s < 2 ^ Vbecaf.mouths t) : Vbecaf.at_ (Vbecaf.mosts t) s = Mo t s := at_range h
theorem mo_get {t : Vbecaf.Table} {s : Nat} (h : s < 2 ^ Vbecaf.mouths t) : ((Vbecaf.mosts t).map enN)[s]? = some (.int ((Mo t s : Nat) : Int)) := by
  rw [← at_mo h]
  exact get_at (by rw [mosts_len]; exact h)
theorem counts_get {t : Vbecaf.Table} {s : Nat} (h : s < 2 ^ Vbecaf.mouths t) : ((countsOf t).map enN)[s]? = some (.int (((Vbecaf.members t s).length : Nat) : Int)) := by
  rw [← at_counts h]
  exact get_at (by unfold countsOf; rw [List.length_map, List.length_range]; exact h)
theorem beh_iff {t : Vbecaf.Table} {D i : Nat} (hi : i < 2 ^ Vbecaf.mouths t) : Beh t D i ↔ (i ≠ D ∧ i &&& D = D) := by
  constructor
  · rintro ⟨_, h2, h3⟩
    refine ⟨h3, ?_⟩
    apply Nat.eq_of_testBit_eq
    intro j
    rw [Nat.testBit_and]
    cases e : D.testBit j with
    | true => rw [h2 j e]; rfl
    | false => simp
  · rintro ⟨h1, h2⟩
    refine ⟨hi, fun j hj => ?_, h1⟩
    rw [← h2, Nat.testBit_and, Bool.and_eq_true] at hj
    exact hj.1
theorem beh_all {t : Vbecaf.Table} {D : Nat} (hD : D < 2 ^ Vbecaf.mouths t) (hne : D ≠ Vbecaf.everyone t) : Beh t D (Vbecaf.everyone t) := ⟨everyone_lt t, fun i hi => by rw [bit_everyone, decide_eq_true_eq]; exact bit_lt hD hi, fun e => hne e.symm⟩
theorem am_int {t : Vbecaf.Table} {D s : Nat} (h : Beh t D s) : ((Mo t s : Nat) : Int) - ((Mo t D : Nat) : Int) = ((am t D s : Nat) : Int) := by
  have := mo_mono (t := t) h.1 h.2.1
  unfold am
  omega
theorem cn_int {t : Vbecaf.Table} {D s : Nat} (h : Beh t D s) : (((Vbecaf.members t s).length : Nat) : Int) - (((Vbecaf.members t D).length : Nat) : Int) = ((cn t D s : Nat) : Int) := by
  have := cn_pos h
  unfold cn at *
  omega
theorem cn8 {t : Vbecaf.Table} {D : Nat} (h8 : Vbecaf.mouths t ≤ 8) (s : Nat) : cn t D s ≤ 256 := by
  have := up_len (members_up t s) _ fun i hi => (mem_members.mp hi).1
  unfold cn
  omega
def sp_done_behind (T : Txt K mg) : Sp := PD (fun d : Addr × Addr × Vbecaf.Table × Nat => [.ref d.1, .ref d.2.1, .int (d.2.2.2 : Int)]) (fun d H => H d.1 = some (.lst ((Vbecaf.mosts d.2.2.1).map enN)) ∧ H d.2.1 = some (.lst ((countsOf d.2.2.1).map enN)) ∧ d.2.2.2 < 2 ^ Vbecaf.mouths d.2.2.1 ∧ d.2.2.2 ≠ Vbecaf.everyone d.2.2.1 ∧ Vbecaf.mouths d.2.2.1 ≤ 8)
  fun d v _ => ∃ b : Nat, v = .int (b : Int) ∧ BestOf d.2.2.1 d.2.2.2 b fun _ => True
theorem ok_done_behind (T : Txt K mg) : FnOk P w K mg base CX0 2 T.a_done_behind T.fd_done_behind P_done_behind (sp_done_behind T) := by
  refine T.F_done_behind.ok sc_done_behind (fun vs H Q E h => ?_) (fun cdv A outer s H vs Q E hr h => ⟨_, (pss_cons (ps_set (i := 3) sc_done_behind.nd rfl (.inl rfl) (pe_op op_sub (pe_callB call_len_seq (by rfl) T.n_len PySem.boot_len (pa_cons (pv 0) pa_nil)) pe_int))
      (pss_cons (ps_for PassesOwn.never rfl (pi_range1 (by rfl) T.n_range (pa_cons (pe_callB call_len_seq (by rfl) T.n_len PySem.boot_len (pa_cons (pv 0) pa_nil)) pa_nil)) (pg_name (i := 4) sc_done_behind.nd rfl (.inl rfl))
      (pss_one (ps_if (PW.pt (pw_and (pt_cmpR op_ne (pv 4) (pv 2) (nomark _)) (pw_and1 (pt_cmpR op_eq (pe_op op_and (pv 4) (pv 2)) (pv 2) (nomark _)))))
      (pss_cons (ps_set (i := 5) sc_done_behind.nd rfl (.inl rfl) (pe_op op_sub (pe_ix ix_list (pv 0) (pv 4) (fun _ _ => rfl)) (pe_ix ix_list (pv 0) (pv 2) (fun _ _ => rfl))))
      (pss_cons (ps_set (i := 6) sc_done_behind.nd rfl (.inl rfl) (pe_op op_sub (pe_ix ix_list (pv 0) (pv 3) (fun _ _ => rfl)) (pe_ix ix_list (pv 0) (pv 2) (fun _ _ => rfl))))
      (pss_one (ps_if (pt_val (pe_call (ok_comes_ahead T) (hr.mono (by decide)) (by rfl) T.g_comes_ahead T.F_comes_ahead.kp T.b_comes_ahead .nil pass0 (pa_cons (pv 5) (pa_cons (pe_op op_sub (pe_ix ix_list (pv 1) (pv 4) (fun _ _ => rfl)) (pe_ix ix_list (pv 1) (pv 2) (fun _ _ => rfl))) (pa_cons (pv 6) (pa_cons (pe_op op_sub (pe_ix ix_list (pv 1) (pv 3) (fun _ _ => rfl)) (pe_ix ix_list (pv 1) (pv 2) (fun _ _ => rfl))) pa_nil))))))
      (pss_one (ps_set (i := 3) sc_done_behind.nd rfl (.inl rfl) (pv 4)))
      pss_nil))))
      pss_nil)))
      (pss_one (ps_ret (pv 3))))), ?_⟩)
  · obtain ⟨d, rfl, _⟩ := h
    rfl
  · obtain ⟨⟨m, c, t, D⟩, rfl, ⟨hm, hc, hD, hne, h8⟩, q⟩ := h
    dsimp only at hm hc hD hne h8 q
    have h256 := two8 h8
    have hpow := Nat.two_pow_pos (Vbecaf.mouths t)
    have hlen : ((Vbecaf.mosts t).length : Int) - 1 = ((Vbecaf.everyone t : Nat) : Int) := by
      rw [mosts_len]
      unfold Vbecaf.everyone
      omega
    refine q_asg (v := .int ((Vbecaf.everyone t : Nat) : Int)) (ev_is (ev_op (ev_lenM (ev_var rfl) (sq_of hm)) ev_c rv_I0) (by rw [hlen])) fun H1 x1 => ?_
    refine q_forR1 (n := ((Vbecaf.mosts t).length : Int)) (ea_cons (ev_lenM (ev_var rfl) (sq_of (x1 _ _ hm))) ea_nil) (by rw [mosts_len]; omega) (fun i σ' H' => Ex H H' ∧ ∃ (b : Nat) (y4 y5 y6 : Option V), σ' = [some (.ref m), some (.ref c), some (.int (D : Int)), some (.int (b : Int)), y4, y5, y6] ∧ BestOf t D b fun s => s < i) ?_ ?_ ?_
    · exact fun H2 e2 => ⟨x1.trans e2, _, none, none, none, rfl, beh_all hD hne, fun s _ h => by omega⟩
    · rintro i σ' H' hi ⟨e, b, y4, y5, y6, rfl, hB⟩
      rw [mosts_len] at hi
      have hi' : i < 2 ^ Vbecaf.mouths t := by omega
      have hmi := mo_get (t := t) hi'
      have hmD := mo_get (t := t) hD
      have hmb := mo_get (t := t) hB.beh.1
      have hci := counts_get (t := t) hi'
      have hcD := counts_get (t := t) hD
      have hcb := counts_get (t := t) hB.beh.1
      refine s_when (b := !decide ((i : Int) = (D : Int)) && decide (((i &&& D : Nat) : Int) = (D : Int))) (et_and (et_is (et_test (ev_op (ev_var rfl) (ev_var rfl) (rv_ne rfl))) (by rw [eq_int])) fun _ => et_is (et_test (ev_op (ev_is (ev_op (ev_var rfl) (ev_var rfl) rv_I0) (by rw [band_nat])) (ev_var rfl) (rv_eq rfl))) (by rw [eq_int])) (fun hb H1 e1 => ?_) (fun hb H1 e1 => ?_)
      · have hBi : Beh t D i := (beh_iff hi').mpr (by
          rw [Bool.and_eq_true, Bool.not_eq_true', decide_eq_false_iff_not, decide_eq_true_eq] at hb
          exact ⟨fun z => hb.1 (by rw [z]), by have := hb.2; omega⟩)
        have k1 := e.trans e1
        refine q_asg (v := .int ((am t D i : Nat) : Int)) (ev_is (ev_op (ev_op (ev_var rfl) (ev_var rfl) (rv_ixLn (sq_of (k1 _ _ hm)) hmi)) (ev_op (ev_var rfl) (ev_var rfl) (rv_ixLn (sq_of (k1 _ _ hm)) hmD)) rv_I0) (by rw [am_int hBi])) fun H2 e2 => ?_
        have k2 := k1.trans e2
        refine q_asg (v := .int ((am t D b : Nat) : Int)) (ev_is (ev_op (ev_op (ev_var rfl) (ev_var rfl) (rv_ixLn (sq_of (k2 _ _ hm)) hmb)) (ev_op (ev_var rfl) (ev_var rfl) (rv_ixLn (sq_of (k2 _ _ hm)) hmD)) rv_I0) (by rw [am_int hB.beh])) fun H3 e3 => ?_
        have k3 := k2.trans e3
        refine s_when (b := aheadN (am t D i) (cn t D i) (am t D b) (cn t D b)) (et_B (ev_pv (am t D i, cn t D i, am t D b, cn t D b) (ea_cons (ev_var rfl) (ea_cons (ev_is (ev_op (ev_op (ev_var rfl) (ev_var rfl) (rv_ixLn (sq_of (k3 _ _ hc)) hci)) (ev_op (ev_var rfl) (ev_var rfl) (rv_ixLn (sq_of (k3 _ _ hc)) hcD)) rv_I0) (by rw [cn_int hBi])) (ea_cons (ev_var rfl) (ea_cons (ev_is (ev_op (ev_op (ev_var rfl) (ev_var rfl) (rv_ixLn (sq_of (k3 _ _ hc)) hcb)) (ev_op (ev_var rfl) (ev_var rfl) (rv_ixLn (sq_of (k3 _ _ hc)) hcD)) rv_I0) (by rw [cn_int hB.beh])) ea_nil)))) fun _ _ => ⟨cn8 h8 i, cn8 h8 b⟩)) (fun ha H4 e4 => ?_) (fun ha H4 e4 => ?_)
        · exact s_asg (ev_var rfl) fun H5 e5 => ⟨(k3.trans e4).trans e5, i, _, _, _, rfl, best_take hB ha hBi⟩
        · exact ⟨k3.trans e4, b, _, _, _, rfl, best_skip hB fun _ => ha⟩
      · refine ⟨e.trans e1, b, _, _, _, rfl, best_skip hB fun hBi => ?_⟩
        exfalso
        have := (beh_iff hi').mp hBi
        rw [Bool.and_eq_false_iff, Bool.not_eq_false', decide_eq_true_eq, decide_eq_false_iff_not] at hb
        rcases hb with hb | hb
        · exact this.1 (by omega)
        · exact hb (by rw [this.2])
    · rintro σ' H' ⟨e, b, y4, y5, y6, rfl, hB⟩
      refine s_ret (ev_var rfl) fun H2 e2 => q _ H2 (e.trans e2) ⟨b, rfl, hB.beh, fun s hs _ => hB.best s hs ?_⟩
      rw [mosts_len]
      have := hs.1
      omega
end
end Tbl
set_option Elab.async false
set_option linter.all false
set_option maxRecDepth 100000
set_option maxHeartbeats 2000000
namespace Tbl
open PySem PySem.Spec PyProof.Rows L2 Evl
section
variable {P : Program} {w : World} {K : PySem.W.Frag} {mg : Str → Option Value} {base : Heap}
/-- a level's object, made anew, its mouths made anew -/
def LvR (T : Txt K mg) (t : Vbecaf.Table) (H0 : Hp) (x : Vbecaf.Frac × Nat) (v : V) (H : Hp) : Prop := ∃ o dx m, v = .ref o ∧ H0 o = none ∧ H o = some (.ins T.C_Level dx (lvF (x.1.num : Int) (x.1.den : Int) m)) ∧ H0 m = none ∧ H m = some (.lst ((Vbecaf.members t x.2).map enN))
theorem LvR.back {T : Txt K mg} {t : Vbecaf.Table} {H0 H1 H : Hp} (e : Ex H0 H1) {x : Vbecaf.Frac × Nat} {v : V} (h : LvR T t H1 x v H) : LvR T t H0 x v H := by
  obtain ⟨o, dx, m, a, b, c, d, f⟩ := h
  exact ⟨o, dx, m, a, fresh_back e b, c, fresh_back e d, f⟩
def NLevels (T : Txt K mg) (t : Vbecaf.Table) (H0 : Hp) (v : V) (H : Hp) : Prop := ∃ p us, v = .ref p ∧ H0 p = none ∧ H p = some (.lst us) ∧ All2 (LvR T t H0) (Vbecaf.allLevels t) us H
theorem NLevels.back {T : Txt K mg} {t : Vbecaf.Table} {H0 H1 H : Hp} (e : Ex H0 H1) {v : V} (h : NLevels T t H1 v H) : NLevels T t H0 v H := by
  obtain ⟨p, us, a, b, c, d⟩ := h
  exact ⟨p, us, a, fresh_back e b, c, d.imp fun x v q => q.back e⟩
theorem minus_len {t : Vbecaf.Table} {D s : Nat} (h : Beh t D s) : (Vbecaf.members t (s - D)).length = cn t D s := by
  have := wt_join (n := Vbecaf.mouths t) (w := fun _ => 1) (minus_and h.1 h.2.1)
  rw [minus_or h.1 h.2.1] at this
  unfold cn
  rw [count_wt, count_wt, count_wt, this]
  omega
def sp_levels_of (T : Txt K mg) : Sp := PDH (fun d : Addr × Vbecaf.Table => [.ref d.1]) (fun d H => (∃ S, StAt T d.2 d.1 S H) ∧ WfT d.2) fun d H v H2 => NLevels T d.2 H v H2
theorem ok_levels_of (T : Txt K mg) : FnOk P w K mg base CX0 4 T.a_levels_of T.fd_levels_of P_levels_of (sp_levels_of T) := by
  refine T.F_levels_of.ok sc_levels_of (fun vs H Q E h => ?_) (fun cdv A outer s H vs Q E hr h => ⟨_, (pss_cons (ps_set (i := 1) sc_levels_of.nd rfl (.inl rfl) (pe_call (ok_every_set T) (hr.mono (by decide)) (by rfl) T.g_every_set T.F_every_set.kp T.b_every_set .nil pass0 (pa_cons (pe_callB call_len_seq (by rfl) T.n_len PySem.boot_len (pa_cons (pe_fld (pv 0) rfl) pa_nil)) pa_nil)))
      (pss_cons (ps_set (i := 2) sc_levels_of.nd rfl (.inl rfl) (pe_call (ok_mosts_of_sets T) (hr.mono (by decide)) (by rfl) T.g_mosts_of_sets T.F_mosts_of_sets.kp T.b_mosts_of_sets .nil pass0 (pa_cons (pv 0) pa_nil)))
      (pss_cons (ps_setLc (i := 3) (own := [("members", 7)]) (g := gName 7) (tt := tYes) (te := (tCB (rLenS K) (tCons _ tNil))) rfl sc_levels_of.nd rfl rfl (sw_true rfl rfl rfl (by decide +kernel)) (pi_list (pv 1)) (blkOk_by (own := [("members", 7)]) (N := N_levels_of) (sc := defScope s_levels_of) (by decide +kernel)) (fun _ _ _ _ _ => (pg_name (i := 7) sc_levels_of.nd rfl (.inl rfl))) (fun _ _ _ _ _ => pts_nil) (fun _ _ _ _ _ => (pe_callB call_len_seq (by rfl) T.n_len PySem.boot_len (pa_cons (pv 7) pa_nil))))
      (pss_cons (ps_set (i := 4) sc_levels_of.nd rfl (.inl rfl) (pe_lst pa_nil))
      (pss_cons (ps_set (i := 5) sc_levels_of.nd rfl (.inl rfl) pe_int)
      (pss_cons (ps_while PassesOwn.never (pt_cmpR op_ne (pv 5) (pe_op op_sub (pe_callB call_len_seq (by rfl) T.n_len PySem.boot_len (pa_cons (pv 1) pa_nil)) pe_int) (nomark _))
      (pss_cons (ps_set (i := 6) sc_levels_of.nd rfl (.inl rfl) (pe_call (ok_done_behind T) (hr.mono (by decide)) (by rfl) T.g_done_behind T.F_done_behind.kp T.b_done_behind .nil pass0 (pa_cons (pv 2) (pa_cons (pv 3) (pa_cons (pv 5) pa_nil)))))
      (pss_cons (ps_expr (pe_bm PySem.F.plainAttrs_list PySem.F.slot_list_append PySem.F.type_list_append mt_append (pv 4) (pa_cons (pe_call (ok_level_of T) (hr.mono (by decide)) (by rfl) T.g_level_of T.F_level_of.kp T.b_level_of .nil pass0 (pa_cons (pe_op op_sub (pe_ix ix_list (pv 2) (pv 6) (fun _ _ => rfl)) (pe_ix ix_list (pv 2) (pv 5) (fun _ _ => rfl))) (pa_cons (pe_ix ix_list (pv 1) (pe_op op_sub (pv 6) (pv 5)) (fun _ _ => rfl)) pa_nil))) pa_nil)))
      (pss_one (ps_set (i := 5) sc_levels_of.nd rfl (.inl rfl) (pv 6))))))
      (pss_one (ps_ret (pv 4))))))))), ?_⟩)
  · obtain ⟨d, rfl, _⟩ := h
    rfl
  · obtain ⟨⟨s, t⟩, rfl, ⟨hSt, wf⟩, q⟩ := h
    dsimp only at hSt wf q
    obtain ⟨S, dx, f, ap, r, rs, hA, _⟩ := id hSt
    have h8 : Vbecaf.mouths t ≤ 8 := wf.a8
    have h256 := two8 h8
    refine q_asgD (R := fun v H2 => NLists H (chs (List.range (Vbecaf.mouths t))) v H2) (ed_pdh (args := fun d : Nat => [.int (d : Int)]) (Vbecaf.mouths t) (ea_cons (ev_lenM (ev_fld (ev_var rfl) hA.ob T.c_State T.n_State_appetites stF_app) (sq_of hA.app)) ea_nil) (fun _ _ => h8) fun H2 v H3 e2 _ h => h.back e2) fun v H1 x1 ⟨p, us, ev, np, hp, hus⟩ => ?_
    subst ev
    have hlen := hus.1
    rw [List.length_map, chs_len, List.length_range] at hlen
    refine q_asgL (xs := (Vbecaf.mosts t).map enN) (el_pl (s, t) (ea_cons (ev_var rfl) ea_nil) fun H2 e2 => ⟨hSt.imp fun S h => h.ex (x1.trans e2), wf⟩) fun mo H2 nmo x2 hmo => ?_
    refine q_asgL (xs := (countsOf t).map enN) ?_ fun co H3 nco x3 hco => ?_
    · have ec : (countsOf t).map enN = (chs (List.range (Vbecaf.mouths t))).map fun c => V.int (c.length : Int) := by
        unfold countsOf
        rw [chs_members, List.map_map, List.map_map]
        rfl
      rw [ec]
      refine el_lcD (l := chs (List.range (Vbecaf.mouths t))) (R := fun c v H => Row (c.map enN) v H) (ed_var rfl fun H3 e3 => ⟨p, us, rfl, (x2.trans e3) _ _ hp, (hus.imp fun x v => frow_row).unmap.mono rowN_mono (x2.trans e3)⟩) (by rw [chs_len, List.length_range]; omega) (fun _ => rfl) fun c v H3 e3 hc hv => ?_
      obtain ⟨rr, rfl, hr⟩ := hv
      exact ev_lenM (en := enN) (ev_var rfl) (sq_of hr)
    have y3 := (x1.trans x2).trans x3
    have hp3 : H3 p = some (.lst us) := (x2.trans x3) _ _ hp
    have hus3 := hus.mono frow_mono (x2.trans x3)
    have hmo3 := x3 _ _ hmo
    refine q_asgL (xs := []) (el_lst ea_nil (by decide)) fun b H4 nb x4 hb => ?_
    refine q_asg ev_c fun H5 x5 => ?_
    refine q_while (fun k σ' H' => ∃ D acc vs y6, k = unserved t D ∧ σ' = [some (.ref s), some (.ref p), some (.ref mo), some (.ref co), some (.ref b), some (.int ((D : Nat) : Int)), y6, none] ∧ Ex H3 H' ∧ Lvs t acc D ∧ H' b = some (.lst vs) ∧
      All2 (fun (x : Vbecaf.Frac × Nat) v H' => ∃ o dx m, v = .ref o ∧ H o = none ∧ H' o = some (.ins T.C_Level dx (lvF (x.1.num : Int) (x.1.den : Int) m)) ∧ H m = none ∧ H3 m = some (.lst ((Vbecaf.members t x.2).map enN))) acc vs H') _
      ⟨0, [], [], none, rfl, rfl, x4.trans x5, lvs_start t, x5 _ _ hb, all2_nil⟩ ?_
    rintro k σ' H' ⟨D, acc, vs, y6, rfl, rfl, e, L, hb', hAll⟩
    have hev : ((us.length : Nat) : Int) - 1 = ((Vbecaf.everyone t : Nat) : Int) := by
      have := Nat.two_pow_pos (Vbecaf.mouths t)
      rw [← hlen]
      unfold Vbecaf.everyone
      omega
    refine ⟨!decide ((D : Int) = ((Vbecaf.everyone t : Nat) : Int)), et_is (et_test (ev_op (ev_var rfl) (ev_is (ev_op (ev_len (ev_var rfl) (sq_of (e _ _ hp3))) ev_c rv_I0) (by rw [hev])) (rv_ne rfl))) (by rw [eq_int]), fun hbt H6 e6 => ?_, fun hbt H6 e6 => ?_⟩
    · have hne : D ≠ Vbecaf.everyone t := fun z => of_decide_eq_false (not_t hbt) (by rw [z])
      have e7 := e.trans e6
      refine ⟨fun σ2 H2 => ∃ D2 acc vs y6, unserved t D2 < unserved t D ∧ σ2 = [some (.ref s), some (.ref p), some (.ref mo), some (.ref co), some (.ref b), some (.int ((D2 : Nat) : Int)), y6, none] ∧ Ex H3 H2 ∧ Lvs t acc D2 ∧ H2 b = some (.lst vs) ∧
        All2 (fun (x : Vbecaf.Frac × Nat) v H' => ∃ o dx m, v = .ref o ∧ H o = none ∧ H' o = some (.ins T.C_Level dx (lvF (x.1.num : Int) (x.1.den : Int) m)) ∧ H m = none ∧ H3 m = some (.lst ((Vbecaf.members t x.2).map enN))) acc vs H2, ?_, ?_⟩
      · rintro σ2 H2 ⟨D2, acc2, vs2, z6, h1, h2, h3, h4, h5, h6⟩
        exact ⟨_, h1, D2, acc2, vs2, z6, rfl, h2, h3, h4, h5, h6⟩
      · refine q_asgD (ed_pd (mo, co, t, D) (ea_cons (ev_var rfl) (ea_cons (ev_var rfl) (ea_cons (ev_var rfl) ea_nil))) fun H7 x7 => ⟨(e7.trans x7) _ _ hmo3, (e7.trans x7) _ _ hco, L.lt, hne, h8⟩) fun v H7 x7 ⟨bb, ev, hB⟩ => ?_
        subst ev
        have hB : BestOf t D bb fun _ => True := hB
        have e8 := e7.trans x7
        obtain ⟨l1, l2, l3⟩ := level_best L.lt hB
        have hlt := (minus_bits hB.beh.1 hB.beh.2.1).2
        have hrow : ((chs (List.range (Vbecaf.mouths t))).map fun c => c.map enN)[bb - D]? = some ((Vbecaf.members t (bb - D)).map enN) := by
          rw [chs_members, List.map_map, List.getElem?_map, List.getElem?_range hlt]
          rfl
        have hul : bb - D < us.length := by omega
        obtain ⟨m, em, nm, hm⟩ := hus3.2 (bb - D) _ us[bb - D] hrow (List.getElem?_eq_getElem hul)
        have hix : us[bb - D]? = some (.ref m) := by rw [List.getElem?_eq_getElem hul, em]
        have hml : (Vbecaf.members t (bb - D)).length ≤ 8 := Nat.le_trans (up_len (members_up t _) _ fun i hi => (mem_members.mp hi).1) h8
        have hDb : D ≤ bb := by
          have h1 := minus_or hB.beh.1 hB.beh.2.1
          have h2 := or_add hlt L.lt (minus_and hB.beh.1 hB.beh.2.1)
          omega
        have hlvs := lvs_step L hne
        have hvs : vs.length ≤ 8 := by
          have hx := hlvs.ex
          obtain ⟨k2, hk2, _⟩ := hx
          have := congrArg List.length hk2
          rw [List.length_append, List.length_append] at this
          have := all_len t
          have := hAll.1
          omega
        refine gq_app (ev_var rfl) ((e6.trans x7) _ _ hb') (fun H8 x8 => go_ed (ed_pdh (R' := fun v H9 => ∃ o dx, v = .ref o ∧ H7 o = none ∧ H9 o = some (.ins T.C_Level dx (lvF ((Vbecaf.lowest { num := am t D bb, den := (Vbecaf.members t (bb - D)).length }).num : Int) ((Vbecaf.lowest { num := am t D bb, den := (Vbecaf.members t (bb - D)).length }).den : Int) m))) (am t D bb, m, Vbecaf.members t (bb - D))
          (ea_cons (ev_is (ev_op (ev_op (ev_var rfl) (ev_var rfl) (rv_ixLn (sq_of (e8 _ _ hmo3)) (mo_get hB.beh.1))) (ev_op (ev_var rfl) (ev_var rfl) (rv_ixLn (sq_of (e8 _ _ hmo3)) (mo_get L.lt))) rv_I0) (by rw [am_int hB.beh])) (ea_cons (ev_op (ev_var rfl) (ev_is (ev_op (ev_var rfl) (ev_var rfl) rv_I0) (by rw [← Int.natCast_sub hDb])) (rv_ixLn (sq_of (e8 _ _ hp3)) hix)) ea_nil))
          (fun H9 x9 => ⟨(e8.trans x9) _ _ hm, by dsimp only; rw [minus_len hB.beh]; exact cn_pos hB.beh, hml⟩) fun H9 v H10 x9 _ ⟨o, dx, a, b, c⟩ => ⟨o, dx, a, fresh_back x9 b, c⟩) x8) (by omega) (fun v H9 h9 => h9.1 _ _ ((e6.trans x7) _ _ hb')) fun v H9 ⟨x9, o, dxo, ev, no, ho⟩ => ?_
        subst ev
        have ey := (e6.trans x7).trans x9
        have nb3 : H3 b = none := nb
        have hob : o ≠ b := (ne_of_none ((e6.trans x7) _ _ hb') no).symm
        rw [minus_len hB.beh, l1] at ho
        refine s_asg (ev_var rfl) fun H10 x10 => ⟨_, _, vs ++ [.ref o], _, unserved_lt (f := Vbecaf.mosts t) L.lt hne, by rw [← l3]; rfl, ((e8.trans x9).mut nb3).trans x10, hlvs, x10 _ _ upd_same, ?_⟩
        refine (hAll.imp fun x v ⟨o', dx', m', a1, a2, a3, a4, a5⟩ => ⟨o', dx', m', a1, a2, x10 _ _ ((upd_ne (ne_of a3 hb' (by intro z; cases z))).trans (ey _ _ a3)), a4, a5⟩).snoc ⟨o, dxo, m, rfl, fresh_back (y3.trans e8) no, x10 _ _ ?_, nm, ?_⟩
        · rw [upd_ne hob]
          exact ho
        · show H3 m = some (.lst ((Vbecaf.members t (Vbecaf.level t (Vbecaf.mosts t) D).2).map enN))
          rw [← l2]
          exact hm
    · have hD : D = Vbecaf.everyone t := by
        have := of_decide_eq_true (not_f hbt)
        omega
      subst hD
      refine s_ret (ev_var rfl) fun H7 e7 => q _ H7 ((y3.trans e).trans (e6.trans e7)) ⟨b, vs, rfl, fresh_back y3 nb, (e6.trans e7) _ _ hb', ?_⟩
      rw [lvs_end L]
      exact hAll.imp fun x v ⟨o, dx, m, a1, a2, a3, a4, a5⟩ => ⟨o, dx, m, a1, a2, (e6.trans e7) _ _ a3, a4, (e.trans (e6.trans e7)) _ _ a5⟩
end
end Tbl
set_option Elab.async false
set_option linter.all false
set_option maxRecDepth 100000
set_option maxHeartbeats 2000000
namespace Tbl
open PySem PySem.Spec PyProof.Rows L2 Evl
section
variable {P : Program} {w : World} {K : PySem.W.Frag} {mg : Str → Option Value} {base : Heap}
def sp_can_have_one_more (T : Txt K mg) : Sp := PV (fun d : Addr × Addr × Vbecaf.Table × List Nat × Nat => [.ref d.1, .ref d.2.1, .int (d.2.2.2.2 : Int)]) (fun d H => H d.1 = some (.lst ((Vbecaf.mosts d.2.2.1).map enN)) ∧ H d.2.1 = some (.lst (d.2.2.2.1.map enN)) ∧ d.2.2.2.1.length = Vbecaf.mouths d.2.2.1 ∧ Vbecaf.mouths d.2.2.1 ≤ 8) fun d => .bl (canMore d.2.2.1 d.2.2.2.1 d.2.2.2.2)
theorem sums_get {t : Vbecaf.Table} {x : List Nat} (h : x.length = Vbecaf.mouths t) {s : Nat} (hs : s < 2 ^ Vbecaf.mouths t) : ((sums2 x).map enN)[s]? = some (.int ((sumOf t x s : Nat) : Int)) := by
  rw [sums2_sumOf h, List.getElem?_map, get_range hs]
  rfl
theorem ok_can_have_one_more (T : Txt K mg) : FnOk P w K mg base CX0 2 T.a_can_have_one_more T.fd_can_have_one_more P_can_have_one_more (sp_can_have_one_more T) := by
  refine T.F_can_have_one_more.ok sc_can_have_one_more (fun vs H Q E h => ?_) (fun cdv A outer s H vs Q E hr h => ⟨_, (pss_cons (ps_set (i := 3) sc_can_have_one_more.nd rfl (.inr rfl) (pe_call (ok_sums_of_sets T) (hr.mono (by decide)) (by rfl) T.g_sums_of_sets T.F_sums_of_sets.kp T.b_sums_of_sets .nil pass0 (pa_cons (pv 1) pa_nil)))
      (pss_one (ps_ret (pe_callB (cr_all rfl) (by rfl) T.n_all (by decide +kernel) (pa_cons (pe_lc (own := [("number", 4), ("most", 5)]) (g := gTup K 2 (gCons (gName 4) (gCons (gName 5) gNil))) (tt := (tTru K _)) (te := (tOp _ (tOp (rIxL K) _ _) _)) rfl sc_can_have_one_more.nd (pi_enum (by rfl) T.n_enumerate (pa_cons (pv 0) pa_nil)) (blkOk_by (own := [("number", 4), ("most", 5)]) (N := N_can_have_one_more) (sc := defScope s_can_have_one_more) (by decide +kernel)) (fun _ _ _ _ _ => (pg_tup rfl (pgs_cons (pg_name (i := 4) sc_can_have_one_more.nd rfl (.inl rfl)) (pgs_cons (pg_name (i := 5) sc_can_have_one_more.nd rfl (.inl rfl)) pgs_nil)))) (fun _ _ _ _ _ => pts_one (pt_truth (pe_op op_and (pe_op op_shr (pv 4) (pv 2)) pe_int) (fun _ => rfl))) (fun _ _ _ _ _ => (pe_cmpR op_lt (pe_ix ix_list (pv 3) (pv 4) (fun _ _ => rfl)) (pv 5) (nomark _)))) pa_nil))))), ?_⟩)
  · obtain ⟨d, rfl, _⟩ := h
    rfl
  · obtain ⟨⟨a, b, t, x, m⟩, rfl, ⟨ha, hb, hl, h8⟩, q⟩ := h
    dsimp only at ha hb hl h8 q
    have h256 := two8 h8
    refine q_asgL (xs := (sums2 x).map enN) (el_pl (b, x) (ea_cons (ev_var rfl) ea_nil) fun H1 e1 => ⟨e1 _ _ hb, by dsimp only; omega⟩) fun c H1 nc x1 hc => ?_
    have e0 : canMore t x m = (((List.range (Vbecaf.mosts t).length).filter fun s => s.testBit m).map fun s => decide (sumOf t x s < Mo t s)).all id := by
      unfold canMore
      rw [mosts_len, List.all_map]
      rfl
    rw [e0] at q
    refine s_ret (ev_all ?_) fun H2 e2 => q H2 (x1.trans e2)
    rw [List.map_map]
    refine el_compE (en := enN) (fun s => s.testBit m) _ (ea_cons (ev_var rfl) ea_nil) (sq_of (x1 _ _ ha)) (by rw [mosts_len]; omega) (fun _ _ => rfl) (fun i y H2 e2 hi => ?_) (fun i y H2 e2 hi _ => ?_)
    · exact et_is (et_truI (ev_op (ev_op (ev_var rfl) (ev_var rfl) (rv_I (by omega))) ev_c rv_I0)) (bit_tru i m)
    · have hi' : i < 2 ^ Vbecaf.mouths t := by
        rw [← mosts_len]
        exact (List.getElem?_eq_some_iff.mp hi).1
      have hy : y = Mo t i := by
        rw [mosts_eq, get_range hi'] at hi
        cases hi
        rfl
      subst hy
      refine ev_is (ev_op (ev_op (ev_var rfl) (ev_var rfl) (rv_ixLn (sq_of (e2 _ _ hc)) (sums_get hl hi'))) (ev_var rfl) rv_I0) ?_
      show V.bl _ = V.bl _
      congr 1
      rw [Bool.eq_iff_iff, decide_eq_true_eq, decide_eq_true_eq]
      omega
theorem ind_len {n : Nat} {T : List Nat} : (ind n T).length = n := by
  unfold ind
  rw [List.length_map, List.length_range]
theorem ind_le {t : Vbecaf.Table} {T : List Nat} (h8 : Vbecaf.mouths t ≤ 8) (s : Nat) : sumOf t (ind (Vbecaf.mouths t) T) s ≤ 8 := by
  have h1 : sumOf t (ind (Vbecaf.mouths t) T) s ≤ ((Vbecaf.members t s).map fun _ => 1).sum := by
    refine sum_le2 _ fun i hi => ?_
    rw [ind_at (mem_members.mp hi).1]
    by_cases c : i ∈ T
    · rw [if_pos c]; exact Nat.le_refl _
    · rw [if_neg c]; exact Nat.zero_le _
  have h2 : ((Vbecaf.members t s).map fun _ => 1).sum = (Vbecaf.members t s).length := by rw [wt_members, count_wt]
  have := up_len (members_up t s) _ fun i hi => (mem_members.mp hi).1
  omega
def sp_full_rounds (T : Txt K mg) : Sp := PV (fun d : Addr × Addr × Addr × Vbecaf.Table × List Nat × List Nat => [.ref d.1, .ref d.2.1, .ref d.2.2.1]) (fun d H => H d.1 = some (.lst ((Vbecaf.mosts d.2.2.2.1).map enN)) ∧ H d.2.1 = some (.lst (d.2.2.2.2.1.map enN)) ∧ H d.2.2.1 = some (.lst (d.2.2.2.2.2.map enN)) ∧ (∃ c, Round d.2.2.2.1 d.2.2.2.2.2 c d.2.2.2.2.1) ∧ d.2.2.2.2.2 ≠ [] ∧ Vbecaf.mouths d.2.2.2.1 ≤ 8) fun d => .int ((leastN (roundsOf d.2.2.2.1 d.2.2.2.2.2 d.2.2.2.2.1) : Nat) : Int)
theorem ok_full_rounds (T : Txt K mg) : FnOk P w K mg base CX0 2 T.a_full_rounds T.fd_full_rounds P_full_rounds (sp_full_rounds T) := by
  refine T.F_full_rounds.ok sc_full_rounds (fun vs H Q E h => ?_) (fun cdv A outer s H vs Q E hr h => ⟨_, (pss_cons (ps_set (i := 3) sc_full_rounds.nd rfl (.inr rfl) (pe_call (ok_sums_of_sets T) (hr.mono (by decide)) (by rfl) T.g_sums_of_sets T.F_sums_of_sets.kp T.b_sums_of_sets .nil pass0 (pa_cons (pv 1) pa_nil)))
      (pss_cons (ps_set (i := 4) sc_full_rounds.nd rfl (.inr rfl) (pe_call (ok_sums_of_sets T) (hr.mono (by decide)) (by rfl) T.g_sums_of_sets T.F_sums_of_sets.kp T.b_sums_of_sets .nil pass0 (pa_cons (pe_lc (own := [("mouth", 5)]) (g := gName 5) (tt := tYes) (te := (tIf (tTest (tOp (rIn K false) _ _)) _ _)) rfl sc_full_rounds.nd (pi_range1 (by rfl) T.n_range (pa_cons (pe_callB call_len_seq (by rfl) T.n_len PySem.boot_len (pa_cons (pv 1) pa_nil)) pa_nil)) (blkOk_by (own := [("mouth", 5)]) (N := N_full_rounds) (sc := defScope s_full_rounds) (by decide +kernel)) (fun _ _ _ _ _ => (pg_name (i := 5) sc_full_rounds.nd rfl (.inl rfl))) (fun _ _ _ _ _ => pts_nil) (fun _ _ _ _ _ => (pe_ifExp (pt_cmpR op_in_seq (pv 5) (pv 2) (by rfl)) pe_int pe_int))) pa_nil)))
      (pss_one (ps_ret (pe_callB (cr_min rfl) (by rfl) T.n_min (by decide +kernel) (pa_cons (pe_lc (own := [("number", 6), ("most", 7)]) (g := gTup K 2 (gCons (gName 6) (gCons (gName 7) gNil))) (tt := (tTest (tOp _ (tOp (rIxL K) _ _) _))) (te := (tOp _ (tOp _ _ (tOp (rIxL K) _ _)) (tOp (rIxL K) _ _))) rfl sc_full_rounds.nd (pi_enum (by rfl) T.n_enumerate (pa_cons (pv 0) pa_nil)) (blkOk_by (own := [("number", 6), ("most", 7)]) (N := N_full_rounds) (sc := defScope s_full_rounds) (by decide +kernel)) (fun _ _ _ _ _ => (pg_tup rfl (pgs_cons (pg_name (i := 6) sc_full_rounds.nd rfl (.inl rfl)) (pgs_cons (pg_name (i := 7) sc_full_rounds.nd rfl (.inl rfl)) pgs_nil)))) (fun _ _ _ _ _ => pts_one (pt_cmpR op_gt (pe_ix ix_list (pv 4) (pv 6) (fun _ _ => rfl)) pe_int (nomark _))) (fun _ _ _ _ _ => (pe_op op_fdivN (pe_op op_sub (pv 7) (pe_ix ix_list (pv 3) (pv 6) (fun _ _ => rfl))) (pe_ix ix_list (pv 4) (pv 6) (fun _ _ => rfl))))) pa_nil)))))), ?_⟩)
  · obtain ⟨d, rfl, _⟩ := h
    rfl
  · obtain ⟨⟨a, b, c, t, x, TT⟩, rfl, ⟨ha, hb, hc, ⟨k, hR⟩, hne, h8⟩, q⟩ := h
    dsimp only at ha hb hc hR hne h8 q
    have h256 := two8 h8
    have hl := hR.out.len
    refine q_asgL (xs := (sums2 x).map enN) (el_pl (b, x) (ea_cons (ev_var rfl) ea_nil) fun H1 e1 => ⟨e1 _ _ hb, by dsimp only; omega⟩) fun su H1 nsu x1 hsu => ?_
    refine q_asgL (xs := (sums2 (ind (Vbecaf.mouths t) TT)).map enN) (el_plL (xs := (ind (Vbecaf.mouths t) TT).map enN) (fun p => (p, ind (Vbecaf.mouths t) TT)) ?_ (fun _ => rfl) (fun p H2 _ h2 => ⟨h2, by dsimp only; rw [ind_len]; exact h8⟩) fun _ => rfl) fun co H2 nco x2 hco => ?_
    · have e1 : (ind (Vbecaf.mouths t) TT).map enN = given (x.length : Int).toNat (fun _ => true) fun i => enN (if TT.contains i = true then 1 else 0) := by
        unfold given ind
        rw [List.filter_eq_self.mpr (fun _ _ => rfl), List.map_map, Int.toNat_natCast, hl]
        rfl
      rw [e1]
      refine el_lcR1 (fun _ => true) _ (ea_cons (ev_lenM (en := enN) (ev_var rfl) (sq_of (x1 _ _ hb))) ea_nil) (by omega) (fun _ => rfl) (fun i H2 e2 _ => et_yes) (fun i H2 e2 _ _ => ?_)
      refine ev_if (b := TT.contains i) (et_is (et_test (ev_op (ev_var rfl) (ev_var rfl) (rv_isL (sq_of ((x1.trans e2) _ _ hc)) rfl (flat_enN TT)))) (inV_enN i TT)) (fun hb => ?_) (fun hb => ?_)
      · rw [if_pos hb]
        exact ev_c
      · rw [if_neg (by rw [hb]; decide)]
        exact ev_c
    obtain ⟨m0, hm0⟩ := List.exists_mem_of_ne_nil TT hne
    have hrn := rounds_ne (t := t) (T := TT) (x := x) hm0 (hR.lt m0 hm0)
    have hf := feasible_iff.mp hR.out.feas
    refine s_ret (ev_minL (ns := (roundsOf t TT x).map fun (n : Nat) => (n : Int)) ?_ (by rw [List.length_map]; exact List.length_pos_iff.mpr hrn) fun m h1 h2 => leastN_is hrn h1 h2) fun H3 e3 => q H3 ((x1.trans x2).trans e3)
    unfold roundsOf
    rw [List.map_map, List.map_map, ← mosts_len t]
    refine el_compE (en := enN) (fun s => decide (0 < sumOf t (ind (Vbecaf.mouths t) TT) s)) _ (ea_cons (ev_var rfl) ea_nil) (sq_of ((x1.trans x2) _ _ ha)) (by rw [mosts_len]; omega) (fun _ _ => rfl) (fun i y H3 e3 hi => ?_) (fun i y H3 e3 hi hp => ?_)
    · have hi' : i < 2 ^ Vbecaf.mouths t := by
        rw [← mosts_len]
        exact (List.getElem?_eq_some_iff.mp hi).1
      refine et_is (et_test (ev_op (ev_op (ev_var rfl) (ev_var rfl) (rv_ixLn (sq_of (e3 _ _ hco)) (sums_get ind_len hi'))) ev_c rv_I0)) ?_
      rw [Bool.eq_iff_iff, decide_eq_true_eq, decide_eq_true_eq]
      omega
    · have hi' : i < 2 ^ Vbecaf.mouths t := by
        rw [← mosts_len]
        exact (List.getElem?_eq_some_iff.mp hi).1
      have hy : y = Mo t i := by
        rw [mosts_eq, get_range hi'] at hi
        cases hi
        rfl
      subst hy
      have hp' := of_decide_eq_true hp
      have hle : sumOf t x i ≤ Mo t i := hf i hi'
      have h8i := ind_le (T := TT) h8 i
      have hdv : CDivN ((Mo t i : Nat) - (sumOf t x i : Nat) : Int) ((sumOf t (ind (Vbecaf.mouths t) TT) i : Nat) : Int) := ⟨by omega, by omega⟩
      refine ev_is (ev_op (ev_op (ev_var rfl) (ev_op (ev_var rfl) (ev_var rfl) (rv_ixLn (sq_of ((x2.trans e3) _ _ hsu)) (sums_get hl hi'))) rv_I0) (ev_op (ev_var rfl) (ev_var rfl) (rv_ixLn (sq_of (e3 _ _ hco)) (sums_get ind_len hi'))) (rv_I hdv)) ?_
      show V.int _ = V.int _
      congr 1
      rw [← Int.natCast_sub hle, fdiv_nat]
end
end Tbl
set_option Elab.async false
set_option linter.all false
set_option maxRecDepth 100000
set_option maxHeartbeats 2000000
namespace Tbl
open PySem PySem.Spec PyProof.Rows L2 Evl
section
variable {P : Program} {w : World} {K : PySem.W.Frag} {mg : Str → Option Value} {base : Heap}
theorem sum_leq {x y : List Nat} (h : Leq x y) (hl : x.length = y.length) : x.sum ≤ y.sum := by
  rw [← sum_range_at x, ← sum_range_at y, hl]
  exact sum_le2 _ fun i _ => h i
theorem set_map {l : List Nat} {i v : Nat} : (l.map enN).set i (.int (v : Int)) = (l.set i v).map enN := by
  rw [List.map_set]
  rfl
def sp_whole_shares (T : Txt K mg) : Sp := PL (fun d : Addr × Vbecaf.Table => [.ref d.1]) (fun d H => (∃ S, StAt T d.2 d.1 S H) ∧ WfT d.2) fun d => (Vbecaf.wholes d.2).map enN
theorem ok_whole_shares (T : Txt K mg) : FnOk P w K mg base CX0 4 T.a_whole_shares T.fd_whole_shares P_whole_shares (sp_whole_shares T) := by
  refine T.F_whole_shares.ok sc_whole_shares (fun vs H Q E h => ?_) (fun cdv A outer s H vs Q E hr h => ⟨_, (pss_cons (ps_set (i := 1) sc_whole_shares.nd rfl (.inl rfl) (pe_call (ok_mosts_of_sets T) (hr.mono (by decide)) (by rfl) T.g_mosts_of_sets T.F_mosts_of_sets.kp T.b_mosts_of_sets .nil pass0 (pa_cons (pv 0) pa_nil)))
      (pss_cons (ps_setLc (i := 2) (own := [("appetite", 7)]) (g := gName 7) (tt := tYes) rfl sc_whole_shares.nd rfl rfl (sw_true rfl rfl rfl (by decide +kernel)) (pi_list (pe_fld (pv 0) rfl)) (blkOk_by (own := [("appetite", 7)]) (N := N_whole_shares) (sc := defScope s_whole_shares) (by decide +kernel)) (fun _ _ _ _ _ => (pg_name (i := 7) sc_whole_shares.nd rfl (.inl rfl))) (fun _ _ _ _ _ => pts_nil) (fun _ _ _ _ _ => pe_int))
      (pss_cons (ps_set (i := 3) sc_whole_shares.nd rfl (.inl rfl) (pe_listRg rfl (by rfl) T.n_list (prg_1 (by rfl) T.n_range (pe_callB call_len_seq (by rfl) T.n_len PySem.boot_len (pa_cons (pv 2) pa_nil)))))
      (pss_cons (ps_while PassesOwn.never (pt_truth (pv 3) (fun _ => rfl))
      (pss_cons (ps_set (i := 4) sc_whole_shares.nd rfl (.inl rfl) (pe_call (ok_full_rounds T) (hr.mono (by decide)) (by rfl) T.g_full_rounds T.F_full_rounds.kp T.b_full_rounds .nil pass0 (pa_cons (pv 1) (pa_cons (pv 2) (pa_cons (pv 3) pa_nil)))))
      (pss_cons (ps_for PassesOwn.never rfl (pi_list (pv 3)) (pg_name (i := 5) sc_whole_shares.nd rfl (.inl rfl))
      (pss_one (ps_augS (pv 2) (pv 5) get_list (pv 4) ip_add set_list)))
      (pss_cons (ps_set (i := 6) sc_whole_shares.nd rfl (.inl rfl) (pe_lst pa_nil))
      (pss_cons (ps_for PassesOwn.never rfl (pi_list (pv 3)) (pg_name (i := 5) sc_whole_shares.nd rfl (.inl rfl))
      (pss_one (ps_if (pt_val (pe_call (ok_can_have_one_more T) (hr.mono (by decide)) (by rfl) T.g_can_have_one_more T.F_can_have_one_more.kp T.b_can_have_one_more .nil pass0 (pa_cons (pv 1) (pa_cons (pv 2) (pa_cons (pv 5) pa_nil)))))
      (pss_cons (ps_augS (pv 2) (pv 5) get_list pe_int ip_add set_list)
      (pss_one (ps_expr (pe_bm PySem.F.plainAttrs_list PySem.F.slot_list_append PySem.F.type_list_append mt_append (pv 6) (pa_cons (pv 5) pa_nil)))))
      pss_nil)))
      (pss_one (ps_set (i := 3) sc_whole_shares.nd rfl (.inl rfl) (pv 6))))))))
      (pss_one (ps_ret (pv 2))))))), ?_⟩)
  · obtain ⟨d, rfl, _⟩ := h
    rfl
  · obtain ⟨⟨s, t⟩, rfl, ⟨hSt, wf⟩, q⟩ := h
    dsimp only at hSt wf q
    obtain ⟨S, dx, f, ap, r, rs, hA, _⟩ := id hSt
    have h8 : Vbecaf.mouths t ≤ 8 := wf.a8
    refine q_asgL (xs := (Vbecaf.mosts t).map enN) (el_pl (s, t) (ea_cons (ev_var rfl) ea_nil) fun H2 e2 => ⟨hSt.imp fun S h => h.ex e2, wf⟩) fun mo H1 nmo x1 hmo => ?_
    refine q_asgL (xs := (List.replicate (Vbecaf.mouths t) 0).map enN) ?_ fun sh H2 nsh x2 hsh => ?_
    · have e1 : (List.replicate (Vbecaf.mouths t) 0).map enN = t.appetites.map fun _ => V.int 0 := by
        apply List.ext_getElem
        · rw [List.length_map, List.length_map, List.length_replicate]; rfl
        · intro i h1 h2
          rw [List.getElem_map, List.getElem_map, List.getElem_replicate]
          rfl
      rw [e1]
      exact el_compAll (en := enN) _ (ev_fld (ev_var rfl) (hA.ex x1).ob T.c_State T.n_State_appetites stF_app) (sq_of (hA.ex x1).app) (by show Vbecaf.mouths t ≤ _; omega) (fun _ => rfl) fun x H3 e3 _ => ev_c
    refine q_asgL (xs := (List.range (Vbecaf.mouths t)).map enN) ?_ fun tk H3 ntk x3 htk => ?_
    · exact el_range (ev_is (ev_lenM (en := enN) (ev_var rfl) (sq_of hsh)) (by rw [List.length_replicate])) (by omega)
    have nshH : H sh = none := fresh_back x1 nsh
    have hmo2 := x2 _ _ hmo
    let M := Vbecaf.at_ (Vbecaf.mosts t) (Vbecaf.everyone t)
    refine q_while (fun k σ' H' => ∃ TT c x tk y4 y5 y6, k = (if TT = [] then 0 else M - x.sum + 1) ∧ σ' = [some (.ref s), some (.ref mo), some (.ref sh), some (.ref tk), y4, y5, y6, none] ∧ Ex H1 H' ∧ H' sh = some (.lst (x.map enN)) ∧ H' tk = some (.lst (TT.map enN)) ∧ tk ≠ sh ∧ Round t TT c x) _
      ⟨List.range (Vbecaf.mouths t), 0, List.replicate (Vbecaf.mouths t) 0, tk, none, none, none, rfl, rfl, x2.trans x3, x3 _ _ hsh, htk, (ne_of_none hsh ntk).symm, round_start t⟩ ?_
    rintro k σ' H' ⟨TT, c, x, tk, y4, y5, y6, rfl, rfl, e, hsh', htk', nts, hR⟩
    have hxl := hR.out.len
    refine ⟨!(TT.map enN).isEmpty, et_truL (ev_var rfl) htk', fun hb H4 e4 => ?_, fun hb H4 e4 => ?_⟩
    · have hne : TT ≠ [] := by
        rintro rfl
        cases hb
      obtain ⟨m0, hm0⟩ := List.exists_mem_of_ne_nil TT hne
      rw [if_neg hne]
      refine ⟨fun σ2 H2 => ∃ TT c x2 tk y4 y5 y6, (if TT = [] then 0 else M - x2.sum + 1) < M - x.sum + 1 ∧ σ2 = [some (.ref s), some (.ref mo), some (.ref sh), some (.ref tk), y4, y5, y6, none] ∧ Ex H1 H2 ∧ H2 sh = some (.lst (x2.map enN)) ∧ H2 tk = some (.lst (TT.map enN)) ∧ tk ≠ sh ∧ Round t TT c x2, ?_, ?_⟩
      · rintro σ2 H2 ⟨T2, c2, x2, tk2, z4, z5, z6, h1, h2, h3, h4, h5, h6, h7⟩
        exact ⟨_, h1, T2, c2, x2, tk2, z4, z5, z6, rfl, h2, h3, h4, h5, h6, h7⟩
      have e5 := e.trans e4
      have hsh4 := e4 _ _ hsh'
      have htk4 := e4 _ _ htk'
      -- rounds
      refine q_asg (ev_pv (mo, sh, tk, t, x, TT) (ea_cons (ev_var rfl) (ea_cons (ev_var rfl) (ea_cons (ev_var rfl) ea_nil))) fun H5 x5 => ⟨(e5.trans x5) _ _ hmo, x5 _ _ hsh4, x5 _ _ htk4, ⟨c, hR⟩, hne, h8⟩) fun H5 x5 => ?_
      have hgo := rounds_go hR hm0
      generalize hrr : leastN (roundsOf t TT x) = rr at hgo
      have hll : ∀ m ∈ TT, m < x.length := fun m hm => by rw [hxl]; exact hR.lt m hm
      refine q_forLn (xs := TT.map enN) (ev_var rfl) (sq_of (x5 _ _ htk4)) (fun i σ' H' => (∃ y5, σ' = [some (.ref s), some (.ref mo), some (.ref sh), some (.ref tk), some (.int ((rr : Nat) : Int)), y5, y6, none]) ∧ Ex H1 H' ∧ H' sh = some (.lst ((addF x TT rr i).map enN)) ∧ H' tk = some (.lst (TT.map enN))) ?_ ?_ ?_ ?_
      · refine fun H6 x6 => ⟨⟨_, rfl⟩, (e5.trans x5).trans x6, ?_, (x5.trans x6) _ _ htk4⟩
        unfold addF
        rw [List.take_zero]
        exact (x5.trans x6) _ _ hsh4
      · rintro i σ' H' _ ⟨_, _, _, h⟩
        exact sq_of h
      · rintro i v σ' H' hi ⟨⟨y5, rfl⟩, ee, hs, ht⟩
        rw [List.getElem?_map] at hi
        cases hm : TT[i]? with
        | none => rw [hm] at hi; cases hi
        | some m =>
          rw [hm] at hi
          cases hi
          have hml : m < (addF x TT rr i).length := by rw [addF_len]; exact hll m (List.mem_of_getElem? hm)
          refine s_augL (j := m) hs (ev_var rfl) (ev_var rfl) (get_at hml) (ev_var rfl) fun H6 x6 => ?_
          refine ⟨⟨_, rfl⟩, (ee.trans x6).mut nsh, ?_, ?_⟩
          · rw [upd_same, addF_succ hm, ← set_map]
            rfl
          · rw [upd_ne nts]
            exact x6 _ _ ht
      · rintro σ' H' ⟨⟨y5, rfl⟩, ee, hs, ht⟩
        rw [List.length_map] at hs
        -- one by one
        refine q_asgL (xs := []) (el_lst ea_nil (by decide)) fun fe H6 nfe x6 hfe => ?_
        have nfs : fe ≠ sh := (ne_of_none hs nfe).symm
        have nft : fe ≠ tk := (ne_of_none ht nfe).symm
        have nfH1 : H1 fe = none := fresh_back ee nfe
        generalize hx' : addF x TT rr TT.length = x' at hgo hs
        have hxx : x.sum ≤ x'.sum := by
          rw [← hx']
          refine sum_leq (fun j => ?_) (addF_len _).symm
          rw [addF_at hR.up hll]
          by_cases cj : j ∈ TT.take TT.length
          · rw [if_pos cj]; omega
          · rw [if_neg cj]; exact Nat.le_refl _
        refine q_forLn (xs := TT.map enN) (ev_var rfl) (sq_of (x6 _ _ ht)) (fun i σ' H' => ∃ fed y, (∃ y5, σ' = [some (.ref s), some (.ref mo), some (.ref sh), some (.ref tk), some (.int ((rr : Nat) : Int)), y5, some (.ref fe), none]) ∧ Ex H1 H' ∧ H' sh = some (.lst (y.map enN)) ∧ H' tk = some (.lst (TT.map enN)) ∧ H' fe = some (.lst (fed.map enN)) ∧ Turn t TT (c + rr) i fed y ∧ y.sum = x'.sum + fed.length) ?_ ?_ ?_ ?_
        · exact fun H7 x7 => ⟨[], x', ⟨_, rfl⟩, (ee.trans x6).trans x7, (x6.trans x7) _ _ hs, (x6.trans x7) _ _ ht, x7 _ _ hfe, round_turn hgo, rfl⟩
        · rintro i σ' H' _ ⟨_, _, _, _, _, h, _⟩
          exact sq_of h
        · rintro i v σ' H' hi ⟨fed, y, ⟨y5, rfl⟩, ee2, hs2, ht2, hf2, hT, hsum⟩
          rw [List.getElem?_map] at hi
          cases hm : TT[i]? with
          | none => rw [hm] at hi; cases hi
          | some m =>
            rw [hm] at hi
            cases hi
            have hmT := List.mem_of_getElem? hm
            have hml := hR.lt m hmT
            have hyl := hT.out.len
            have hfl : fed.length ≤ 8 := Nat.le_trans hT.fedS.length_le (by
              rw [List.length_take]
              have := up_len hR.up _ hR.lt
              omega)
            refine s_when (b := Vbecaf.feasible t (Vbecaf.mosts t) (bump y m)) (et_is (et_B (ev_pv (mo, sh, t, y, m) (ea_cons (ev_var rfl) (ea_cons (ev_var rfl) (ea_cons (ev_var rfl) ea_nil))) fun H7 x7 => ⟨(ee2.trans x7) _ _ hmo, x7 _ _ hs2, hyl, h8⟩)) (canMore_iff hT.out hml)) (fun hb H7 x7 => ?_) (fun hb H7 x7 => ?_)
            · refine q_augL (j := m) (x7 _ _ hs2) (ev_var rfl) (ev_var rfl) (get_at (by omega)) ev_c fun H8 x8 => ?_
              have hup : (y.map enN).set m (.int (((Vbecaf.at_ y m : Nat) : Int) + 1)) = (bump y m).map enN := by
                unfold bump
                rw [← set_map]
                rfl
              refine s_app (xs := fed.map enN) (by rw [upd_ne nfs]; exact (x7.trans x8) _ _ hf2) (ev_var rfl) (ev_var rfl) (by rw [List.length_map]; omega) fun H9 x9 => ?_
              refine ⟨fed ++ [m], bump y m, ⟨_, rfl⟩, (((((ee2.trans x7).trans x8).mut nsh).trans x9).mut nfH1), ?_, ?_, ?_, turn_take hT hm hb, ?_⟩
              · rw [upd_ne nfs.symm, ← hup]
                exact x9 _ _ upd_same
              · rw [upd_ne nft.symm]
                refine x9 _ _ ?_
                rw [upd_ne nts]
                exact (x7.trans x8) _ _ ht2
              · rw [upd_same, List.map_append]
                rfl
              · rw [bump_sum (by omega), hsum, List.length_append]
                rfl
            · exact ⟨fed, y, ⟨_, rfl⟩, ee2.trans x7, x7 _ _ hs2, x7 _ _ ht2, x7 _ _ hf2, turn_skip hT hm hb, hsum⟩
        · rintro σ' H' ⟨fed, y, ⟨y5, rfl⟩, ee2, hs2, ht2, hf2, hT, hsum⟩
          rw [List.length_map] at hT
          have hR2 := turn_round hT (Nat.le_refl _)
          have hyM := out_sum hR2.out
          refine s_asg (ev_var rfl) fun H7 x7 => ⟨fed, _, y, fe, _, _, _, ?_, rfl, ee2.trans x7, x7 _ _ hs2, x7 _ _ hf2, nfs, hR2⟩
          by_cases cf : fed = []
          · rw [if_pos cf]
            omega
          · rw [if_neg cf]
            have := List.length_pos_iff.mpr cf
            have hM : y.sum ≤ M := hyM
            omega
    · have hT : TT = [] := by
        cases TT with
        | nil => rfl
        | cons a l => cases hb
      subst hT
      rw [round_end hR] at q
      exact s_ret (ev_var rfl) fun H5 e5 => q sh _ nshH ((x1.trans e).trans (e4.trans e5)) ((e4.trans e5) _ _ hsh')
end
end Tbl
set_option Elab.async false
set_option linter.all false
set_option maxRecDepth 100000
set_option maxHeartbeats 2000000
namespace Tbl
open PySem PySem.Spec PyProof.Rows L2 Evl
section
variable {P : Program} {w : World} {K : PySem.W.Frag} {mg : Str → Option Value} {base : Heap}
def sp_tell_binding (T : Txt K mg) : Sp := spDo T 6
theorem ok_tell_binding (T : Txt K mg) : FnOk P w K mg base CX0 4 T.a_tell_binding T.fd_tell_binding P_tell_binding (sp_tell_binding T) := by
  refine T.F_tell_binding.ok sc_tell_binding (fun vs H Q E h => ?_) (fun cdv A outer s H vs Q E hr h => ⟨_, (pss_cons (ps_set (i := 2) sc_tell_binding.nd rfl (.inl rfl) (pe_ix ix_list (pv 1) pe_int (fun _ _ => rfl)))
      (pss_cons (ps_if (pt_not (pt_val (pe_call (ok_is_choice T) (hr.mono (by decide)) (by rfl) T.g_is_choice T.F_is_choice.kp T.b_is_choice .nil pass0 (pa_cons (pv 2) (pa_cons (pe_callB call_len_seq (by rfl) T.n_len PySem.boot_len (pa_cons (pe_fld (pv 0) rfl) pa_nil)) pa_nil)))))
      (pss_one (ps_ret (pe_lst (pa_cons (pe_un un_neg pe_int) pa_nil))))
      pss_nil)
      (pss_one (ps_ret (pe_op op_cat (pe_lst (pa_cons pe_int pa_nil)) (pe_call (ok_bound_by_food T) (hr.mono (by decide)) (by rfl) T.g_bound_by_food T.F_bound_by_food.kp T.b_bound_by_food .nil pass0 (pa_cons (pv 0) (pa_cons (pv 2) pa_nil)))))))), ?_⟩)
  · obtain ⟨d, rfl, _⟩ := h
    rfl
  · obtain ⟨⟨s, g, S, t, ns, xs, qs⟩, rfl, hp, q⟩ := h
    dsimp only at hp q
    obtain ⟨hS, wf, gv, hlen, hnd, hrows, hout, hsh, hsm⟩ := hp
    have e1 : (0, 1) = (ns.length, xs.length) := Option.some.inj hsh
    obtain rfl : ns = [] := List.eq_nil_of_length_eq_zero (congrArg Prod.fst e1).symm
    obtain ⟨l, rfl⟩ : ∃ l, xs = [l] := by
      match xs, congrArg Prod.snd e1 with
      | [l], _ => exact ⟨l, rfl⟩
    obtain ⟨ql, rfl⟩ : ∃ b, qs = [b] := by
      match qs, hlen with
      | [b], _ => exact ⟨b, rfl⟩
    have hl := hrows 0 ql l rfl rfl
    have hl100 := hsm l (by simp)
    obtain ⟨dx, f, ap, r, rs, hA, s1, s2, s3, s4, s5⟩ := id hS
    refine q_asg (ev_op (ev_var rfl) ev_c (rv_ixLn (i := 0) (sq_of gv) rfl)) fun H1 x1 => ?_
    refine q_when (b := !(Vbecaf.rising l && inAll l (Vbecaf.mouths t : Int))) (et_not (et_B (ev_pv (ql, l, (t.appetites.length : Int)) (ea_cons (ev_var rfl) (ea_cons (ev_lenM (ev_fld (ev_var rfl) (hA.ex x1).ob T.c_State T.n_State_appetites stF_app) (sq_of (hA.ex x1).app)) ea_nil)) fun H2 e2 => ⟨sq_of (e2 _ _ (x1 _ _ hl)), by dsimp only; omega⟩))) (fun hb H2 x2 => ?_) (fun hb H2 x2 => ?_)
    · refine s_retL (el_lst (ea_cons (ev_neg ev_c) ea_nil) (by decide)) fun b H3 nb x3 h3 => q _ _ (do_same (l := [-2]) hS ((x1.trans x2).trans x3) (fresh_back (x1.trans x2) nb) h3 ?_)
      rw [step_binding, if_neg (by rw [not_t hb]; decide)]
    · have h1 := not_f hb
      have u := told_up h1
      have y := x1.trans x2
      have hml : (Vbecaf.members t (Vbecaf.binding t (Vbecaf.sums t) (Vbecaf.setOf (l.map Int.toNat)))).length ≤ 8 := Nat.le_trans (up_len (members_up t _) _ fun i hi => (mem_members.mp hi).1) wf.a8
      refine s_retL (el_cat (xs := [.int 0]) (es_new (el_lst (ea_cons ev_c ea_nil) (by decide))) (es_new (el_pl (s, ql, t, l.map Int.toNat) (ea_cons (ev_var rfl) (ea_cons (ev_var rfl) ea_nil)) fun H3 x3 => ⟨⟨S, hS.ex (y.trans x3)⟩, wf, ?_, u.1, u.2.1⟩)) (by rw [List.length_map]; show 1 + _ ≤ _; dsimp only; omega)) fun b H3 nb x3 h3 => q _ _ (do_same (l := 0 :: Vbecaf.ints (Vbecaf.members t (Vbecaf.binding t (Vbecaf.sums t) (Vbecaf.setOf (l.map Int.toNat))))) hS (y.trans x3) (fresh_back y nb) ?_ ?_)
      · dsimp only
        rw [enN_map u.2.2]
        exact x3 _ _ (y _ _ hl)
      · rw [h3, enN_ints]
        rfl
      · rw [step_binding, if_pos h1]
def sp_tell_can (T : Txt K mg) : Sp := spDo T 7
theorem ok_tell_can (T : Txt K mg) : FnOk P w K mg base CX0 4 T.a_tell_can T.fd_tell_can P_tell_can (sp_tell_can T) := by
  refine T.F_tell_can.ok sc_tell_can (fun vs H Q E h => ?_) (fun cdv A outer s H vs Q E hr h => ⟨_, (pss_cons (ps_set (i := 2) sc_tell_can.nd rfl (.inl rfl) (pe_ix ix_list (pv 1) pe_int (fun _ _ => rfl)))
      (pss_cons (ps_if (pt_not (pt_val (pe_call (ok_is_share_row T) (hr.mono (by decide)) (by rfl) T.g_is_share_row T.F_is_share_row.kp T.b_is_share_row .nil pass0 (pa_cons (pv 2) (pa_cons (pe_callB call_len_seq (by rfl) T.n_len PySem.boot_len (pa_cons (pe_fld (pv 0) rfl) pa_nil)) pa_nil)))))
      (pss_one (ps_ret (pe_lst (pa_cons (pe_un un_neg pe_int) pa_nil))))
      pss_nil)
      (pss_cons (ps_set (i := 3) sc_tell_can.nd rfl (.inl rfl) (pe_call (ok_first_above T) (hr.mono (by decide)) (by rfl) T.g_first_above T.F_first_above.kp T.b_first_above .nil pass0 (pa_cons (pe_call (ok_sums_of_sets T) (hr.mono (by decide)) (by rfl) T.g_sums_of_sets T.F_sums_of_sets.kp T.b_sums_of_sets .nil pass0 (pa_cons (pv 2) pa_nil)) (pa_cons (pe_call (ok_mosts_of_sets T) (hr.mono (by decide)) (by rfl) T.g_mosts_of_sets T.F_mosts_of_sets.kp T.b_mosts_of_sets .nil pass0 (pa_cons (pv 0) pa_nil)) pa_nil))))
      (pss_cons (ps_if (pt_cmpR op_isN (pv 3) pe_non (nomark _))
      (pss_one (ps_ret (pe_lst (pa_cons pe_int pa_nil))))
      pss_nil)
      (pss_one (ps_ret (pe_op op_cat (pe_lst (pa_cons pe_int pa_nil)) (pe_ix ix_list (pe_call (ok_every_set T) (hr.mono (by decide)) (by rfl) T.g_every_set T.F_every_set.kp T.b_every_set .nil pass0 (pa_cons (pe_callB call_len_seq (by rfl) T.n_len PySem.boot_len (pa_cons (pv 2) pa_nil)) pa_nil)) (pv 3) (fun _ _ => rfl))))))))), ?_⟩)
  · obtain ⟨d, rfl, _⟩ := h
    rfl
  · obtain ⟨⟨s, g, S, t, ns, xs, qs⟩, rfl, hp, q⟩ := h
    dsimp only at hp q
    obtain ⟨hS, wf, gv, hlen, hnd, hrows, hout, hsh, hsm⟩ := hp
    have e1 : (0, 1) = (ns.length, xs.length) := Option.some.inj hsh
    obtain rfl : ns = [] := List.eq_nil_of_length_eq_zero (congrArg Prod.fst e1).symm
    obtain ⟨l, rfl⟩ : ∃ l, xs = [l] := by
      match xs, congrArg Prod.snd e1 with
      | [l], _ => exact ⟨l, rfl⟩
    obtain ⟨ql, rfl⟩ : ∃ b, qs = [b] := by
      match qs, hlen with
      | [b], _ => exact ⟨b, rfl⟩
    have hl := hrows 0 ql l rfl rfl
    have hl100 := hsm l (by simp)
    have h8 : Vbecaf.mouths t ≤ 8 := wf.a8
    obtain ⟨dx, f, ap, r, rs, hA, s1, s2, s3, s4, s5⟩ := id hS
    refine q_asg (ev_op (ev_var rfl) ev_c (rv_ixLn (i := 0) (sq_of gv) rfl)) fun H1 x1 => ?_
    refine q_when (b := !(decide ((l.length : Int) = (Vbecaf.mouths t : Int)) && l.all fun v => decide (0 ≤ v))) (et_not (et_B (ev_pv (ql, l, (t.appetites.length : Int)) (ea_cons (ev_var rfl) (ea_cons (ev_lenM (ev_fld (ev_var rfl) (hA.ex x1).ob T.c_State T.n_State_appetites stF_app) (sq_of (hA.ex x1).app)) ea_nil)) fun H2 e2 => ⟨sq_of (e2 _ _ (x1 _ _ hl)), by dsimp only; omega⟩))) (fun hb H2 x2 => ?_) (fun hb H2 x2 => ?_)
    · refine s_retL (el_lst (ea_cons (ev_neg ev_c) ea_nil) (by decide)) fun b H3 nb x3 h3 => q _ _ (do_same (l := [-4]) hS ((x1.trans x2).trans x3) (fresh_back (x1.trans x2) nb) h3 ?_)
      have hb2 := not_t hb
      rw [step_can, if_neg]
      rintro ⟨k1, k2⟩
      rw [k2, Bool.and_true, decide_eq_false_iff_not] at hb2
      omega
    · have h1 := not_f hb
      rw [Bool.and_eq_true, decide_eq_true_eq] at h1
      obtain ⟨k1, k2⟩ := h1
      have k1' : l.length = Vbecaf.mouths t := by omega
      have hpos : ∀ x ∈ l, 0 ≤ x := fun x hx => of_decide_eq_true (List.all_eq_true.mp k2 x hx)
      have hxl : (l.map Int.toNat).length = Vbecaf.mouths t := by rw [List.length_map]; exact k1'
      have hl' : H ql = some (.lst ((l.map Int.toNat).map enN)) := by rw [enN_map hpos]; exact hl
      have y := x1.trans x2
      have h256 := two8 h8
      have hz : Vbecaf.step ⟨t⟩ [[7], l] = (⟨t⟩, match Vbecaf.overfull t (Vbecaf.mosts t) (l.map Int.toNat) with
        | none => [1]
        | some a => 0 :: Vbecaf.ints (Vbecaf.members t a)) := by
        rw [step_can, if_pos ⟨k1', k2⟩] <;> rfl
      refine q_asg (v := firstV (Vbecaf.overfull t (Vbecaf.mosts t) (l.map Int.toNat))) (ev_pv2L (fun p q => (p, q, sums2 (l.map Int.toNat), Vbecaf.mosts t)) (el_pl (ql, l.map Int.toNat) (ea_cons (ev_var rfl) ea_nil) fun H3 x3 => ⟨(y.trans x3) _ _ hl', by dsimp only; omega⟩) (el_pl (s, t) (ea_cons (ev_var rfl) ea_nil) fun H3 x3 => ⟨⟨S, hS.ex (y.trans x3)⟩, wf⟩) (fun _ _ => rfl) (fun p q H3 _ hp hq => ⟨hp, hq, by dsimp only; rw [sums2_len _ _ hxl, mosts_len], by dsimp only; rw [sums2_len _ _ hxl]; exact h256⟩) fun _ _ => by rw [overfull_first hxl]) fun H3 x3 => ?_
      have y3 := y.trans x3
      refine q_when (b := decide (firstV (Vbecaf.overfull t (Vbecaf.mosts t) (l.map Int.toNat)) = .non)) (et_test (ev_op (ev_var rfl) ev_c fun H1 _ _ q => ⟨rfl, q H1 (Ex.refl H1)⟩)) (fun hb2 H4 x4 => ?_) (fun hb2 H4 x4 => ?_)
      · have hb3 := of_decide_eq_true hb2
        refine s_retL (el_lst (ea_cons ev_c ea_nil) (by decide)) fun b H5 nb x5 h5 => q _ _ (do_same (l := [1]) hS ((y3.trans x4).trans x5) (fresh_back (y3.trans x4) nb) h5 ?_)
        rw [hz]
        cases ho : Vbecaf.overfull t (Vbecaf.mosts t) (l.map Int.toNat) with
        | none => rfl
        | some k => rw [ho] at hb3; cases hb3
      · have hb3 := of_decide_eq_false hb2
        cases ho : Vbecaf.overfull t (Vbecaf.mosts t) (l.map Int.toNat) with
        | none => rw [ho] at hb3; exact (hb3 rfl).elim
        | some k =>
          rw [ho] at hz
          have y4 := y3.trans x4
          have hk : k < 2 ^ Vbecaf.mouths t := (overfull_some.mp ho).1
          have hml : (Vbecaf.members t k).length ≤ 8 := Nat.le_trans (up_len (members_up t _) _ fun i hi => (mem_members.mp hi).1) h8
          refine s_retL (el_cat (xs := [.int 0]) (es_new (el_lst (ea_cons ev_c ea_nil) (by decide))) (es_ix (i := k) (l := (chs (List.range (Vbecaf.mouths t))).map (fun c : List Nat => c.map enN)) (xs := (Vbecaf.members t k).map enN) (ed_pdh (args := fun d : Nat => [.int (d : Int)]) (Vbecaf.mouths t) (ea_cons (ev_is (ev_lenM (en := V.int) (ev_var rfl) (sq_of (y4 _ _ hl))) (by rw [k1'])) ea_nil) (fun _ _ => h8) fun H5 v H6 _ _ h => h.lists) (ev_var rfl) ?_) (by rw [List.length_map]; show 1 + _ ≤ _; omega)) fun b H5 nb x5 h5 => q _ _ (do_same (l := 0 :: Vbecaf.ints (Vbecaf.members t k)) hS (y4.trans x5) (fresh_back y4 nb) ?_ hz)
          · rw [chs_members, List.map_map, List.getElem?_map, List.getElem?_range hk]
            rfl
          · rw [h5, enN_ints]
            rfl
theorem served_len {t : Vbecaf.Table} {f : List Nat} : ∀ (k : Nat) (x : List Nat), (Vbecaf.served t f k x).length = x.length
  | 0, _ => rfl
  | k + 1, x => by
    unfold Vbecaf.served
    split
    · rfl
    · rw [served_len k, List.length_set]
theorem wholes_len (t : Vbecaf.Table) : (Vbecaf.wholes t).length = Vbecaf.mouths t := by
  unfold Vbecaf.wholes
  dsimp only
  rw [served_len, List.length_replicate]
def sp_tell_whole (T : Txt K mg) : Sp := spDo T 10
theorem ok_tell_whole (T : Txt K mg) : FnOk P w K mg base CX0 5 T.a_tell_whole T.fd_tell_whole P_tell_whole (sp_tell_whole T) := by
  refine T.F_tell_whole.ok sc_tell_whole (fun vs H Q E h => ?_) (fun cdv A outer s H vs Q E hr h => ⟨_, (pss_one (ps_ret (pe_op op_cat (pe_lst (pa_cons pe_int pa_nil)) (pe_call (ok_whole_shares T) (hr.mono (by decide)) (by rfl) T.g_whole_shares T.F_whole_shares.kp T.b_whole_shares .nil pass0 (pa_cons (pv 0) pa_nil))))), ?_⟩)
  · obtain ⟨d, rfl, _⟩ := h
    rfl
  · obtain ⟨⟨s, g, S, t, ns, xs, qs⟩, rfl, hp, q⟩ := h
    dsimp only at hp q
    obtain ⟨hS, wf, gv, hlen, hnd, hrows, hout, hsh, hsm⟩ := hp
    have e1 : (0, 0) = (ns.length, xs.length) := Option.some.inj hsh
    obtain rfl : ns = [] := List.eq_nil_of_length_eq_zero (congrArg Prod.fst e1).symm
    obtain rfl : xs = [] := List.eq_nil_of_length_eq_zero (congrArg Prod.snd e1).symm
    have h8 : Vbecaf.mouths t ≤ 8 := wf.a8
    have hw := wholes_len t
    refine s_retL (el_cat (xs := [.int 0]) (es_new (el_lst (ea_cons ev_c ea_nil) (by decide))) (es_new (el_pl (s, t) (ea_cons (ev_var rfl) ea_nil) fun H3 x3 => ⟨⟨S, hS.ex x3⟩, wf⟩)) (by rw [List.length_map]; show 1 + _ ≤ _; dsimp only; omega)) fun b H3 nb x3 h3 => q _ _ (do_same (l := 0 :: Vbecaf.ints (Vbecaf.wholes t)) hS x3 nb ?_ rfl)
    rw [h3, enN_ints]
    rfl
end
end Tbl
set_option Elab.async false
set_option linter.all false
set_option maxRecDepth 100000
set_option maxHeartbeats 2000000
namespace Tbl
open PySem PySem.Spec PyProof.Rows L2 Evl
section
variable {P : Program} {w : World} {K : PySem.W.Frag} {mg : Str → Option Value} {base : Heap}
def lvRow (t : Vbecaf.Table) (x : Vbecaf.Frac × Nat) : List Int := (x.1.num : Int) :: (x.1.den : Int) :: ((Vbecaf.members t x.2).length : Int) :: Vbecaf.ints (Vbecaf.members t x.2)
theorem lvRow_len {t : Vbecaf.Table} (h8 : Vbecaf.mouths t ≤ 8) (x : Vbecaf.Frac × Nat) : (lvRow t x).length ≤ 11 := by
  have hml : (Vbecaf.members t x.2).length ≤ 8 := Nat.le_trans (up_len (members_up t _) _ fun i hi => (mem_members.mp hi).1) h8
  unfold lvRow Vbecaf.ints
  rw [List.length_cons, List.length_cons, List.length_cons, List.length_map]
  omega
theorem flat_len {α : Type} {f : α → List Int} {n : Nat} : ∀ (l : List α), (∀ x, (f x).length ≤ n) → (l.flatMap f).length ≤ l.length * n
  | [], _ => by simp
  | x :: l, h => by
    have ih := flat_len l h
    have := h x
    rw [List.flatMap_cons, List.length_append, List.length_cons, Nat.succ_mul]
    omega
def sp_tell_levels (T : Txt K mg) : Sp := spDo T 9
theorem ok_tell_levels (T : Txt K mg) : FnOk P w K mg base CX0 5 T.a_tell_levels T.fd_tell_levels P_tell_levels (sp_tell_levels T) := by
  refine T.F_tell_levels.ok sc_tell_levels (fun vs H Q E h => ?_) (fun cdv A outer s H vs Q E hr h => ⟨_, (pss_cons (ps_set (i := 2) sc_tell_levels.nd rfl (.inl rfl) (pe_lst (pa_cons pe_int pa_nil)))
      (pss_cons (ps_for PassesOwn.never rfl (pi_list (pe_call (ok_levels_of T) (hr.mono (by decide)) (by rfl) T.g_levels_of T.F_levels_of.kp T.b_levels_of .nil pass0 (pa_cons (pv 0) pa_nil))) (pg_name (i := 3) sc_tell_levels.nd rfl (.inl rfl))
      (pss_cons (ps_expr (pe_bm PySem.F.plainAttrs_list PySem.F.slot_list_extend PySem.F.type_list_extend mt_extend (pv 2) (pa_cons (pe_lst (pa_cons (pe_fld (pv 3) rfl) (pa_cons (pe_fld (pv 3) rfl) (pa_cons (pe_callB call_len_seq (by rfl) T.n_len PySem.boot_len (pa_cons (pe_fld (pv 3) rfl) pa_nil)) pa_nil)))) pa_nil)))
      (pss_one (ps_expr (pe_bm PySem.F.plainAttrs_list PySem.F.slot_list_extend PySem.F.type_list_extend mt_extend (pv 2) (pa_cons (pe_fld (pv 3) rfl) pa_nil))))))
      (pss_one (ps_ret (pv 2))))), ?_⟩)
  · obtain ⟨d, rfl, _⟩ := h
    rfl
  · obtain ⟨⟨s, g, S, t, ns, xs, qs⟩, rfl, hp, q⟩ := h
    dsimp only at hp q
    obtain ⟨hS, wf, gv, hlen, hnd, hrows, hout, hsh, hsm⟩ := hp
    have e1 : (0, 0) = (ns.length, xs.length) := Option.some.inj hsh
    obtain rfl : ns = [] := List.eq_nil_of_length_eq_zero (congrArg Prod.fst e1).symm
    obtain rfl : xs = [] := List.eq_nil_of_length_eq_zero (congrArg Prod.snd e1).symm
    have h8 : Vbecaf.mouths t ≤ 8 := wf.a8
    refine q_asgL (xs := [.int 0]) (el_lst (ea_cons ev_c ea_nil) (by decide)) fun b H1 nb x1 hb => ?_
    refine q_forD (R0 := fun p us H2 => H1 p = none ∧ All2 (LvR T t H1) (Vbecaf.allLevels t) us H2) (ed_pdh (args := fun d : Addr × Vbecaf.Table => [.ref d.1]) (s, t) (ea_cons (ev_var rfl) ea_nil) (fun H2 x2 => ⟨⟨S, hS.ex (x1.trans x2)⟩, wf⟩) fun H2 v H3 e2 _ h => ?_)
      (fun p us i σ' H' => (∃ y, σ' = [some (.ref s), some (.ref g), some (.ref b), y]) ∧ Ex H H' ∧ H1 p = none ∧ H' p = some (.lst us) ∧ All2 (LvR T t H1) (Vbecaf.allLevels t) us H' ∧ H' b = some (.lst ((0 :: ((Vbecaf.allLevels t).take i).flatMap (lvRow t)).map V.int))) ?_ ?_ ?_ ?_
    · obtain ⟨p, us, ev, np, hp, hus⟩ := h.back e2
      exact ⟨p, us, ev, hp, np, hus⟩
    · exact fun p us H2 e2 hp ⟨np, hus⟩ => ⟨⟨none, rfl⟩, x1.trans e2, np, hp, hus, by rw [List.take_zero]; exact e2 _ _ hb⟩
    · rintro p us i σ' H' _ ⟨_, _, _, hp, _⟩
      exact sq_of hp
    · rintro p us i v σ' H' hv ⟨⟨y, rfl⟩, e, np, hp, hus, hb'⟩
      have hi : i < (Vbecaf.allLevels t).length := by rw [hus.1]; exact (List.getElem?_eq_some_iff.mp hv).1
      obtain ⟨o, dx, m, rfl, no, ho, nm, hm⟩ := hus.2 i _ v (List.getElem?_eq_getElem hi) hv
      generalize hx : (Vbecaf.allLevels t)[i] = x at ho hm
      have hal := all_len t
      have hfl := flat_len ((Vbecaf.allLevels t).take i) (lvRow_len h8)
      have htk : ((Vbecaf.allLevels t).take i).length ≤ 8 := by rw [List.length_take]; omega
      have hml : (Vbecaf.members t x.2).length ≤ 8 := Nat.le_trans (up_len (members_up t _) _ fun i hi => (mem_members.mp hi).1) h8
      have nob : o ≠ b := (ne_of_none hb no).symm
      have nmb : m ≠ b := (ne_of_none hb nm).symm
      have npb : p ≠ b := (ne_of_none hb np).symm
      refine q_extL (ys := [.int (x.1.num : Int), .int (x.1.den : Int), .int ((Vbecaf.members t x.2).length : Int)]) hb' (ev_var rfl) (el_lst (ea_cons (ev_fld (ev_var rfl) ho T.c_Level T.n_Level_above lvF_above) (ea_cons (ev_fld (ev_var rfl) ho T.c_Level T.n_Level_below lvF_below) (ea_cons (ev_lenM (en := enN) (ev_fld (ev_var rfl) ho T.c_Level T.n_Level_mouths lvF_mouths) (sq_of hm)) ea_nil))) (by show 3 ≤ 100000; decide)) (by rw [List.length_map, List.length_cons]; show _ + 3 ≤ _; omega) fun H2 x2 => ?_
      refine s_ext (ys := (Vbecaf.members t x.2).map enN) upd_same (by rw [upd_ne nmb]; exact x2 _ _ hm) (ev_var rfl) (ev_fld (ev_var rfl) (by rw [upd_ne nob]; exact x2 _ _ ho) T.c_Level T.n_Level_mouths lvF_mouths) (by rw [List.length_append, List.length_map, List.length_cons, List.length_map]; show _ + 3 + _ ≤ _; omega) fun H3 x3 => ?_
      have ea := (e.trans x2).mut (o := .lst (((0 :: ((Vbecaf.allLevels t).take i).flatMap (lvRow t)).map V.int) ++ [.int (x.1.num : Int), .int (x.1.den : Int), .int ((Vbecaf.members t x.2).length : Int)])) nb
      refine ⟨⟨_, rfl⟩, (ea.trans x3).mut nb, np, ?_, ?_, ?_⟩
      · rw [upd_ne npb]
        refine x3 _ _ ?_
        rw [upd_ne npb]
        exact x2 _ _ hp
      · refine hus.imp fun x v ⟨o, dx, m, a1, a2, a3, a4, a5⟩ => ⟨o, dx, m, a1, a2, ?_, a4, ?_⟩
        · rw [upd_ne (ne_of_none hb a2).symm]
          refine x3 _ _ ?_
          rw [upd_ne (ne_of_none hb a2).symm]
          exact x2 _ _ a3
        · rw [upd_ne (ne_of_none hb a4).symm]
          refine x3 _ _ ?_
          rw [upd_ne (ne_of_none hb a4).symm]
          exact x2 _ _ a5
      · rw [upd_same, List.take_add_one, List.getElem?_eq_getElem hi, hx, List.flatMap_append, enN_ints]
        have e3 : List.flatMap (lvRow t) (some x).toList = lvRow t x := by
          show lvRow t x ++ [] = _
          exact List.append_nil _
        rw [e3]
        simp only [List.map_cons, List.map_append, List.cons_append, List.append_assoc]
        rfl
    · rintro p us σ' H' ⟨⟨y, rfl⟩, e, np, hp, hus, hb'⟩
      rw [← hus.1, List.take_length] at hb'
      exact s_ret (ev_var rfl) fun H2 x2 => q _ _ (do_same hS (e.trans x2) nb (x2 _ _ hb') rfl)
theorem set_range {n k : Nat} {f : Nat → V} {v : V} (hk : k < n) : ((List.range n).map f).set k v = (List.range n).map fun i => if i = k then v else f i := by
  apply List.ext_getElem?
  intro i
  rw [List.getElem?_set, List.length_map, List.length_range]
  by_cases h : k = i
  · subst h
    rw [if_pos rfl, if_pos hk, List.getElem?_map, List.getElem?_range hk]
    simp
  · rw [if_neg h, List.getElem?_map, List.getElem?_map]
    by_cases hi : i < n
    · rw [List.getElem?_range hi]
      simp [Ne.symm h]
    · rw [List.getElem?_eq_none_iff.mpr (by rw [List.length_range]; omega)]
      rfl
def fracRow (x : Vbecaf.Frac) : List Int := [(x.num : Int), (x.den : Int)]
def sp_tell_fair (T : Txt K mg) : Sp := spDo T 8
theorem ok_tell_fair (T : Txt K mg) : FnOk P w K mg base CX0 5 T.a_tell_fair T.fd_tell_fair P_tell_fair (sp_tell_fair T) := by
  refine T.F_tell_fair.ok sc_tell_fair (fun vs H Q E h => ?_) (fun cdv A outer s H vs Q E hr h => ⟨_, (pss_cons (ps_setLc (i := 2) (own := [("appetite", 9)]) (g := gName 9) (tt := tYes) rfl sc_tell_fair.nd rfl rfl (sw_true rfl rfl rfl (by decide +kernel)) (pi_list (pe_fld (pv 0) rfl)) (blkOk_by (own := [("appetite", 9)]) (N := N_tell_fair) (sc := defScope s_tell_fair) (by decide +kernel)) (fun _ _ _ _ _ => (pg_name (i := 9) sc_tell_fair.nd rfl (.inl rfl))) (fun _ _ _ _ _ => pts_nil) (fun _ _ _ _ _ => pe_int))
      (pss_cons (ps_setLc (i := 3) (own := [("appetite", 9)]) (g := gName 9) (tt := tYes) rfl sc_tell_fair.nd rfl rfl (sw_true rfl rfl rfl (by decide +kernel)) (pi_list (pe_fld (pv 0) rfl)) (blkOk_by (own := [("appetite", 9)]) (N := N_tell_fair) (sc := defScope s_tell_fair) (by decide +kernel)) (fun _ _ _ _ _ => (pg_name (i := 9) sc_tell_fair.nd rfl (.inl rfl))) (fun _ _ _ _ _ => pts_nil) (fun _ _ _ _ _ => pe_int))
      (pss_cons (ps_for PassesOwn.never rfl (pi_list (pe_call (ok_levels_of T) (hr.mono (by decide)) (by rfl) T.g_levels_of T.F_levels_of.kp T.b_levels_of .nil pass0 (pa_cons (pv 0) pa_nil))) (pg_name (i := 4) sc_tell_fair.nd rfl (.inl rfl))
      (pss_one (ps_for PassesOwn.never rfl (pi_list (pe_fld (pv 4) rfl)) (pg_name (i := 5) sc_tell_fair.nd rfl (.inl rfl))
      (pss_cons (ps_asg (pe_fld (pv 4) rfl) (pg_sub (pv 2) (pv 5) set_list))
      (pss_one (ps_asg (pe_fld (pv 4) rfl) (pg_sub (pv 3) (pv 5) set_list)))))))
      (pss_cons (ps_set (i := 6) sc_tell_fair.nd rfl (.inl rfl) (pe_lst (pa_cons pe_int pa_nil)))
      (pss_cons (ps_for PassesOwn.never rfl (pi_zip (by rfl) T.n_zip (pa_cons (pv 2) (pa_cons (pv 3) pa_nil))) (pg_tup rfl (pgs_cons (pg_name (i := 7) sc_tell_fair.nd rfl (.inl rfl)) (pgs_cons (pg_name (i := 8) sc_tell_fair.nd rfl (.inl rfl)) pgs_nil)))
      (pss_one (ps_expr (pe_bm PySem.F.plainAttrs_list PySem.F.slot_list_extend PySem.F.type_list_extend mt_extend (pv 6) (pa_cons (pe_lst (pa_cons (pv 7) (pa_cons (pv 8) pa_nil))) pa_nil)))))
      (pss_one (ps_ret (pv 6)))))))), ?_⟩)
  · obtain ⟨d, rfl, _⟩ := h
    rfl
  · obtain ⟨⟨s, g, S, t, ns, xs, qs⟩, rfl, hp, q⟩ := h
    dsimp only at hp q
    obtain ⟨hS, wf, gv, hlen, hnd, hrows, hout, hsh, hsm⟩ := hp
    have e1 : (0, 0) = (ns.length, xs.length) := Option.some.inj hsh
    obtain rfl : ns = [] := List.eq_nil_of_length_eq_zero (congrArg Prod.fst e1).symm
    obtain rfl : xs = [] := List.eq_nil_of_length_eq_zero (congrArg Prod.snd e1).symm
    have h8 : Vbecaf.mouths t ≤ 8 := wf.a8
    obtain ⟨dx, f, ap, r, rs, hA, s1, s2, s3, s4, s5⟩ := id hS
    have ez : ∀ z : V, ((List.range (Vbecaf.mouths t)).map fun _ => z) = t.appetites.map fun _ => z := fun z => by
      apply List.ext_getElem
      · rw [List.length_map, List.length_map, List.length_range]; rfl
      · intro i h1 h2
        rw [List.getElem_map, List.getElem_map]
    refine q_asgL (xs := (List.range (Vbecaf.mouths t)).map fun _ => V.int 0) ?_ fun a H1 na x1 ha => ?_
    · rw [ez]
      exact el_compAll (en := enN) _ (ev_fld (ev_var rfl) hA.ob T.c_State T.n_State_appetites stF_app) (sq_of hA.app) (by show Vbecaf.mouths t ≤ _; omega) (fun _ => rfl) fun x H3 e3 _ => ev_c
    refine q_asgL (xs := (List.range (Vbecaf.mouths t)).map fun _ => V.int 1) ?_ fun b H2 nb x2 hb => ?_
    · rw [ez]
      exact el_compAll (en := enN) _ (ev_fld (ev_var rfl) (hA.ex x1).ob T.c_State T.n_State_appetites stF_app) (sq_of (hA.ex x1).app) (by show Vbecaf.mouths t ≤ _; omega) (fun _ => rfl) fun x H3 e3 _ => ev_c
    have nab : a ≠ b := ne_of_none ha nb
    have nbH : H b = none := fresh_back x1 nb
    have ha2 := x2 _ _ ha
    have y2 := x1.trans x2
    refine q_forD (R0 := fun p us H3 => H2 p = none ∧ All2 (LvR T t H2) (Vbecaf.allLevels t) us H3) (ed_pdh (args := fun d : Addr × Vbecaf.Table => [.ref d.1]) (s, t) (ea_cons (ev_var rfl) ea_nil) (fun H3 x3 => ⟨⟨S, hS.ex (y2.trans x3)⟩, wf⟩) fun H3 v H4 e3 _ h => ?_)
      (fun p us i σ' H' => (∃ y4 y5, σ' = [some (.ref s), some (.ref g), some (.ref a), some (.ref b), y4, y5, none, none, none, none]) ∧ Ex H H' ∧ H2 p = none ∧ H' p = some (.lst us) ∧ All2 (LvR T t H2) (Vbecaf.allLevels t) us H' ∧
        H' a = some (.lst ((List.range (Vbecaf.mouths t)).map fun j => V.int ((fairOf ((Vbecaf.allLevels t).take i) j).num : Int))) ∧ H' b = some (.lst ((List.range (Vbecaf.mouths t)).map fun j => V.int ((fairOf ((Vbecaf.allLevels t).take i) j).den : Int)))) ?_ ?_ ?_ ?_
    · obtain ⟨p, us, ev, np, hp, hus⟩ := h.back e3
      exact ⟨p, us, ev, hp, np, hus⟩
    · exact fun p us H3 e3 hp ⟨np, hus⟩ => ⟨⟨none, none, rfl⟩, y2.trans e3, np, hp, hus, e3 _ _ ha2, e3 _ _ hb⟩
    · rintro p us i σ' H' _ ⟨_, _, _, hp, _⟩
      exact sq_of hp
    · rintro p us i v σ' H' hv ⟨⟨y4, y5, rfl⟩, e, np, hp, hus, hA', hB'⟩
      have hi : i < (Vbecaf.allLevels t).length := by rw [hus.1]; exact (List.getElem?_eq_some_iff.mp hv).1
      have hxi : (Vbecaf.allLevels t)[i]? = some (Vbecaf.allLevels t)[i] := List.getElem?_eq_getElem hi
      obtain ⟨o, dxo, m, rfl, no, ho, nm, hm⟩ := hus.2 i _ v hxi hv
      generalize hx : (Vbecaf.allLevels t)[i] = x at ho hm hxi
      have npa : p ≠ a := (ne_of_none ha2 np).symm
      have npb : p ≠ b := (ne_of_none hb np).symm
      have noa : o ≠ a := (ne_of_none ha2 no).symm
      have nob : o ≠ b := (ne_of_none hb no).symm
      have nma : m ≠ a := (ne_of_none ha2 nm).symm
      have nmb : m ≠ b := (ne_of_none hb nm).symm
      -- what stays under a store into the two lists
      have keep : ∀ (Ha Hb : Hp) (o1 o2 : HO), Ex (upd Ha a o1) Hb → ∀ c u, c ≠ a → c ≠ b → Ha c = some u → (upd Hb b o2) c = some u := fun Ha Hb o1 o2 ee c u c1 c2 hc => by
        rw [upd_ne c2]
        refine ee _ _ ?_
        rw [upd_ne c1]
        exact hc
      refine s_forLn (xs := (Vbecaf.members t x.2).map enN) (ev_fld (ev_var rfl) ho T.c_Level T.n_Level_mouths lvF_mouths) (sq_of hm)
        (fun j σ2 H3 => (∃ y5, σ2 = [some (.ref s), some (.ref g), some (.ref a), some (.ref b), some (.ref o), y5, none, none, none, none]) ∧ Ex H H3 ∧ H3 p = some (.lst us) ∧ All2 (LvR T t H2) (Vbecaf.allLevels t) us H3 ∧ H3 o = some (.ins T.C_Level dxo (lvF (x.1.num : Int) (x.1.den : Int) m)) ∧ H3 m = some (.lst ((Vbecaf.members t x.2).map enN)) ∧
          H3 a = some (.lst ((List.range (Vbecaf.mouths t)).map fun k => V.int (if k ∈ (Vbecaf.members t x.2).take j then (x.1.num : Int) else ((fairOf ((Vbecaf.allLevels t).take i) k).num : Int)))) ∧ H3 b = some (.lst ((List.range (Vbecaf.mouths t)).map fun k => V.int (if k ∈ (Vbecaf.members t x.2).take j then (x.1.den : Int) else ((fairOf ((Vbecaf.allLevels t).take i) k).den : Int))))) ?_ ?_ ?_ ?_
      · refine fun H3 x3 => ⟨⟨y5, rfl⟩, e.trans x3, x3 _ _ hp, hus.imp fun x v ⟨o, dx, m, a1, a2, a3, a4, a5⟩ => ⟨o, dx, m, a1, a2, x3 _ _ a3, a4, x3 _ _ a5⟩, x3 _ _ ho, x3 _ _ hm, ?_, ?_⟩
        · rw [List.take_zero]
          simp only [List.not_mem_nil, if_false]
          exact x3 _ _ hA'
        · rw [List.take_zero]
          simp only [List.not_mem_nil, if_false]
          exact x3 _ _ hB'
      · rintro j σ2 H3 _ ⟨_, _, _, _, _, h, _⟩
        exact sq_of h
      · rintro j v σ2 H3 hj ⟨⟨y5, rfl⟩, e3, hp3, hus3, ho3, hm3, ha3, hb3⟩
        rw [List.getElem?_map] at hj
        cases hk : (Vbecaf.members t x.2)[j]? with
        | none => rw [hk] at hj; cases hj
        | some k =>
          rw [hk] at hj
          cases hj
          have hkl : k < Vbecaf.mouths t := (mem_members.mp (List.mem_of_getElem? hk)).1
          refine q_setL (j := k) ha3 (ev_fld (ev_var rfl) ho3 T.c_Level T.n_Level_above lvF_above) (ev_var rfl) (ev_var rfl) (by rw [List.length_map, List.length_range]; exact hkl) fun H4 x4 => ?_
          have ho4 : (upd H4 a (.lst (((List.range (Vbecaf.mouths t)).map fun k => V.int (if k ∈ (Vbecaf.members t x.2).take j then (x.1.num : Int) else ((fairOf ((Vbecaf.allLevels t).take i) k).num : Int))).set k (.int (x.1.num : Int))))) o = some (.ins T.C_Level dxo (lvF (x.1.num : Int) (x.1.den : Int) m)) := by
            rw [upd_ne noa]
            exact x4 _ _ ho3
          have hb4 : (upd H4 a (.lst (((List.range (Vbecaf.mouths t)).map fun k => V.int (if k ∈ (Vbecaf.members t x.2).take j then (x.1.num : Int) else ((fairOf ((Vbecaf.allLevels t).take i) k).num : Int))).set k (.int (x.1.num : Int))))) b = some (.lst ((List.range (Vbecaf.mouths t)).map fun k => V.int (if k ∈ (Vbecaf.members t x.2).take j then (x.1.den : Int) else ((fairOf ((Vbecaf.allLevels t).take i) k).den : Int)))) := by
            rw [upd_ne nab.symm]
            exact x4 _ _ hb3
          refine s_setL (j := k) hb4 (ev_fld (ev_var rfl) ho4 T.c_Level T.n_Level_below lvF_below) (ev_var rfl) (ev_var rfl) (by rw [List.length_map, List.length_range]; exact hkl) fun H5 x5 => ?_
          have tk1 : ∀ (z1 z2 : Nat → Int) (k' : Nat), (if k' = k then V.int (z1 k') else V.int (if k' ∈ (Vbecaf.members t x.2).take j then z1 k' else z2 k')) = V.int (if k' ∈ (Vbecaf.members t x.2).take (j + 1) then z1 k' else z2 k') := fun z1 z2 k' => by
            rw [List.take_add_one, hk]
            by_cases c1 : k' = k
            · rw [if_pos c1, if_pos (by simp [c1])]
            · rw [if_neg c1]
              by_cases c2 : k' ∈ (Vbecaf.members t x.2).take j
              · rw [if_pos c2, if_pos (by simp [c2])]
              · rw [if_neg c2, if_neg (by simp [c1, c2])]
          refine ⟨⟨_, rfl⟩, (((e3.trans x4).mut na).trans x5).mut nbH, keep _ _ _ _ x5 _ _ npa npb (x4 _ _ hp3), ?_, keep _ _ _ _ x5 _ _ noa nob (x4 _ _ ho3), keep _ _ _ _ x5 _ _ nma nmb (x4 _ _ hm3), ?_, ?_⟩
          · exact hus3.imp fun x v ⟨o, dx, m, a1, a2, a3, a4, a5⟩ => ⟨o, dx, m, a1, a2, keep _ _ _ _ x5 _ _ (ne_of_none ha2 a2).symm (ne_of_none hb a2).symm (x4 _ _ a3), a4, keep _ _ _ _ x5 _ _ (ne_of_none ha2 a4).symm (ne_of_none hb a4).symm (x4 _ _ a5)⟩
          · rw [upd_ne nab, x5 _ _ upd_same, set_range hkl]
            congr 2
            apply List.map_congr_left
            intro k' _
            exact tk1 (fun _ => (x.1.num : Int)) (fun k => ((fairOf ((Vbecaf.allLevels t).take i) k).num : Int)) k'
          · rw [upd_same, set_range hkl]
            congr 2
            apply List.map_congr_left
            intro k' _
            exact tk1 (fun _ => (x.1.den : Int)) (fun k => ((fairOf ((Vbecaf.allLevels t).take i) k).den : Int)) k'
      · rintro σ2 H3 ⟨⟨y5, rfl⟩, e3, hp3, hus3, ho3, hm3, ha3, hb3⟩
        rw [List.length_map, List.take_length] at ha3 hb3
        have hdis : ∀ k, x.2.testBit k = true → ∀ y ∈ (Vbecaf.allLevels t).take i, y.2.testBit k = false := fun k hk y hy => pair_take (all_pair t) hxi y hy k hk
        have hto : (Vbecaf.allLevels t).take (i + 1) = (Vbecaf.allLevels t).take i ++ [x] := by
          rw [List.take_add_one, hxi]
          rfl
        refine ⟨⟨_, _, rfl⟩, e3, np, hp3, hus3, ?_, ?_⟩
        · rw [ha3]
          congr 2
          apply List.map_congr_left
          intro k hk
          rw [hto, fairOf_snoc (hdis k)]
          by_cases c : x.2.testBit k = true
          · rw [if_pos (mem_members.mpr ⟨List.mem_range.mp hk, c⟩), if_pos c]
          · rw [if_neg (fun z => c (mem_members.mp z).2), if_neg c]
        · rw [hb3]
          congr 2
          apply List.map_congr_left
          intro k hk
          rw [hto, fairOf_snoc (hdis k)]
          by_cases c : x.2.testBit k = true
          · rw [if_pos (mem_members.mpr ⟨List.mem_range.mp hk, c⟩), if_pos c]
          · rw [if_neg (fun z => c (mem_members.mp z).2), if_neg c]
    · rintro p us σ' H' ⟨⟨y4, y5, rfl⟩, e, np, hp, hus, hA', hB'⟩
      rw [← hus.1, List.take_length] at hA' hB'
      refine q_asgL (xs := [.int 0]) (el_lst (ea_cons ev_c ea_nil) (by decide)) fun c H3 nc x3 hc => ?_
      have nca : c ≠ a := (ne_of_none hA' nc).symm
      have ncb : c ≠ b := (ne_of_none hB' nc).symm
      have ncH : H c = none := fresh_back e nc
      refine q_forZ (ea_cons (ev_var rfl) (ea_cons (ev_var rfl) ea_nil)) (sq_of (x3 _ _ hA')) (sq_of (x3 _ _ hB')) (by rw [List.length_map, List.length_map])
        (fun i σ' H' => (∃ y7 y8, σ' = [some (.ref s), some (.ref g), some (.ref a), some (.ref b), y4, y5, some (.ref c), y7, y8, none]) ∧ Ex H H' ∧ H' a = some (.lst ((List.range (Vbecaf.mouths t)).map fun j => V.int ((fairOf (Vbecaf.allLevels t) j).num : Int))) ∧ H' b = some (.lst ((List.range (Vbecaf.mouths t)).map fun j => V.int ((fairOf (Vbecaf.allLevels t) j).den : Int))) ∧ H' c = some (.lst ((0 :: ((Vbecaf.fair t).take i).flatMap fracRow).map V.int))) ?_ ?_ ?_ ?_
      · exact fun H4 x4 => ⟨⟨none, none, rfl⟩, (e.trans x3).trans x4, (x3.trans x4) _ _ hA', (x3.trans x4) _ _ hB', by rw [List.take_zero]; exact x4 _ _ hc⟩
      · rintro i σ' H' ⟨_, _, h1, h2, _⟩
        exact ⟨sq_of h1, sq_of h2⟩
      · rintro i x y σ' H' TT hx hy ⟨⟨y7, y8, rfl⟩, e4, ha4, hb4, hc4⟩ nT
        have hi : i < Vbecaf.mouths t := by
          have := (List.getElem?_eq_some_iff.mp hx).1
          rw [List.length_map, List.length_range] at this
          exact this
        rw [List.getElem?_map, List.getElem?_range hi] at hx hy
        cases hx
        cases hy
        have eT := Ex.new (o := .tup [V.int ((fairOf (Vbecaf.allLevels t) i).num : Int), V.int ((fairOf (Vbecaf.allLevels t) i).den : Int)]) nT
        have hfi : (Vbecaf.fair t)[i]? = some (fairOf (Vbecaf.allLevels t) i) := by
          rw [fair_eq, List.getElem?_map, List.getElem?_range hi]
          rfl
        have hfl := flat_len (n := 2) ((Vbecaf.fair t).take i) (f := fracRow) fun _ => Nat.le_refl _
        have hft : ((Vbecaf.fair t).take i).length ≤ 8 := by rw [List.length_take]; omega
        refine s_extL (ys := [.int ((fairOf (Vbecaf.allLevels t) i).num : Int), .int ((fairOf (Vbecaf.allLevels t) i).den : Int)]) (eT _ _ hc4) (ev_var rfl) (el_lst (ea_cons (ev_var rfl) (ea_cons (ev_var rfl) ea_nil)) (by show 2 ≤ 100000; decide)) (by rw [List.length_map, List.length_cons]; show _ + 2 ≤ _; omega) fun H5 x5 => ?_
        refine ⟨⟨_, _, rfl⟩, ((e4.trans eT).trans x5).mut ncH, ?_, ?_, ?_⟩
        · rw [upd_ne nca.symm]
          exact (eT.trans x5) _ _ ha4
        · rw [upd_ne ncb.symm]
          exact (eT.trans x5) _ _ hb4
        · rw [upd_same, List.take_add_one, hfi, List.flatMap_append]
          have e3 : List.flatMap fracRow (some (fairOf (Vbecaf.allLevels t) i)).toList = fracRow (fairOf (Vbecaf.allLevels t) i) := by
            show fracRow _ ++ [] = _
            exact List.append_nil _
          rw [e3]
          simp only [List.map_cons, List.map_append, List.cons_append]
          rfl
      · rintro σ' H' ⟨⟨y7, y8, rfl⟩, e4, ha4, hb4, hc4⟩
        have hfl : (Vbecaf.fair t).length = Vbecaf.mouths t := by rw [fair_eq, List.length_map, List.length_range]
        rw [List.length_map, List.length_range, ← hfl, List.take_length] at hc4
        exact s_ret (ev_var rfl) fun H5 x5 => q _ _ (do_same hS (e4.trans x5) ncH (x5 _ _ hc4) rfl)
end
end Tbl
set_option Elab.async false
set_option linter.all false
set_option maxRecDepth 100000
set_option maxHeartbeats 2000000
namespace Tbl
open PySem PySem.Spec PyProof.Rows L2 Evl
section
variable {P : Program} {w : World} {K : PySem.W.Frag} {mg : Str → Option Value} {base : Heap}
def sp_rename_mouths (T : Txt K mg) : Sp := spDo T 11
theorem ok_rename_mouths (T : Txt K mg) : FnOk P w K mg base CX0 2 T.a_rename_mouths T.fd_rename_mouths P_rename_mouths (sp_rename_mouths T) := by
  refine T.F_rename_mouths.ok sc_rename_mouths (fun vs H Q E h => ?_) (fun cdv A outer s H vs Q E hr h => ⟨_, (pss_cons (ps_set (i := 2) sc_rename_mouths.nd rfl (.inl rfl) (pe_ix ix_list (pv 1) pe_int (fun _ _ => rfl)))
      (pss_cons (ps_if (pt_not (pt_val (pe_call (ok_is_order T) (hr.mono (by decide)) (by rfl) T.g_is_order T.F_is_order.kp T.b_is_order .nil pass0 (pa_cons (pv 2) (pa_cons (pe_callB call_len_seq (by rfl) T.n_len PySem.boot_len (pa_cons (pe_fld (pv 0) rfl) pa_nil)) pa_nil)))))
      (pss_one (ps_ret (pe_lst (pa_cons (pe_un un_neg pe_int) pa_nil))))
      pss_nil)
      (pss_cons (ps_fld (pv 0) (pe_lc (own := [("mouth", 3)]) (g := gName 3) (tt := tYes) (te := (tOp (rIxL K) (tFld K _ "appetites") _)) rfl sc_rename_mouths.nd (pi_list (pv 2)) (blkOk_by (own := [("mouth", 3)]) (N := N_rename_mouths) (sc := defScope s_rename_mouths) (by decide +kernel)) (fun _ _ _ _ _ => (pg_name (i := 3) sc_rename_mouths.nd rfl (.inl rfl))) (fun _ _ _ _ _ => pts_nil) (fun _ _ _ _ _ => (pe_ix ix_list (pe_fld (pv 0) rfl) (pv 3) (fun _ _ => rfl)))) rfl)
      (pss_cons (ps_fld (pv 0) (pe_lc (own := [("mouth", 3)]) (g := gName 3) (tt := tYes) (te := (tOp (rIxL K) (tFld K _ "reaches") _)) rfl sc_rename_mouths.nd (pi_list (pv 2)) (blkOk_by (own := [("mouth", 3)]) (N := N_rename_mouths) (sc := defScope s_rename_mouths) (by decide +kernel)) (fun _ _ _ _ _ => (pg_name (i := 3) sc_rename_mouths.nd rfl (.inl rfl))) (fun _ _ _ _ _ => pts_nil) (fun _ _ _ _ _ => (pe_ix ix_list (pe_fld (pv 0) rfl) (pv 3) (fun _ _ => rfl)))) rfl)
      (pss_one (ps_ret (pe_lst (pa_cons pe_int pa_nil)))))))), ?_⟩)
  · obtain ⟨d, rfl, _⟩ := h
    rfl
  · obtain ⟨⟨s, g, S, t, ns, xs, qs⟩, rfl, hp, q⟩ := h
    dsimp only at hp q
    obtain ⟨hS, wf, gv, hlen, hnd, hrows, hout, hsh, hsm⟩ := hp
    have e1 : (0, 1) = (ns.length, xs.length) := Option.some.inj hsh
    obtain rfl : ns = [] := List.eq_nil_of_length_eq_zero (congrArg Prod.fst e1).symm
    obtain ⟨l, rfl⟩ : ∃ l, xs = [l] := by
      match xs, congrArg Prod.snd e1 with
      | [l], _ => exact ⟨l, rfl⟩
    obtain ⟨ql, rfl⟩ : ∃ b, qs = [b] := by
      match qs, hlen with
      | [b], _ => exact ⟨b, rfl⟩
    have hl := hrows 0 ql l rfl rfl
    have hl100 := hsm l (by simp)
    have h8 : Vbecaf.mouths t ≤ 8 := wf.a8
    obtain ⟨dx, f, ap, r, rs, hA, s1, s2, s3, s4, s5⟩ := id hS
    have hst : Vbecaf.step ⟨t⟩ [[11], l] = if Vbecaf.isOrder (Vbecaf.mouths t) l = true then (Vbecaf.put (Vbecaf.renamed t (l.map Int.toNat)), [0]) else (⟨t⟩, [-5]) := rfl
    refine q_asg (ev_op (ev_var rfl) ev_c (rv_ixLn (i := 0) (sq_of gv) rfl)) fun H1 x1 => ?_
    refine q_when (b := !Vbecaf.isOrder (Vbecaf.mouths t) l) (et_not (et_B (ev_pv (ql, l, Vbecaf.mouths t) (ea_cons (ev_var rfl) (ea_cons (ev_lenM (ev_fld (ev_var rfl) (hA.ex x1).ob T.c_State T.n_State_appetites stF_app) (sq_of (hA.ex x1).app)) ea_nil)) fun H2 e2 => ⟨sq_of (e2 _ _ (x1 _ _ hl)), by dsimp only; omega⟩))) (fun hb H2 x2 => ?_) (fun hb H2 x2 => ?_)
    · refine s_retL (el_lst (ea_cons (ev_neg ev_c) ea_nil) (by decide)) fun b H3 nb x3 h3 => q _ _ (do_same (l := [-5]) hS ((x1.trans x2).trans x3) (fresh_back (x1.trans x2) nb) h3 ?_)
      rw [hst, if_neg (by rw [not_t hb]; decide)]
    have ho := not_f hb
    have hm := order_mem ho
    have y2 := x1.trans x2
    have hz : Vbecaf.step ⟨t⟩ [[11], l] = (Vbecaf.put (Vbecaf.renamed t (l.map Int.toNat)), [0]) := by rw [hst, if_pos ho]
    have hl' : H ql = some (.lst ((l.map Int.toNat).map enN)) := by rw [enN_map fun x hx => (hm.2 x hx).1]; exact hl
    have hlt : ∀ i ∈ l.map Int.toNat, i < t.appetites.length := fun i hi => by
      obtain ⟨x, hx, rfl⟩ := List.mem_map.mp hi
      have := hm.2 x hx
      unfold Vbecaf.mouths at this
      omega
    generalize hL : l.map Int.toNat = L at *
    have hLl : L.length = Vbecaf.mouths t := by rw [← hL, List.length_map]; exact hm.1
    have hql2 := y2 _ _ hl'
    refine q_fldL (xs := (L.map fun i => Vbecaf.at_ t.appetites i).map enN) ?_ (ev_var rfl) (hA.ex y2).ob T.c_State T.n_State_appetites (by show 3 < 1000; decide) fun na H3 nna x3 hna => ?_
    · rw [List.map_map]
      exact el_compAll (en := enN) _ (ev_var rfl) (sq_of hql2) (by omega) (fun _ => rfl) fun i H4 e4 hi => ev_op (ev_fld (ev_var rfl) (hA.ex (y2.trans e4)).ob T.c_State T.n_State_appetites stF_app) (ev_var rfl) (rv_ixLn (sq_of (hA.ex (y2.trans e4)).app) (get_at (l := t.appetites) (hlt i hi)))
    rw [stF_pa]
    have y3 := y2.trans x3
    have f3 : Fr (fun x => x = s) H (upd H3 s (.ins T.C_State dx (stF f na r))) := y3.fr.trans fr_one
    have nqs : ql ≠ s := fun z => hout ql (by simp) (by rw [z]; exact s1)
    have nrs : r ≠ s := (ne_of hA.ob hA.re (by intro z; cases z)).symm
    have nfs : f ≠ s := (ne_of hA.ob hA.fo (by intro z; cases z)).symm
    have nas : na ≠ s := (ne_of_none (y2 _ _ hA.ob) nna).symm
    have hrl : ∀ i ∈ L, i < rs.length := fun i hi => by rw [hA.len, wf.rl]; exact hlt i hi
    refine q_fldL (xs := (L.map fun i => rs.getD i s).map V.ref) ?_ (ev_var rfl) upd_same T.c_State T.n_State_reaches (by show 3 < 1000; decide) fun nr H4 nnr x4 hnr => ?_
    · rw [List.map_map]
      refine el_compAll (en := enN) _ (ev_var rfl) (sq_of (f3 _ _ hl' nqs)) (by omega) (fun _ => rfl) fun i H4 e4 hi => ?_
      refine ev_op (ev_fld (ev_var rfl) (e4 _ _ upd_same) T.c_State T.n_State_reaches stF_re) (ev_var rfl) (rv_ixLn (sq_of (e4 _ _ (f3 _ _ hA.re nrs))) ?_)
      rw [List.getElem?_map, List.getElem?_eq_getElem (hrl i hi)]
      show some (V.ref _) = some (V.ref (rs.getD i s))
      rw [List.getD_eq_getElem?_getD, List.getElem?_eq_getElem (hrl i hi)]
      rfl
    rw [stF_pr]
    have f4 : Fr (fun x => x = s) H (upd H4 s (.ins T.C_State dx (stF f na nr))) := (f3.trans x4.fr).trans fr_one
    have nnrs : nr ≠ s := ne_of_none_rev nnr upd_same
    have nnrH : H nr = none := f3.fresh nnr nnrs
    have nnaH : H na = none := fresh_back y2 nna
    have hna4 : H4 na = some (.lst ((L.map fun i => Vbecaf.at_ t.appetites i).map enN)) := x4 _ _ (by rw [upd_ne nas]; exact hna)
    have nan : na ≠ nr := ne_of_none (show (upd H3 s (.ins T.C_State dx (stF f na r))) na = some _ by rw [upd_ne nas]; exact hna) nnr
    refine s_retL (el_lst (ea_cons ev_c ea_nil) (by decide)) fun b H5 nb x5 h5 => ?_
    have nbs : b ≠ s := fun z => by
      rw [z, upd_same] at nb
      cases nb
    have hgr : ∀ i ∈ L, rs.getD i s ∈ rs := fun i hi => by
      rw [List.getD_eq_getElem?_getD, List.getElem?_eq_getElem (hrl i hi)]
      exact List.getElem_mem (hrl i hi)
    have hq : ∀ x, x ∈ (L.map fun i => rs.getD i s) → x ∈ rs := fun x hx => by
      obtain ⟨i, hi, rfl⟩ := List.mem_map.mp hx
      exact hgr i hi
    have hrowne : ∀ x ∈ rs, x ≠ s ∧ H x ≠ none := fun x hx => by
      obtain ⟨i, hi⟩ := List.mem_iff_getElem?.mp hx
      have hil : i < t.reach.length := by rw [← hA.len]; exact (List.getElem?_eq_some_iff.mp hi).1
      have h0 := hA.rows i x _ hi (List.getElem?_eq_getElem hil)
      exact ⟨(ne_of hA.ob h0 (by intro z; cases z)).symm, by rw [h0]; intro z; cases z⟩
    have f5 := f4.trans x5.fr
    refine q _ _ ⟨b, rfl, f4.fresh nb nbs, ?_, ?_, f5.mono fun z h => by rw [h]; exact s1⟩
    · rw [hz]
      exact h5
    · rw [hz]
      refine ⟨dx, f, na, nr, L.map fun i => rs.getD i s, ⟨x5 _ _ upd_same, f5 _ _ hA.fo nfs, x5 _ _ ?_, x5 _ _ ?_, ?_, ?_, ?_, ?_, nan, ?_, ?_, ?_⟩, .inl s1, .inl s2, .inr (.inr nnaH), .inr (.inr nnrH), fun c hc => .inl (s5 c (hq c hc))⟩
      · rw [upd_ne nas]
        exact hna4
      · rw [upd_ne nnrs]
        exact hnr
      · show (L.map _).length = (L.map _).length
        rw [List.length_map, List.length_map]
      · intro i c x h1 h2
        have h2' : (L.map fun i => t.reach.getD i [])[i]? = some x := h2
        rw [List.getElem?_map] at h1 h2'
        cases hi : L[i]? with
        | none => rw [hi] at h1; cases h1
        | some k =>
          rw [hi] at h1 h2'
          cases h1
          cases h2'
          have hk := List.mem_of_getElem? hi
          have hkr : k < t.reach.length := by rw [wf.rl]; exact hlt k hk
          have hkq := hrl k hk
          have e1 : rs.getD k s = rs[k] := by rw [List.getD_eq_getElem?_getD, List.getElem?_eq_getElem hkq]; rfl
          have e2 : t.reach.getD k [] = t.reach[k] := by rw [List.getD_eq_getElem?_getD, List.getElem?_eq_getElem hkr]; rfl
          show H5 (rs.getD k s) = some (.lst ((t.reach.getD k []).map enN))
          rw [e2]
          refine f5 _ _ (hA.rows k _ _ ?_ (List.getElem?_eq_getElem hkr)) (hrowne _ (hgr k hk)).1
          rw [e1, List.getElem?_eq_getElem hkq]
      · exact ne_of_none hA.fo nnaH
      · exact ne_of_none hA.fo nnrH
      · exact fun z => hA.nqf (hq _ z)
      · exact fun z => (hrowne _ (hq _ z)).2 nnaH
      · exact fun z => (hrowne _ (hq _ z)).2 nnrH
end
end Tbl
set_option Elab.async false
set_option linter.all false
set_option maxRecDepth 100000
set_option maxHeartbeats 2000000
namespace Tbl
open PySem PySem.Spec PyProof.Rows L2 Evl
section
variable {P : Program} {w : World} {K : PySem.W.Frag} {mg : Str → Option Value} {base : Heap}
def sp_do_call (T : Txt K mg) : Sp := PH (fun d : Int × DoD => [.ref d.2.1, .int d.1, .ref d.2.2.1]) (fun d H => DoPre T d.2.1 d.2.2.1 d.2.2.2.1 d.2.2.2.2.1 d.1 d.2.2.2.2.2.1 d.2.2.2.2.2.2.1 d.2.2.2.2.2.2.2 H ∧ d.1 ≤ lastP)
  fun d H v H' => DoPost T d.2.1 d.2.2.2.1 d.2.2.2.2.1 d.1 d.2.2.2.2.2.1 d.2.2.2.2.2.2.1 d.2.2.2.2.2.2.2 H v H'
theorem do_ex {T : Txt K mg} {s g : Addr} {S : Addr → Prop} {t : Vbecaf.Table} {p : Int} {ns : List Int} {xs : List (List Int)} {qs : List Addr} {H H' : Hp} (h : DoPre T s g S t p ns xs qs H) (e : Ex H H') : DoPre T s g S t p ns xs qs H' :=
  ⟨h.st.ex e, h.wf, e _ _ h.gv, h.len, h.nd, fun i q x a b => e _ _ (h.rows i q x a b), h.out, h.shape, h.small⟩
theorem do_back {T : Txt K mg} {s : Addr} {S : Addr → Prop} {t : Vbecaf.Table} {p : Int} {ns : List Int} {xs : List (List Int)} {qs : List Addr} {H H1 H' : Hp} {v : V} (h : DoPost T s S t p ns xs qs H1 v H') (e : Ex H H1) : DoPost T s S t p ns xs qs H v H' := by
  obtain ⟨b, e1, nb, hb, st, fr⟩ := h
  refine ⟨b, e1, fresh_back e nb, hb, st.mono fun a => ?_, e.fr.trans fr⟩
  rintro (h | h | h)
  · exact .inl h
  · exact .inr (.inl h)
  · exact .inr (.inr (fresh_back e h))
theorem held_do (T : Txt K mg) {p : Int} {n k : Nat} (hs : PyVbecaf.shape p = some (n, k)) (hp : p ≤ lastP) : ∃ f, WInt K T.A_DOINGS p (.ref f) ∧ Held P w K mg base 5 f (spDo T p) := by
  rcases shape_cases hs with h | h | h | h | h | h | h | h | h | h | h | h
  · rw [h.1]; exact ⟨_, T.w_DOINGS_0, held_of (ok_lay_table T) (by decide) T.F_lay_table T.b_lay_table⟩
  · rw [h.1]; exact ⟨_, T.w_DOINGS_1, held_of (ok_put_reach T) (by decide) T.F_put_reach T.b_put_reach⟩
  · rw [h.1]; exact ⟨_, T.w_DOINGS_2, held_of (ok_put_food T) (by decide) T.F_put_food T.b_put_food⟩
  · rw [h.1]; exact ⟨_, T.w_DOINGS_3, held_of (ok_put_appetite T) (by decide) T.F_put_appetite T.b_put_appetite⟩
  · rw [h.1]; exact ⟨_, T.w_DOINGS_4, held_of (ok_tell_all T) (by decide) T.F_tell_all T.b_tell_all⟩
  · rw [h.1]; exact ⟨_, T.w_DOINGS_5, held_of (ok_tell_most T) (by decide) T.F_tell_most T.b_tell_most⟩
  · rw [h.1]; exact ⟨_, T.w_DOINGS_6, held_of (ok_tell_binding T) (by decide) T.F_tell_binding T.b_tell_binding⟩
  · rw [h.1]; exact ⟨_, T.w_DOINGS_7, held_of (ok_tell_can T) (by decide) T.F_tell_can T.b_tell_can⟩
  · rw [h.1]; exact ⟨_, T.w_DOINGS_8, held_of (ok_tell_fair T) (by decide) T.F_tell_fair T.b_tell_fair⟩
  · rw [h.1]; exact ⟨_, T.w_DOINGS_9, held_of (ok_tell_levels T) (by decide) T.F_tell_levels T.b_tell_levels⟩
  · rw [h.1]; exact ⟨_, T.w_DOINGS_10, held_of (ok_tell_whole T) (by decide) T.F_tell_whole T.b_tell_whole⟩
  · rw [h.1]; exact ⟨_, T.w_DOINGS_11, held_of (ok_rename_mouths T) (by decide) T.F_rename_mouths T.b_rename_mouths⟩
theorem ok_do_call (T : Txt K mg) : FnOk P w K mg base CX0 6 T.a_do_call T.fd_do_call P_do_call (sp_do_call T) := by
  refine T.F_do_call.ok sc_do_call (fun vs H Q E h => ?_) (fun cdv A outer s H vs Q E hr h => ⟨_, (pss_cons (ps_set (i := 3) sc_do_call.nd rfl (.inl rfl) (pe_ix ix_wdict (pe_glob (v := .ref T.A_DOINGS) rfl T.g_DOINGS rfl) (pv 1) (fun _ _ => rfl)))
      (pss_one (ps_ret (pe_callU (i := 3) hr rfl (.inl rfl) (pa_cons (pv 0) (pa_cons (pv 2) pa_nil)))))), ?_⟩)
  · obtain ⟨d, rfl, _⟩ := h
    rfl
  · obtain ⟨⟨p, s, g, S, t, ns, xs, qs⟩, rfl, ⟨hp, h5⟩, q⟩ := h
    dsimp only at hp h5 q
    obtain ⟨f, hw, hh⟩ := held_do (P := P) (w := w) (base := base) T hp.shape h5
    refine q_asg (ev_op ev_c (ev_var rfl) (rv_ixW hw)) fun H1 x1 => ?_
    exact ⟨f, _, rfl, hh, (ea_cons (ev_var rfl) (ea_cons (ev_var rfl) ea_nil)) H1 (Ex.refl H1) _ fun H2 x2 => ⟨(s, g, S, t, ns, xs, qs), rfl, do_ex hp (x1.trans x2), fun v H' h => q v H' (do_back h (x1.trans x2))⟩⟩
end
end Tbl
set_option Elab.async false
set_option linter.all false
set_option maxRecDepth 100000
set_option maxHeartbeats 2000000
namespace Tbl
open PySem PySem.Spec PyProof.Rows L2 Evl
section
variable {P : Program} {w : World} {K : PySem.W.Frag} {mg : Str → Option Value} {base : Heap}
def spAnswers (K : PySem.W.Frag) : Sp := PH (fun d : Addr × List Int => [.ref d.1]) (fun d H => SqL K H d.1 (d.2.map V.int) ∧ PyVbecaf.answers_asked d.2 = true ∧ ∀ f i p ns xs j, At d.2 i p ns xs j → i = f → p ≤ lastP)
  fun d H v H' => ∃ b, v = .ref b ∧ H' b = some (.lst ((PyVbecaf.answers d.2).map V.int))
def sp_answers (T : Txt K mg) : Sp := spAnswers K
/-- where the loop stands -/
structure Loop (T : Txt K mg) (l : List Int) (a s rd tl : Addr) (H : Hp) (i : Nat) (t : Vbecaf.Table) (S : Addr → Prop) (acc : List Int) (cs : List (List (List Int))) (f : Nat) (H' : Hp) : Prop where
  le : i ≤ l.length
  ex : Ex H H'
  st : StAt T t s S H'
  wf : WfT t
  rd_ : RdAt T rd a i H'
  tl_ : H' tl = some (.lst (acc.map V.int))
  nS : ∀ x, S x → H x = none
  Sk : ∀ x, S x → H' x ≠ none
  nr : H rd = none
  nt : H tl = none
  Sr : ¬ S rd
  St : ¬ S tl
  cs_ : PyFlat.calls PyVbecaf.shape f (l.drop i) = some cs
  ins : ∀ c ∈ cs, PyInside.call PyVbecaf.bound c = true
  eq : acc ++ PyFlat.told (PyFlat.played Vbecaf.step ⟨t⟩ cs) = PyVbecaf.answers l
theorem ok_answers (T : Txt K mg) : FnOk P w K mg base CX0 7 T.a_answers T.fd_answers P_answers (sp_answers T) := by
  refine T.F_answers.ok sc_answers (fun vs H Q E h => ?_) (fun cdv A outer s H vs Q E hr h => ⟨_, (pss_cons (ps_set (i := 1) sc_answers.nd rfl (.inl rfl) (pe_make0 T.m_State (ok_State___init__ T) (hr.mono (by decide)) (by rfl) T.g_State T.b_State___init__ .nil pass0))
      (pss_cons (ps_set (i := 2) sc_answers.nd rfl (.inl rfl) (pe_make T.m_Reader (ok_Reader___init__ T) (hr.mono (by decide)) (by rfl) T.g_Reader T.b_Reader___init__ .nil pass0 (pa_cons (pv 0) pa_nil)))
      (pss_cons (ps_set (i := 3) sc_answers.nd rfl (.inl rfl) (pe_lst pa_nil))
      (pss_cons (ps_while PassesOwn.never (pt_not (pt_val (pe_meth0 (pv 2) T.c_Reader T.t_Reader_is_done (ok_Reader_is_done T) (hr.mono (by decide)) T.b_Reader_is_done .nil pass0)))
      (pss_cons (ps_set (i := 4) sc_answers.nd rfl (.inl rfl) (pe_meth0 (pv 2) T.c_Reader T.t_Reader_take_number (ok_Reader_take_number T) (hr.mono (by decide)) T.b_Reader_take_number .nil pass0))
      (pss_cons (ps_set (i := 5) sc_answers.nd rfl (.inl rfl) (pe_call (ok_do_call T) (hr.mono (by decide)) (by rfl) T.g_do_call T.F_do_call.kp T.b_do_call .nil pass0 (pa_cons (pv 1) (pa_cons (pv 4) (pa_cons (pe_meth (pv 2) T.c_Reader T.t_Reader_take_given (ok_Reader_take_given T) (hr.mono (by decide)) T.b_Reader_take_given .nil pass0 (pa_cons (pv 4) pa_nil)) pa_nil)))))
      (pss_cons (ps_expr (pe_bm PySem.F.plainAttrs_list PySem.F.slot_list_append PySem.F.type_list_append mt_append (pv 3) (pa_cons (pe_callB call_len_seq (by rfl) T.n_len PySem.boot_len (pa_cons (pv 5) pa_nil)) pa_nil)))
      (pss_one (ps_expr (pe_bm PySem.F.plainAttrs_list PySem.F.slot_list_extend PySem.F.type_list_extend mt_extend (pv 3) (pa_cons (pv 5) pa_nil))))))))
      (pss_one (ps_ret (pv 3))))))), ?_⟩)
  · obtain ⟨d, rfl, _⟩ := h
    rfl
  · obtain ⟨⟨a, l⟩, rfl, ⟨hS, hask, hlast⟩, q⟩ := h
    dsimp only at hS hask hlast q
    obtain ⟨cs0, hcs0, hins0, hans, hshort⟩ := asked_parts hask
    -- state = State()
    refine g_asg (go_make (fun x dx => (x, dx)) ea_nil (fun _ _ => rfl) (fun H1 x dx _ _ _ _ => upd_same) (fun H1 x dx v H2 h => h.1)) fun v H2 hv => ?_
    obtain ⟨H1, s, dx, e1, ns, nd, nds, rfl, _, hst, fr⟩ := hv
    dsimp only at hst fr
    have exA : Ex H H2 := fun b o hb => by
      have hb1 := e1 b o hb
      have hbs : b ≠ s := ne_of_none hb1 ns
      have hbd : b ≠ dx := ne_of_none hb1 nd
      refine fr b o ?_ hbs
      rw [upd_ne hbs, upd_ne hbd]
      exact hb1
    have nSA : ∀ x, (x = s ∨ (upd (upd H1 dx (.own s)) s (.ins T.C_State dx [])) x = none) → H x = none := by
      rintro x (rfl | hx)
      · exact fresh_back e1 ns
      · cases hh : H x with
        | none => rfl
        | some o =>
          have hb1 := e1 x o hh
          rw [upd_ne (ne_of_none hb1 ns), upd_ne (ne_of_none hb1 nd), hb1] at hx
          cases hx
    -- reader = Reader(calls)
    refine g_asg (go_make (fun x dx => (x, a, dx)) (ea_cons (ev_var rfl) ea_nil) (fun _ _ => rfl) (fun H1 x dx _ _ _ _ => upd_same) (fun H1 x dx v H2 h => h.1)) fun v H4 hv => ?_
    obtain ⟨H3, rd, dr, e3, nr, ndr, ndrr, rfl, _, hrd, frr⟩ := hv
    dsimp only at hrd frr
    have exB : Ex H2 H4 := fun b o hb => by
      have hb1 := e3 b o hb
      have hbs : b ≠ rd := ne_of_none hb1 nr
      have hbd : b ≠ dr := ne_of_none hb1 ndr
      refine frr b o ?_ hbs
      rw [upd_ne hbs, upd_ne hbd]
      exact hb1
    -- told = []
    refine q_asgL (el_lst ea_nil (by decide)) fun tl H5 nt e5 h5 => ?_
    have ex5 : Ex H H5 := (exA.trans exB).trans e5
    have hst5 := (hst.ex exB).ex e5
    let S0 : Addr → Prop := fun x => (x = s ∨ (upd (upd H1 dx (.own s)) s (.ins T.C_State dx [])) x = none) ∧ H2 x ≠ none
    have hst6 : StAt T Vbecaf.start.table s S0 H5 := ((hst.tracked).ex exB).ex e5
    have keep5 : ∀ x, H2 x ≠ none → H5 x ≠ none := fun x hx z => hx (fresh_back (exB.trans e5) z)
    have nrH : H rd = none := fresh_back (exA.trans e3) nr
    have ntH : H tl = none := fresh_back (exA.trans exB) nt
    have Lp0 : Loop T l a s rd tl H 0 Vbecaf.start.table S0 [] cs0 l.length H5 :=
      ⟨Nat.zero_le _, ex5, hst6, start_wf, hrd.ex e5, h5, fun x hx => nSA x hx.1, fun x hx => keep5 x hx.2, nrH, ntH, fun hx => hx.2 (fresh_back e3 nr), fun hx => hx.2 (fresh_back exB nt), by rw [List.drop_zero]; exact hcs0, hins0, by rw [List.nil_append, hans]⟩
    refine q_while (fun m σ' H' => ∃ i t S acc cs f y4 y5, m = l.length - i ∧ σ' = [some (.ref a), some (.ref s), some (.ref rd), some (.ref tl), y4, y5] ∧ Loop T l a s rd tl H i t S acc cs f H') l.length
      ⟨0, _, S0, [], cs0, l.length, none, none, rfl, rfl, Lp0⟩ ?_
    rintro m σ' H' ⟨i, t, S, acc, cs, f, y4, y5, rfl, rfl, L⟩
    have hSl : SqL K H' a (l.map V.int) := ex_l L.ex hS
    obtain ⟨dxr, hR'⟩ := L.rd_
    refine ⟨!decide ((l.length : Int) ≤ (i : Int)), et_not (et_B (ev_methV (rd, a, i, l) (ev_var rfl) hR' (by rfl) ea_nil rfl fun H1 e1 => ⟨⟨dxr, e1 _ _ hR'⟩, ex_l e1 hSl⟩)), fun hb H6 e6 => ?_, fun hb H6 e6 => ?_⟩
    · -- one call
      have hi : i < l.length := by
        have := of_decide_eq_false (not_t hb)
        omega
      obtain ⟨f', p, ns', xs, j, cs', hAt, hij, hcs', rfl⟩ := calls_at hi L.cs_
      have hp := hlast i i p ns' xs j hAt rfl
      refine ⟨fun σ2 H2 => ∃ i2 t2 S2 acc2 cs2 f2 y4 y5, i < i2 ∧ σ2 = [some (.ref a), some (.ref s), some (.ref rd), some (.ref tl), y4, y5] ∧ Loop T l a s rd tl H i2 t2 S2 acc2 cs2 f2 H2, ?_, ?_⟩
      · rintro σ2 H2 ⟨i2, t2, S2, acc2, cs2, f2, z4, z5, h1, rfl, L2⟩
        exact ⟨l.length - i2, by have := L2.le; omega, i2, t2, S2, acc2, cs2, f2, z4, z5, rfl, rfl, L2⟩
      have hR6 := e6 _ _ hR'
      have hSl6 := ex_l e6 hSl
      -- number = reader.take_number()
      refine g_asg (go_meth (rd, a, i, l, p) (ev_var rfl) hR6 (by rfl) ea_nil rfl fun H1 e1 => ⟨⟨dxr, e1 _ _ hR6⟩, ex_l e1 hSl6, hAt.num⟩) fun v H7 ⟨H7', e7, ev, r7, f7⟩ => ?_
      subst ev
      dsimp only at r7 f7
      have fr7 : Fr (fun x => x = rd) H' H7 := (e6.trans e7).fr.trans f7
      have ex7 : Ex H H7 := fun b o hb => fr7 b o (L.ex b o hb) (ne_of_none hb L.nr)
      have st7 : StAt T t s S H7 := L.st.fr fr7 fun x hx z => L.Sr (by rw [← z]; exact hx)
      have htl : tl ≠ rd := ne_of L.tl_ hR' (by intro z; cases z)
      have tl7 : H7 tl = some (.lst (acc.map V.int)) := fr7 _ _ L.tl_ htl
      have hSl7 := ex_l ex7 hS
      obtain ⟨dx7, r7'⟩ := r7
      have hG : GivenAt l (i + 1) p ns' xs j := ⟨hAt.nums, hAt.room, hAt.rows, hAt.le, hAt.shape⟩
      have hsm : ∀ x ∈ xs, x.length ≤ 100 := inside_small hAt.shape (L.ins _ (by simp))
      -- answer = do_call(state, number, reader.take_given(number))
      refine g_asg (go_call3 (P := fun v H8 => ∃ g qs, v = .ref g ∧ H7 g = none ∧ H8 g = some (.lst (ns'.map V.int ++ qs.map V.ref)) ∧ Rows xs qs H7 H8 ∧ g ∉ qs ∧ RdAt T rd a j H8 ∧ Fr (fun x => x = rd) H7 H8)
        (R := fun v H9 => ∃ g qs H8, H7 g = none ∧ Rows xs qs H7 H8 ∧ RdAt T rd a j H8 ∧ Fr (fun x => x = rd) H7 H8 ∧ DoPost T s S t p ns' xs qs H8 v H9) (ev_var rfl) (ev_var rfl) (fun H1 e1 => ?_) (fun v H8 ⟨g, qs, ev, ng, hg, hq, hgq, r8, f8⟩ => ?_)) fun v H9 ⟨g, qs, H8, ng, hq, r8, f8, hpost⟩ => ?_
      · intro Q k
        refine go_meth (rd, a, i + 1, l, p, ns', xs, j) (ev_var rfl) (e1 _ _ r7') (by rfl) (ea_cons (ev_var rfl) ea_nil) rfl (fun H2 e2 => ⟨⟨dx7, e2 _ _ (e1 _ _ r7')⟩, ex_l (e1.trans e2) hSl7, hG, hp⟩) Q fun v H8 ⟨H0, e0, g, qs, ev, ng, hg, hq, hgq, r8, f8⟩ => k v H8 ?_
        exact ⟨g, qs, ev, fresh_back (e1.trans e0) ng, hg, ⟨hq.len, hq.nd, fun b hb => fresh_back (e1.trans e0) (hq.new b hb), hq.at_⟩, hgq, r8, (e1.trans e0).fr.trans f8⟩
      · subst ev
        have st8 : StAt T t s S H8 := st7.fr f8 fun x hx z => L.Sr (by rw [← z]; exact hx)
        refine ⟨(p, s, g, S, t, ns', xs, qs), rfl, ⟨⟨st8, L.wf, hg, hq.len, hq.nd, hq.at_, fun b hb hSb => ?_, hAt.shape, hsm⟩, hp⟩, fun w H9 h9 => ⟨g, qs, H8, ng, hq, r8, f8, h9⟩⟩
        -- a row is new, what S names is not
        have hn := hq.new b hb
        cases hh : H' b with
        | none => exact L.Sk b hSb hh
        | some o =>
          rw [fr7 b o hh (fun z => L.Sr (by rw [← z]; exact hSb))] at hn
          cases hn
      · obtain ⟨b, ev, nb, hb9, st9, f9⟩ := hpost
        subst ev
        have tl8 : H8 tl = some (.lst (acc.map V.int)) := f8 _ _ tl7 htl
        have tl9 : H9 tl = some (.lst (acc.map V.int)) := f9 _ _ tl8 L.St
        have ex8 : Ex H H8 := fun x o hx => f8 x o (ex7 x o hx) (ne_of_none hx L.nr)
        have ex9 : Ex H H9 := fun x o hx => f9 x o (ex8 x o hx) fun hSx => by
          rw [L.nS x hSx] at hx
          cases hx
        obtain ⟨dx8, r8'⟩ := r8
        have r9 : H9 rd = some (.ins T.C_Reader dx8 (rdF a j)) := f9 _ _ r8' L.Sr
        generalize hst : Vbecaf.step ⟨t⟩ ((p :: ns') :: xs) = so at hb9 st9
        obtain ⟨s2, ans⟩ := so
        dsimp only at hb9 st9
        have heq : (acc ++ ((ans.length : Int) :: ans)) ++ PyFlat.told (PyFlat.played Vbecaf.step s2 cs') = PyVbecaf.answers l := by
          have h := L.eq
          have h2 : PyFlat.told (PyFlat.played Vbecaf.step ⟨t⟩ (((p :: ns') :: xs) :: cs')) = ((ans.length : Int) :: ans) ++ PyFlat.told (PyFlat.played Vbecaf.step s2 cs') := by
            show ((((Vbecaf.step ⟨t⟩ ((p :: ns') :: xs)).2.length : Int) :: (Vbecaf.step ⟨t⟩ ((p :: ns') :: xs)).2) ++ _ : List Int) = _
            rw [hst]
            rfl
          rw [h2, ← List.append_assoc] at h
          exact h
        have hlen : acc.length + 1 + ans.length ≤ 10000000 := by
          have h := congrArg List.length heq
          simp only [List.length_append, List.length_cons] at h
          omega
        have tlb : b ≠ tl := fun z => by
          rw [z, tl8] at nb
          cases nb
        let S2 : Addr → Prop := fun x => (S x ∨ x ∈ qs ∨ H8 x = none) ∧ H9 x ≠ none
        have nS2r : ¬ S2 rd := by
          rintro ⟨h | h | h, _⟩
          · exact L.Sr h
          · have := hq.new _ h
            rw [r7'] at this
            cases this
          · rw [r8'] at h
            cases h
        have nS2t : ¬ S2 tl := by
          rintro ⟨h | h | h, _⟩
          · exact L.St h
          · have := hq.new _ h
            rw [tl7] at this
            cases this
          · rw [tl8] at h
            cases h
        -- told.append(len(answer)); told.extend(answer)
        refine q_appB tl9 (ev_var rfl) (ev_lenM (en := V.int) (ev_var rfl) (sq_of hb9)) (by rw [List.length_map]; omega) fun H10 e10 => ?_
        refine s_extB (ys := ans.map V.int) upd_same (by rw [upd_ne tlb]; exact e10 _ _ hb9) (ev_var rfl) (ev_var rfl) (by rw [List.length_append, List.length_map, List.length_map]; exact hlen) fun H11 e11 => ?_
        have fr11 : Fr (fun x => x = tl) H9 (upd H11 tl (.lst ((acc.map V.int ++ [V.int (ans.length : Int)]) ++ ans.map V.int))) := ((e10.fr.trans fr_one).trans e11.fr).trans fr_one
        have ex11 : Ex H (upd H11 tl (.lst ((acc.map V.int ++ [V.int (ans.length : Int)]) ++ ans.map V.int))) := fun x o hx => fr11 x o (ex9 x o hx) (ne_of_none hx L.nt)
        refine ⟨j, s2.table, S2, acc ++ ((ans.length : Int) :: ans), cs', f', _, _, hij, rfl, ⟨hAt.le, ex11, (st9.tracked).fr fr11 fun x hx z => nS2t (by rw [← z]; exact hx), ?_, ⟨dx8, fr11 _ _ r9 htl.symm⟩, ?_, ?_, ?_, L.nr, L.nt, nS2r, nS2t, hcs', fun c hc => L.ins c (by simp [hc]), heq⟩⟩
        · have := step_wf L.wf ((p :: ns') :: xs)
          rw [hst] at this
          exact this
        · rw [upd_same]
          simp only [List.map_append, List.map_cons, List.append_assoc]
          rfl
        · rintro x ⟨h | h | h, _⟩
          · exact L.nS x h
          · exact fresh_back ex7 (hq.new x h)
          · exact fresh_back ex8 h
        · rintro x ⟨h, hx⟩ z
          cases hh : H9 x with
          | none => exact hx hh
          | some o =>
            rw [fr11 x o hh (fun e => nS2t (by rw [← e]; exact ⟨h, hx⟩))] at z
            cases z
    · have hi : i = l.length := by
        have := of_decide_eq_true (not_f hb)
        have := L.le
        omega
      have hcs := L.cs_
      rw [hi, List.drop_length] at hcs
      have hnil := calls_nil hcs
      have heq := L.eq
      rw [hnil] at heq
      have hacc : acc = PyVbecaf.answers l := by
        rw [← heq]
        exact (List.append_nil acc).symm
      exact s_ret (ev_var rfl) fun H7 e7 => q _ _ ⟨tl, rfl, by rw [← hacc]; exact e7 _ _ (e6 _ _ L.tl_)⟩
end
end Tbl
set_option Elab.async false
set_option linter.all false
set_option maxRecDepth 100000
set_option maxHeartbeats 4000000
namespace Tbl
open PySem PySem.Spec PyProof.Rows L2 Evl
/-- a written pair of whole numbers -/
def tup2 (o : Obj) (n k : Int) : Bool := decide (o.cls = .type "tuple") && match o.data with
  | .seq its _ => (match its.toList with
    | [.int a _, .int b _] => decide (a = n) && decide (b = k)
    | _ => false)
  | _ => false
theorem tup2_sq {K : PySem.W.Frag} {t : Addr} {o : Obj} {n k : Int} (hl : K.lookup t = some o) (h : tup2 o n k = true) (H : Hp) : SqT K H t [.int n, .int k] := by
  unfold tup2 at h
  rw [Bool.and_eq_true, decide_eq_true_eq] at h
  obtain ⟨h1, h2⟩ := h
  split at h2
  · rename_i its m e
    split at h2
    · rename_i a ta b tb e2
      rw [Bool.and_eq_true, decide_eq_true_eq, decide_eq_true_eq] at h2
      obtain ⟨rfl, rfl⟩ := h2
      refine .inr ⟨o, its, m, hl, h1, e, ?_, ?_⟩
      · have : its.size = 2 := by rw [← Array.length_toList, e2]; rfl
        rw [this]
        exact Nat.le_of_lt (line_of (by decide))
      · rw [e2]
        exact .cons ⟨_, rfl⟩ (.cons ⟨_, rfl⟩ .nil)
    · cases h2
  · cases h2
theorem last_le {l : List Int} {i : Nat} {p : Int} {ns : List Int} {xs : List (List Int)} {j : Nat} (h : At l i p ns xs j) : p ≤ lastP := by
  rcases shape_cases h.shape with k | k | k | k | k | k | k | k | k | k | k | k <;> (rw [k.1]; decide)
theorem all_mk {P : Program} {w : World} {K : PySem.W.Frag} {h : Heap} {mg : Str → Option Value} {fa : Addr} (X : K.In h) (G : h.Ns mainGlobals mg) (hfa : mg "answers" = some (.ref fa))
    {f_all_choices f_reached_food f_wanted_amount f_bound_of f_most_of f_bound_by_food f_is_there f_goes_up f_is_choice f_is_amount f_is_amount_row f_is_share_row f_is_order f_every_set f_sums_of_sets f_mosts_of_sets f_first_above f_Level___init__ f_common_part f_level_of f_comes_ahead f_done_behind f_levels_of f_can_have_one_more f_full_rounds f_whole_shares f_lay_table f_put_reach f_put_food f_put_appetite f_tell_all f_tell_most f_tell_binding f_tell_can f_tell_fair f_tell_levels f_tell_whole f_rename_mouths f_do_call f_Reader___init__ f_Reader_is_done f_Reader_take_number f_Reader_take_row f_Reader_take_given f_State___init__ f_answers C_Level C_Reader C_State : Addr}
    {od_all_choices an_all_choices od_reached_food an_reached_food od_wanted_amount an_wanted_amount od_bound_of an_bound_of od_most_of an_most_of od_bound_by_food an_bound_by_food od_is_there an_is_there od_goes_up an_goes_up od_is_choice an_is_choice od_is_amount an_is_amount od_is_amount_row an_is_amount_row od_is_share_row an_is_share_row od_is_order an_is_order od_every_set an_every_set od_sums_of_sets an_sums_of_sets od_mosts_of_sets an_mosts_of_sets od_first_above an_first_above od_Level___init__ an_Level___init__ od_common_part an_common_part od_level_of an_level_of od_comes_ahead an_comes_ahead od_done_behind an_done_behind od_levels_of an_levels_of od_can_have_one_more an_can_have_one_more od_full_rounds an_full_rounds od_whole_shares an_whole_shares od_lay_table an_lay_table od_put_reach an_put_reach od_put_food an_put_food od_put_appetite an_put_appetite od_tell_all an_tell_all od_tell_most an_tell_most od_tell_binding an_tell_binding od_tell_can an_tell_can od_tell_fair an_tell_fair od_tell_levels an_tell_levels od_tell_whole an_tell_whole od_rename_mouths an_rename_mouths od_do_call an_do_call od_Reader___init__ an_Reader___init__ od_Reader_is_done an_Reader_is_done od_Reader_take_number an_Reader_take_number od_Reader_take_row an_Reader_take_row od_Reader_take_given an_Reader_take_given od_State___init__ an_State___init__ od_answers an_answers : Option Addr}
    {sl_all_choices sl_reached_food sl_wanted_amount sl_bound_of sl_most_of sl_bound_by_food sl_is_there sl_goes_up sl_is_choice sl_is_amount sl_is_amount_row sl_is_share_row sl_is_order sl_every_set sl_sums_of_sets sl_mosts_of_sets sl_first_above sl_Level___init__ sl_common_part sl_level_of sl_comes_ahead sl_done_behind sl_levels_of sl_can_have_one_more sl_full_rounds sl_whole_shares sl_lay_table sl_put_reach sl_put_food sl_put_appetite sl_tell_all sl_tell_most sl_tell_binding sl_tell_can sl_tell_fair sl_tell_levels sl_tell_whole sl_rename_mouths sl_do_call sl_Reader___init__ sl_Reader_is_done sl_Reader_take_number sl_Reader_take_row sl_Reader_take_given sl_State___init__ sl_answers : Array (Option Value)}
    {oc_all_choices kV_all_choices dc_all_choices pm_all_choices cd_all_choices ct_all_choices oc_reached_food kV_reached_food dc_reached_food pm_reached_food cd_reached_food ct_reached_food oc_wanted_amount kV_wanted_amount dc_wanted_amount pm_wanted_amount cd_wanted_amount ct_wanted_amount oc_bound_of kV_bound_of dc_bound_of pm_bound_of cd_bound_of ct_bound_of oc_most_of kV_most_of dc_most_of pm_most_of cd_most_of ct_most_of oc_bound_by_food kV_bound_by_food dc_bound_by_food pm_bound_by_food cd_bound_by_food ct_bound_by_food oc_is_there kV_is_there dc_is_there pm_is_there cd_is_there ct_is_there oc_goes_up kV_goes_up dc_goes_up pm_goes_up cd_goes_up ct_goes_up oc_is_choice kV_is_choice dc_is_choice pm_is_choice cd_is_choice ct_is_choice oc_is_amount kV_is_amount dc_is_amount pm_is_amount cd_is_amount ct_is_amount oc_is_amount_row kV_is_amount_row dc_is_amount_row pm_is_amount_row cd_is_amount_row ct_is_amount_row oc_is_share_row kV_is_share_row dc_is_share_row pm_is_share_row cd_is_share_row ct_is_share_row oc_is_order kV_is_order dc_is_order pm_is_order cd_is_order ct_is_order oc_every_set kV_every_set dc_every_set pm_every_set cd_every_set ct_every_set oc_sums_of_sets kV_sums_of_sets dc_sums_of_sets pm_sums_of_sets cd_sums_of_sets ct_sums_of_sets oc_mosts_of_sets kV_mosts_of_sets dc_mosts_of_sets pm_mosts_of_sets cd_mosts_of_sets ct_mosts_of_sets oc_first_above kV_first_above dc_first_above pm_first_above cd_first_above ct_first_above oc_Level___init__ kV_Level___init__ dc_Level___init__ pm_Level___init__ cd_Level___init__ ct_Level___init__ oc_common_part kV_common_part dc_common_part pm_common_part cd_common_part ct_common_part oc_level_of kV_level_of dc_level_of pm_level_of cd_level_of ct_level_of oc_comes_ahead kV_comes_ahead dc_comes_ahead pm_comes_ahead cd_comes_ahead ct_comes_ahead oc_done_behind kV_done_behind dc_done_behind pm_done_behind cd_done_behind ct_done_behind oc_levels_of kV_levels_of dc_levels_of pm_levels_of cd_levels_of ct_levels_of oc_can_have_one_more kV_can_have_one_more dc_can_have_one_more pm_can_have_one_more cd_can_have_one_more ct_can_have_one_more oc_full_rounds kV_full_rounds dc_full_rounds pm_full_rounds cd_full_rounds ct_full_rounds oc_whole_shares kV_whole_shares dc_whole_shares pm_whole_shares cd_whole_shares ct_whole_shares oc_lay_table kV_lay_table dc_lay_table pm_lay_table cd_lay_table ct_lay_table oc_put_reach kV_put_reach dc_put_reach pm_put_reach cd_put_reach ct_put_reach oc_put_food kV_put_food dc_put_food pm_put_food cd_put_food ct_put_food oc_put_appetite kV_put_appetite dc_put_appetite pm_put_appetite cd_put_appetite ct_put_appetite oc_tell_all kV_tell_all dc_tell_all pm_tell_all cd_tell_all ct_tell_all oc_tell_most kV_tell_most dc_tell_most pm_tell_most cd_tell_most ct_tell_most oc_tell_binding kV_tell_binding dc_tell_binding pm_tell_binding cd_tell_binding ct_tell_binding oc_tell_can kV_tell_can dc_tell_can pm_tell_can cd_tell_can ct_tell_can oc_tell_fair kV_tell_fair dc_tell_fair pm_tell_fair cd_tell_fair ct_tell_fair oc_tell_levels kV_tell_levels dc_tell_levels pm_tell_levels cd_tell_levels ct_tell_levels oc_tell_whole kV_tell_whole dc_tell_whole pm_tell_whole cd_tell_whole ct_tell_whole oc_rename_mouths kV_rename_mouths dc_rename_mouths pm_rename_mouths cd_rename_mouths ct_rename_mouths oc_do_call kV_do_call dc_do_call pm_do_call cd_do_call ct_do_call oc_Reader___init__ kV_Reader___init__ dc_Reader___init__ pm_Reader___init__ cd_Reader___init__ ct_Reader___init__ oc_Reader_is_done kV_Reader_is_done dc_Reader_is_done pm_Reader_is_done cd_Reader_is_done ct_Reader_is_done oc_Reader_take_number kV_Reader_take_number dc_Reader_take_number pm_Reader_take_number cd_Reader_take_number ct_Reader_take_number oc_Reader_take_row kV_Reader_take_row dc_Reader_take_row pm_Reader_take_row cd_Reader_take_row ct_Reader_take_row oc_Reader_take_given kV_Reader_take_given dc_Reader_take_given pm_Reader_take_given cd_Reader_take_given ct_Reader_take_given oc_State___init__ kV_State___init__ dc_State___init__ pm_State___init__ cd_State___init__ ct_State___init__ oc_answers kV_answers dc_answers pm_answers cd_answers ct_answers : Value}
    {tk_MOST_AMOUNT : Tok}
    {tk_MOST_OF_EACH : Tok}
    {A_DOINGS : Addr} {es_DOINGS : Array DictEntry} {nd_DOINGS : Nat}
    {A_SHAPES : Addr} {es_SHAPES : Array DictEntry} {nd_SHAPES : Nat}
    {t_SHAPES_0 : Addr} {o_SHAPES_0 : Obj}
    {t_SHAPES_1 : Addr} {o_SHAPES_1 : Obj}
    {t_SHAPES_2 : Addr} {o_SHAPES_2 : Obj}
    {t_SHAPES_3 : Addr} {o_SHAPES_3 : Obj}
    {t_SHAPES_4 : Addr} {o_SHAPES_4 : Obj}
    {t_SHAPES_5 : Addr} {o_SHAPES_5 : Obj}
    {t_SHAPES_6 : Addr} {o_SHAPES_6 : Obj}
    {t_SHAPES_7 : Addr} {o_SHAPES_7 : Obj}
    {t_SHAPES_8 : Addr} {o_SHAPES_8 : Obj}
    {t_SHAPES_9 : Addr} {o_SHAPES_9 : Obj}
    {t_SHAPES_10 : Addr} {o_SHAPES_10 : Obj}
    {t_SHAPES_11 : Addr} {o_SHAPES_11 : Obj}
    (aC_Level : PySem.W.nsIn K mainGlobals "Level" = some (some (.ref C_Level)))
    (aC_Reader : PySem.W.nsIn K mainGlobals "Reader" = some (some (.ref C_Reader)))
    (aC_State : PySem.W.nsIn K mainGlobals "State" = some (some (.ref C_State)))
    (a_all_choices : PySem.W.nsIn K mainGlobals "all_choices" = some (some (.ref f_all_choices)))
    (l_all_choices : K.lookup f_all_choices = some ⟨oc_all_choices, od_all_choices, .func (PySem.W.fnOf "all_choices" "all_choices" (defArgs s_all_choices) (defBody s_all_choices) (defScope s_all_choices) .none kV_all_choices dc_all_choices pm_all_choices an_all_choices cd_all_choices ct_all_choices), sl_all_choices⟩)
    (c_all_choices : PySem.W.codeIn K cd_all_choices "all_choices" = true)
    (k_all_choices : PySem.W.keepIn K (.ref f_all_choices) = true)
    (a_reached_food : PySem.W.nsIn K mainGlobals "reached_food" = some (some (.ref f_reached_food)))
    (l_reached_food : K.lookup f_reached_food = some ⟨oc_reached_food, od_reached_food, .func (PySem.W.fnOf "reached_food" "reached_food" (defArgs s_reached_food) (defBody s_reached_food) (defScope s_reached_food) .none kV_reached_food dc_reached_food pm_reached_food an_reached_food cd_reached_food ct_reached_food), sl_reached_food⟩)
    (c_reached_food : PySem.W.codeIn K cd_reached_food "reached_food" = true)
    (k_reached_food : PySem.W.keepIn K (.ref f_reached_food) = true)
    (a_wanted_amount : PySem.W.nsIn K mainGlobals "wanted_amount" = some (some (.ref f_wanted_amount)))
    (l_wanted_amount : K.lookup f_wanted_amount = some ⟨oc_wanted_amount, od_wanted_amount, .func (PySem.W.fnOf "wanted_amount" "wanted_amount" (defArgs s_wanted_amount) (defBody s_wanted_amount) (defScope s_wanted_amount) .none kV_wanted_amount dc_wanted_amount pm_wanted_amount an_wanted_amount cd_wanted_amount ct_wanted_amount), sl_wanted_amount⟩)
    (c_wanted_amount : PySem.W.codeIn K cd_wanted_amount "wanted_amount" = true)
    (k_wanted_amount : PySem.W.keepIn K (.ref f_wanted_amount) = true)
    (a_bound_of : PySem.W.nsIn K mainGlobals "bound_of" = some (some (.ref f_bound_of)))
    (l_bound_of : K.lookup f_bound_of = some ⟨oc_bound_of, od_bound_of, .func (PySem.W.fnOf "bound_of" "bound_of" (defArgs s_bound_of) (defBody s_bound_of) (defScope s_bound_of) .none kV_bound_of dc_bound_of pm_bound_of an_bound_of cd_bound_of ct_bound_of), sl_bound_of⟩)
    (c_bound_of : PySem.W.codeIn K cd_bound_of "bound_of" = true)
    (k_bound_of : PySem.W.keepIn K (.ref f_bound_of) = true)
    (a_most_of : PySem.W.nsIn K mainGlobals "most_of" = some (some (.ref f_most_of)))
    (l_most_of : K.lookup f_most_of = some ⟨oc_most_of, od_most_of, .func (PySem.W.fnOf "most_of" "most_of" (defArgs s_most_of) (defBody s_most_of) (defScope s_most_of) .none kV_most_of dc_most_of pm_most_of an_most_of cd_most_of ct_most_of), sl_most_of⟩)
    (c_most_of : PySem.W.codeIn K cd_most_of "most_of" = true)
    (k_most_of : PySem.W.keepIn K (.ref f_most_of) = true)
    (a_bound_by_food : PySem.W.nsIn K mainGlobals "bound_by_food" = some (some (.ref f_bound_by_food)))
    (l_bound_by_food : K.lookup f_bound_by_food = some ⟨oc_bound_by_food, od_bound_by_food, .func (PySem.W.fnOf "bound_by_food" "bound_by_food" (defArgs s_bound_by_food) (defBody s_bound_by_food) (defScope s_bound_by_food) .none kV_bound_by_food dc_bound_by_food pm_bound_by_food an_bound_by_food cd_bound_by_food ct_bound_by_food), sl_bound_by_food⟩)
    (c_bound_by_food : PySem.W.codeIn K cd_bound_by_food "bound_by_food" = true)
    (k_bound_by_food : PySem.W.keepIn K (.ref f_bound_by_food) = true)
    (a_is_there : PySem.W.nsIn K mainGlobals "is_there" = some (some (.ref f_is_there)))
    (l_is_there : K.lookup f_is_there = some ⟨oc_is_there, od_is_there, .func (PySem.W.fnOf "is_there" "is_there" (defArgs s_is_there) (defBody s_is_there) (defScope s_is_there) .none kV_is_there dc_is_there pm_is_there an_is_there cd_is_there ct_is_there), sl_is_there⟩)
    (c_is_there : PySem.W.codeIn K cd_is_there "is_there" = true)
    (k_is_there : PySem.W.keepIn K (.ref f_is_there) = true)
    (a_goes_up : PySem.W.nsIn K mainGlobals "goes_up" = some (some (.ref f_goes_up)))
    (l_goes_up : K.lookup f_goes_up = some ⟨oc_goes_up, od_goes_up, .func (PySem.W.fnOf "goes_up" "goes_up" (defArgs s_goes_up) (defBody s_goes_up) (defScope s_goes_up) .none kV_goes_up dc_goes_up pm_goes_up an_goes_up cd_goes_up ct_goes_up), sl_goes_up⟩)
    (c_goes_up : PySem.W.codeIn K cd_goes_up "goes_up" = true)
    (k_goes_up : PySem.W.keepIn K (.ref f_goes_up) = true)
    (a_is_choice : PySem.W.nsIn K mainGlobals "is_choice" = some (some (.ref f_is_choice)))
    (l_is_choice : K.lookup f_is_choice = some ⟨oc_is_choice, od_is_choice, .func (PySem.W.fnOf "is_choice" "is_choice" (defArgs s_is_choice) (defBody s_is_choice) (defScope s_is_choice) .none kV_is_choice dc_is_choice pm_is_choice an_is_choice cd_is_choice ct_is_choice), sl_is_choice⟩)
    (c_is_choice : PySem.W.codeIn K cd_is_choice "is_choice" = true)
    (k_is_choice : PySem.W.keepIn K (.ref f_is_choice) = true)
    (a_is_amount : PySem.W.nsIn K mainGlobals "is_amount" = some (some (.ref f_is_amount)))
    (l_is_amount : K.lookup f_is_amount = some ⟨oc_is_amount, od_is_amount, .func (PySem.W.fnOf "is_amount" "is_amount" (defArgs s_is_amount) (defBody s_is_amount) (defScope s_is_amount) .none kV_is_amount dc_is_amount pm_is_amount an_is_amount cd_is_amount ct_is_amount), sl_is_amount⟩)
    (c_is_amount : PySem.W.codeIn K cd_is_amount "is_amount" = true)
    (k_is_amount : PySem.W.keepIn K (.ref f_is_amount) = true)
    (a_is_amount_row : PySem.W.nsIn K mainGlobals "is_amount_row" = some (some (.ref f_is_amount_row)))
    (l_is_amount_row : K.lookup f_is_amount_row = some ⟨oc_is_amount_row, od_is_amount_row, .func (PySem.W.fnOf "is_amount_row" "is_amount_row" (defArgs s_is_amount_row) (defBody s_is_amount_row) (defScope s_is_amount_row) .none kV_is_amount_row dc_is_amount_row pm_is_amount_row an_is_amount_row cd_is_amount_row ct_is_amount_row), sl_is_amount_row⟩)
    (c_is_amount_row : PySem.W.codeIn K cd_is_amount_row "is_amount_row" = true)
    (k_is_amount_row : PySem.W.keepIn K (.ref f_is_amount_row) = true)
    (a_is_share_row : PySem.W.nsIn K mainGlobals "is_share_row" = some (some (.ref f_is_share_row)))
    (l_is_share_row : K.lookup f_is_share_row = some ⟨oc_is_share_row, od_is_share_row, .func (PySem.W.fnOf "is_share_row" "is_share_row" (defArgs s_is_share_row) (defBody s_is_share_row) (defScope s_is_share_row) .none kV_is_share_row dc_is_share_row pm_is_share_row an_is_share_row cd_is_share_row ct_is_share_row), sl_is_share_row⟩)
    (c_is_share_row : PySem.W.codeIn K cd_is_share_row "is_share_row" = true)
    (k_is_share_row : PySem.W.keepIn K (.ref f_is_share_row) = true)
    (a_is_order : PySem.W.nsIn K mainGlobals "is_order" = some (some (.ref f_is_order)))
    (l_is_order : K.lookup f_is_order = some ⟨oc_is_order, od_is_order, .func (PySem.W.fnOf "is_order" "is_order" (defArgs s_is_order) (defBody s_is_order) (defScope s_is_order) .none kV_is_order dc_is_order pm_is_order an_is_order cd_is_order ct_is_order), sl_is_order⟩)
    (c_is_order : PySem.W.codeIn K cd_is_order "is_order" = true)
    (k_is_order : PySem.W.keepIn K (.ref f_is_order) = true)
    (a_every_set : PySem.W.nsIn K mainGlobals "every_set" = some (some (.ref f_every_set)))
    (l_every_set : K.lookup f_every_set = some ⟨oc_every_set, od_every_set, .func (PySem.W.fnOf "every_set" "every_set" (defArgs s_every_set) (defBody s_every_set) (defScope s_every_set) .none kV_every_set dc_every_set pm_every_set an_every_set cd_every_set ct_every_set), sl_every_set⟩)
    (c_every_set : PySem.W.codeIn K cd_every_set "every_set" = true)
    (k_every_set : PySem.W.keepIn K (.ref f_every_set) = true)
    (a_sums_of_sets : PySem.W.nsIn K mainGlobals "sums_of_sets" = some (some (.ref f_sums_of_sets)))
    (l_sums_of_sets : K.lookup f_sums_of_sets = some ⟨oc_sums_of_sets, od_sums_of_sets, .func (PySem.W.fnOf "sums_of_sets" "sums_of_sets" (defArgs s_sums_of_sets) (defBody s_sums_of_sets) (defScope s_sums_of_sets) .none kV_sums_of_sets dc_sums_of_sets pm_sums_of_sets an_sums_of_sets cd_sums_of_sets ct_sums_of_sets), sl_sums_of_sets⟩)
    (c_sums_of_sets : PySem.W.codeIn K cd_sums_of_sets "sums_of_sets" = true)
    (k_sums_of_sets : PySem.W.keepIn K (.ref f_sums_of_sets) = true)
    (a_mosts_of_sets : PySem.W.nsIn K mainGlobals "mosts_of_sets" = some (some (.ref f_mosts_of_sets)))
    (l_mosts_of_sets : K.lookup f_mosts_of_sets = some ⟨oc_mosts_of_sets, od_mosts_of_sets, .func (PySem.W.fnOf "mosts_of_sets" "mosts_of_sets" (defArgs s_mosts_of_sets) (defBody s_mosts_of_sets) (defScope s_mosts_of_sets) .none kV_mosts_of_sets dc_mosts_of_sets pm_mosts_of_sets an_mosts_of_sets cd_mosts_of_sets ct_mosts_of_sets), sl_mosts_of_sets⟩)
    (c_mosts_of_sets : PySem.W.codeIn K cd_mosts_of_sets "mosts_of_sets" = true)
    (k_mosts_of_sets : PySem.W.keepIn K (.ref f_mosts_of_sets) = true)
    (a_first_above : PySem.W.nsIn K mainGlobals "first_above" = some (some (.ref f_first_above)))
    (l_first_above : K.lookup f_first_above = some ⟨oc_first_above, od_first_above, .func (PySem.W.fnOf "first_above" "first_above" (defArgs s_first_above) (defBody s_first_above) (defScope s_first_above) .none kV_first_above dc_first_above pm_first_above an_first_above cd_first_above ct_first_above), sl_first_above⟩)
    (c_first_above : PySem.W.codeIn K cd_first_above "first_above" = true)
    (k_first_above : PySem.W.keepIn K (.ref f_first_above) = true)
    (a_Level___init__ : PySem.W.findIn K (.ref C_Level) "__init__" = some (some (.ref f_Level___init__)))
    (i_Level___init__ : PySem.W.isFn K (.ref f_Level___init__) = true)
    (l_Level___init__ : K.lookup f_Level___init__ = some ⟨oc_Level___init__, od_Level___init__, .func (PySem.W.fnOf "__init__" "Level.__init__" (defArgs s_Level___init__) (defBody s_Level___init__) (defScope s_Level___init__) .none kV_Level___init__ dc_Level___init__ pm_Level___init__ an_Level___init__ cd_Level___init__ ct_Level___init__), sl_Level___init__⟩)
    (c_Level___init__ : PySem.W.codeIn K cd_Level___init__ "Level.__init__" = true)
    (k_Level___init__ : PySem.W.keepIn K (.ref f_Level___init__) = true)
    (a_common_part : PySem.W.nsIn K mainGlobals "common_part" = some (some (.ref f_common_part)))
    (l_common_part : K.lookup f_common_part = some ⟨oc_common_part, od_common_part, .func (PySem.W.fnOf "common_part" "common_part" (defArgs s_common_part) (defBody s_common_part) (defScope s_common_part) .none kV_common_part dc_common_part pm_common_part an_common_part cd_common_part ct_common_part), sl_common_part⟩)
    (c_common_part : PySem.W.codeIn K cd_common_part "common_part" = true)
    (k_common_part : PySem.W.keepIn K (.ref f_common_part) = true)
    (a_level_of : PySem.W.nsIn K mainGlobals "level_of" = some (some (.ref f_level_of)))
    (l_level_of : K.lookup f_level_of = some ⟨oc_level_of, od_level_of, .func (PySem.W.fnOf "level_of" "level_of" (defArgs s_level_of) (defBody s_level_of) (defScope s_level_of) .none kV_level_of dc_level_of pm_level_of an_level_of cd_level_of ct_level_of), sl_level_of⟩)
    (c_level_of : PySem.W.codeIn K cd_level_of "level_of" = true)
    (k_level_of : PySem.W.keepIn K (.ref f_level_of) = true)
    (a_comes_ahead : PySem.W.nsIn K mainGlobals "comes_ahead" = some (some (.ref f_comes_ahead)))
    (l_comes_ahead : K.lookup f_comes_ahead = some ⟨oc_comes_ahead, od_comes_ahead, .func (PySem.W.fnOf "comes_ahead" "comes_ahead" (defArgs s_comes_ahead) (defBody s_comes_ahead) (defScope s_comes_ahead) .none kV_comes_ahead dc_comes_ahead pm_comes_ahead an_comes_ahead cd_comes_ahead ct_comes_ahead), sl_comes_ahead⟩)
    (c_comes_ahead : PySem.W.codeIn K cd_comes_ahead "comes_ahead" = true)
    (k_comes_ahead : PySem.W.keepIn K (.ref f_comes_ahead) = true)
    (a_done_behind : PySem.W.nsIn K mainGlobals "done_behind" = some (some (.ref f_done_behind)))
    (l_done_behind : K.lookup f_done_behind = some ⟨oc_done_behind, od_done_behind, .func (PySem.W.fnOf "done_behind" "done_behind" (defArgs s_done_behind) (defBody s_done_behind) (defScope s_done_behind) .none kV_done_behind dc_done_behind pm_done_behind an_done_behind cd_done_behind ct_done_behind), sl_done_behind⟩)
    (c_done_behind : PySem.W.codeIn K cd_done_behind "done_behind" = true)
    (k_done_behind : PySem.W.keepIn K (.ref f_done_behind) = true)
    (a_levels_of : PySem.W.nsIn K mainGlobals "levels_of" = some (some (.ref f_levels_of)))
    (l_levels_of : K.lookup f_levels_of = some ⟨oc_levels_of, od_levels_of, .func (PySem.W.fnOf "levels_of" "levels_of" (defArgs s_levels_of) (defBody s_levels_of) (defScope s_levels_of) .none kV_levels_of dc_levels_of pm_levels_of an_levels_of cd_levels_of ct_levels_of), sl_levels_of⟩)
    (c_levels_of : PySem.W.codeIn K cd_levels_of "levels_of" = true)
    (k_levels_of : PySem.W.keepIn K (.ref f_levels_of) = true)
    (a_can_have_one_more : PySem.W.nsIn K mainGlobals "can_have_one_more" = some (some (.ref f_can_have_one_more)))
    (l_can_have_one_more : K.lookup f_can_have_one_more = some ⟨oc_can_have_one_more, od_can_have_one_more, .func (PySem.W.fnOf "can_have_one_more" "can_have_one_more" (defArgs s_can_have_one_more) (defBody s_can_have_one_more) (defScope s_can_have_one_more) .none kV_can_have_one_more dc_can_have_one_more pm_can_have_one_more an_can_have_one_more cd_can_have_one_more ct_can_have_one_more), sl_can_have_one_more⟩)
    (c_can_have_one_more : PySem.W.codeIn K cd_can_have_one_more "can_have_one_more" = true)
    (k_can_have_one_more : PySem.W.keepIn K (.ref f_can_have_one_more) = true)
    (a_full_rounds : PySem.W.nsIn K mainGlobals "full_rounds" = some (some (.ref f_full_rounds)))
    (l_full_rounds : K.lookup f_full_rounds = some ⟨oc_full_rounds, od_full_rounds, .func (PySem.W.fnOf "full_rounds" "full_rounds" (defArgs s_full_rounds) (defBody s_full_rounds) (defScope s_full_rounds) .none kV_full_rounds dc_full_rounds pm_full_rounds an_full_rounds cd_full_rounds ct_full_rounds), sl_full_rounds⟩)
    (c_full_rounds : PySem.W.codeIn K cd_full_rounds "full_rounds" = true)
    (k_full_rounds : PySem.W.keepIn K (.ref f_full_rounds) = true)
    (a_whole_shares : PySem.W.nsIn K mainGlobals "whole_shares" = some (some (.ref f_whole_shares)))
    (l_whole_shares : K.lookup f_whole_shares = some ⟨oc_whole_shares, od_whole_shares, .func (PySem.W.fnOf "whole_shares" "whole_shares" (defArgs s_whole_shares) (defBody s_whole_shares) (defScope s_whole_shares) .none kV_whole_shares dc_whole_shares pm_whole_shares an_whole_shares cd_whole_shares ct_whole_shares), sl_whole_shares⟩)
    (c_whole_shares : PySem.W.codeIn K cd_whole_shares "whole_shares" = true)
    (k_whole_shares : PySem.W.keepIn K (.ref f_whole_shares) = true)
    (a_lay_table : PySem.W.nsIn K mainGlobals "lay_table" = some (some (.ref f_lay_table)))
    (l_lay_table : K.lookup f_lay_table = some ⟨oc_lay_table, od_lay_table, .func (PySem.W.fnOf "lay_table" "lay_table" (defArgs s_lay_table) (defBody s_lay_table) (defScope s_lay_table) .none kV_lay_table dc_lay_table pm_lay_table an_lay_table cd_lay_table ct_lay_table), sl_lay_table⟩)
    (c_lay_table : PySem.W.codeIn K cd_lay_table "lay_table" = true)
    (k_lay_table : PySem.W.keepIn K (.ref f_lay_table) = true)
    (a_put_reach : PySem.W.nsIn K mainGlobals "put_reach" = some (some (.ref f_put_reach)))
    (l_put_reach : K.lookup f_put_reach = some ⟨oc_put_reach, od_put_reach, .func (PySem.W.fnOf "put_reach" "put_reach" (defArgs s_put_reach) (defBody s_put_reach) (defScope s_put_reach) .none kV_put_reach dc_put_reach pm_put_reach an_put_reach cd_put_reach ct_put_reach), sl_put_reach⟩)
    (c_put_reach : PySem.W.codeIn K cd_put_reach "put_reach" = true)
    (k_put_reach : PySem.W.keepIn K (.ref f_put_reach) = true)
    (a_put_food : PySem.W.nsIn K mainGlobals "put_food" = some (some (.ref f_put_food)))
    (l_put_food : K.lookup f_put_food = some ⟨oc_put_food, od_put_food, .func (PySem.W.fnOf "put_food" "put_food" (defArgs s_put_food) (defBody s_put_food) (defScope s_put_food) .none kV_put_food dc_put_food pm_put_food an_put_food cd_put_food ct_put_food), sl_put_food⟩)
    (c_put_food : PySem.W.codeIn K cd_put_food "put_food" = true)
    (k_put_food : PySem.W.keepIn K (.ref f_put_food) = true)
    (a_put_appetite : PySem.W.nsIn K mainGlobals "put_appetite" = some (some (.ref f_put_appetite)))
    (l_put_appetite : K.lookup f_put_appetite = some ⟨oc_put_appetite, od_put_appetite, .func (PySem.W.fnOf "put_appetite" "put_appetite" (defArgs s_put_appetite) (defBody s_put_appetite) (defScope s_put_appetite) .none kV_put_appetite dc_put_appetite pm_put_appetite an_put_appetite cd_put_appetite ct_put_appetite), sl_put_appetite⟩)
    (c_put_appetite : PySem.W.codeIn K cd_put_appetite "put_appetite" = true)
    (k_put_appetite : PySem.W.keepIn K (.ref f_put_appetite) = true)
    (a_tell_all : PySem.W.nsIn K mainGlobals "tell_all" = some (some (.ref f_tell_all)))
    (l_tell_all : K.lookup f_tell_all = some ⟨oc_tell_all, od_tell_all, .func (PySem.W.fnOf "tell_all" "tell_all" (defArgs s_tell_all) (defBody s_tell_all) (defScope s_tell_all) .none kV_tell_all dc_tell_all pm_tell_all an_tell_all cd_tell_all ct_tell_all), sl_tell_all⟩)
    (c_tell_all : PySem.W.codeIn K cd_tell_all "tell_all" = true)
    (k_tell_all : PySem.W.keepIn K (.ref f_tell_all) = true)
    (a_tell_most : PySem.W.nsIn K mainGlobals "tell_most" = some (some (.ref f_tell_most)))
    (l_tell_most : K.lookup f_tell_most = some ⟨oc_tell_most, od_tell_most, .func (PySem.W.fnOf "tell_most" "tell_most" (defArgs s_tell_most) (defBody s_tell_most) (defScope s_tell_most) .none kV_tell_most dc_tell_most pm_tell_most an_tell_most cd_tell_most ct_tell_most), sl_tell_most⟩)
    (c_tell_most : PySem.W.codeIn K cd_tell_most "tell_most" = true)
    (k_tell_most : PySem.W.keepIn K (.ref f_tell_most) = true)
    (a_tell_binding : PySem.W.nsIn K mainGlobals "tell_binding" = some (some (.ref f_tell_binding)))
    (l_tell_binding : K.lookup f_tell_binding = some ⟨oc_tell_binding, od_tell_binding, .func (PySem.W.fnOf "tell_binding" "tell_binding" (defArgs s_tell_binding) (defBody s_tell_binding) (defScope s_tell_binding) .none kV_tell_binding dc_tell_binding pm_tell_binding an_tell_binding cd_tell_binding ct_tell_binding), sl_tell_binding⟩)
    (c_tell_binding : PySem.W.codeIn K cd_tell_binding "tell_binding" = true)
    (k_tell_binding : PySem.W.keepIn K (.ref f_tell_binding) = true)
    (a_tell_can : PySem.W.nsIn K mainGlobals "tell_can" = some (some (.ref f_tell_can)))
    (l_tell_can : K.lookup f_tell_can = some ⟨oc_tell_can, od_tell_can, .func (PySem.W.fnOf "tell_can" "tell_can" (defArgs s_tell_can) (defBody s_tell_can) (defScope s_tell_can) .none kV_tell_can dc_tell_can pm_tell_can an_tell_can cd_tell_can ct_tell_can), sl_tell_can⟩)
    (c_tell_can : PySem.W.codeIn K cd_tell_can "tell_can" = true)
    (k_tell_can : PySem.W.keepIn K (.ref f_tell_can) = true)
    (a_tell_fair : PySem.W.nsIn K mainGlobals "tell_fair" = some (some (.ref f_tell_fair)))
    (l_tell_fair : K.lookup f_tell_fair = some ⟨oc_tell_fair, od_tell_fair, .func (PySem.W.fnOf "tell_fair" "tell_fair" (defArgs s_tell_fair) (defBody s_tell_fair) (defScope s_tell_fair) .none kV_tell_fair dc_tell_fair pm_tell_fair an_tell_fair cd_tell_fair ct_tell_fair), sl_tell_fair⟩)
    (c_tell_fair : PySem.W.codeIn K cd_tell_fair "tell_fair" = true)
    (k_tell_fair : PySem.W.keepIn K (.ref f_tell_fair) = true)
    (a_tell_levels : PySem.W.nsIn K mainGlobals "tell_levels" = some (some (.ref f_tell_levels)))
    (l_tell_levels : K.lookup f_tell_levels = some ⟨oc_tell_levels, od_tell_levels, .func (PySem.W.fnOf "tell_levels" "tell_levels" (defArgs s_tell_levels) (defBody s_tell_levels) (defScope s_tell_levels) .none kV_tell_levels dc_tell_levels pm_tell_levels an_tell_levels cd_tell_levels ct_tell_levels), sl_tell_levels⟩)
    (c_tell_levels : PySem.W.codeIn K cd_tell_levels "tell_levels" = true)
    (k_tell_levels : PySem.W.keepIn K (.ref f_tell_levels) = true)
    (a_tell_whole : PySem.W.nsIn K mainGlobals "tell_whole" = some (some (.ref f_tell_whole)))
    (l_tell_whole : K.lookup f_tell_whole = some ⟨oc_tell_whole, od_tell_whole, .func (PySem.W.fnOf "tell_whole" "tell_whole" (defArgs s_tell_whole) (defBody s_tell_whole) (defScope s_tell_whole) .none kV_tell_whole dc_tell_whole pm_tell_whole an_tell_whole cd_tell_whole ct_tell_whole), sl_tell_whole⟩)
    (c_tell_whole : PySem.W.codeIn K cd_tell_whole "tell_whole" = true)
    (k_tell_whole : PySem.W.keepIn K (.ref f_tell_whole) = true)
    (a_rename_mouths : PySem.W.nsIn K mainGlobals "rename_mouths" = some (some (.ref f_rename_mouths)))
    (l_rename_mouths : K.lookup f_rename_mouths = some ⟨oc_rename_mouths, od_rename_mouths, .func (PySem.W.fnOf "rename_mouths" "rename_mouths" (defArgs s_rename_mouths) (defBody s_rename_mouths) (defScope s_rename_mouths) .none kV_rename_mouths dc_rename_mouths pm_rename_mouths an_rename_mouths cd_rename_mouths ct_rename_mouths), sl_rename_mouths⟩)
    (c_rename_mouths : PySem.W.codeIn K cd_rename_mouths "rename_mouths" = true)
    (k_rename_mouths : PySem.W.keepIn K (.ref f_rename_mouths) = true)
    (a_do_call : PySem.W.nsIn K mainGlobals "do_call" = some (some (.ref f_do_call)))
    (l_do_call : K.lookup f_do_call = some ⟨oc_do_call, od_do_call, .func (PySem.W.fnOf "do_call" "do_call" (defArgs s_do_call) (defBody s_do_call) (defScope s_do_call) .none kV_do_call dc_do_call pm_do_call an_do_call cd_do_call ct_do_call), sl_do_call⟩)
    (c_do_call : PySem.W.codeIn K cd_do_call "do_call" = true)
    (k_do_call : PySem.W.keepIn K (.ref f_do_call) = true)
    (a_Reader___init__ : PySem.W.findIn K (.ref C_Reader) "__init__" = some (some (.ref f_Reader___init__)))
    (i_Reader___init__ : PySem.W.isFn K (.ref f_Reader___init__) = true)
    (l_Reader___init__ : K.lookup f_Reader___init__ = some ⟨oc_Reader___init__, od_Reader___init__, .func (PySem.W.fnOf "__init__" "Reader.__init__" (defArgs s_Reader___init__) (defBody s_Reader___init__) (defScope s_Reader___init__) .none kV_Reader___init__ dc_Reader___init__ pm_Reader___init__ an_Reader___init__ cd_Reader___init__ ct_Reader___init__), sl_Reader___init__⟩)
    (c_Reader___init__ : PySem.W.codeIn K cd_Reader___init__ "Reader.__init__" = true)
    (k_Reader___init__ : PySem.W.keepIn K (.ref f_Reader___init__) = true)
    (a_Reader_is_done : PySem.W.findIn K (.ref C_Reader) "is_done" = some (some (.ref f_Reader_is_done)))
    (i_Reader_is_done : PySem.W.isFn K (.ref f_Reader_is_done) = true)
    (l_Reader_is_done : K.lookup f_Reader_is_done = some ⟨oc_Reader_is_done, od_Reader_is_done, .func (PySem.W.fnOf "is_done" "Reader.is_done" (defArgs s_Reader_is_done) (defBody s_Reader_is_done) (defScope s_Reader_is_done) .none kV_Reader_is_done dc_Reader_is_done pm_Reader_is_done an_Reader_is_done cd_Reader_is_done ct_Reader_is_done), sl_Reader_is_done⟩)
    (c_Reader_is_done : PySem.W.codeIn K cd_Reader_is_done "Reader.is_done" = true)
    (k_Reader_is_done : PySem.W.keepIn K (.ref f_Reader_is_done) = true)
    (a_Reader_take_number : PySem.W.findIn K (.ref C_Reader) "take_number" = some (some (.ref f_Reader_take_number)))
    (i_Reader_take_number : PySem.W.isFn K (.ref f_Reader_take_number) = true)
    (l_Reader_take_number : K.lookup f_Reader_take_number = some ⟨oc_Reader_take_number, od_Reader_take_number, .func (PySem.W.fnOf "take_number" "Reader.take_number" (defArgs s_Reader_take_number) (defBody s_Reader_take_number) (defScope s_Reader_take_number) .none kV_Reader_take_number dc_Reader_take_number pm_Reader_take_number an_Reader_take_number cd_Reader_take_number ct_Reader_take_number), sl_Reader_take_number⟩)
    (c_Reader_take_number : PySem.W.codeIn K cd_Reader_take_number "Reader.take_number" = true)
    (k_Reader_take_number : PySem.W.keepIn K (.ref f_Reader_take_number) = true)
    (a_Reader_take_row : PySem.W.findIn K (.ref C_Reader) "take_row" = some (some (.ref f_Reader_take_row)))
    (i_Reader_take_row : PySem.W.isFn K (.ref f_Reader_take_row) = true)
    (l_Reader_take_row : K.lookup f_Reader_take_row = some ⟨oc_Reader_take_row, od_Reader_take_row, .func (PySem.W.fnOf "take_row" "Reader.take_row" (defArgs s_Reader_take_row) (defBody s_Reader_take_row) (defScope s_Reader_take_row) .none kV_Reader_take_row dc_Reader_take_row pm_Reader_take_row an_Reader_take_row cd_Reader_take_row ct_Reader_take_row), sl_Reader_take_row⟩)
    (c_Reader_take_row : PySem.W.codeIn K cd_Reader_take_row "Reader.take_row" = true)
    (k_Reader_take_row : PySem.W.keepIn K (.ref f_Reader_take_row) = true)
    (a_Reader_take_given : PySem.W.findIn K (.ref C_Reader) "take_given" = some (some (.ref f_Reader_take_given)))
    (i_Reader_take_given : PySem.W.isFn K (.ref f_Reader_take_given) = true)
    (l_Reader_take_given : K.lookup f_Reader_take_given = some ⟨oc_Reader_take_given, od_Reader_take_given, .func (PySem.W.fnOf "take_given" "Reader.take_given" (defArgs s_Reader_take_given) (defBody s_Reader_take_given) (defScope s_Reader_take_given) .none kV_Reader_take_given dc_Reader_take_given pm_Reader_take_given an_Reader_take_given cd_Reader_take_given ct_Reader_take_given), sl_Reader_take_given⟩)
    (c_Reader_take_given : PySem.W.codeIn K cd_Reader_take_given "Reader.take_given" = true)
    (k_Reader_take_given : PySem.W.keepIn K (.ref f_Reader_take_given) = true)
    (a_State___init__ : PySem.W.findIn K (.ref C_State) "__init__" = some (some (.ref f_State___init__)))
    (i_State___init__ : PySem.W.isFn K (.ref f_State___init__) = true)
    (l_State___init__ : K.lookup f_State___init__ = some ⟨oc_State___init__, od_State___init__, .func (PySem.W.fnOf "__init__" "State.__init__" (defArgs s_State___init__) (defBody s_State___init__) (defScope s_State___init__) .none kV_State___init__ dc_State___init__ pm_State___init__ an_State___init__ cd_State___init__ ct_State___init__), sl_State___init__⟩)
    (c_State___init__ : PySem.W.codeIn K cd_State___init__ "State.__init__" = true)
    (k_State___init__ : PySem.W.keepIn K (.ref f_State___init__) = true)
    (a_answers : PySem.W.nsIn K mainGlobals "answers" = some (some (.ref f_answers)))
    (l_answers : K.lookup f_answers = some ⟨oc_answers, od_answers, .func (PySem.W.fnOf "answers" "answers" (defArgs s_answers) (defBody s_answers) (defScope s_answers) .none kV_answers dc_answers pm_answers an_answers cd_answers ct_answers), sl_answers⟩)
    (c_answers : PySem.W.codeIn K cd_answers "answers" = true)
    (k_answers : PySem.W.keepIn K (.ref f_answers) = true)
    (pg_Level : PySem.W.plainGet K C_Level Str.empty = true)
    (hd_Level : PySem.W.hasDictIn K C_Level = true)
    (po_Level : PySem.W.plainOver K C_Level = true)
    (sa_Level : PySem.W.findIn K (.ref C_Level) "__setattr__" = some (some (.builtin "object.__setattr__")))
    (mk_Level : PySem.W.makesIn K C_Level = true)
    (kc_Level : PySem.W.keepIn K (.ref C_Level) = true)
    (n_Level_above : PySem.W.findIn K (.ref C_Level) "above" = some none)
    (n_Level_below : PySem.W.findIn K (.ref C_Level) "below" = some none)
    (n_Level_mouths : PySem.W.findIn K (.ref C_Level) "mouths" = some none)
    (pg_Reader : PySem.W.plainGet K C_Reader Str.empty = true)
    (hd_Reader : PySem.W.hasDictIn K C_Reader = true)
    (po_Reader : PySem.W.plainOver K C_Reader = true)
    (sa_Reader : PySem.W.findIn K (.ref C_Reader) "__setattr__" = some (some (.builtin "object.__setattr__")))
    (mk_Reader : PySem.W.makesIn K C_Reader = true)
    (kc_Reader : PySem.W.keepIn K (.ref C_Reader) = true)
    (n_Reader_line : PySem.W.findIn K (.ref C_Reader) "line" = some none)
    (n_Reader_at : PySem.W.findIn K (.ref C_Reader) "at" = some none)
    (pg_State : PySem.W.plainGet K C_State Str.empty = true)
    (hd_State : PySem.W.hasDictIn K C_State = true)
    (po_State : PySem.W.plainOver K C_State = true)
    (sa_State : PySem.W.findIn K (.ref C_State) "__setattr__" = some (some (.builtin "object.__setattr__")))
    (mk_State : PySem.W.makesIn K C_State = true)
    (kc_State : PySem.W.keepIn K (.ref C_State) = true)
    (n_State_food : PySem.W.findIn K (.ref C_State) "food" = some none)
    (n_State_appetites : PySem.W.findIn K (.ref C_State) "appetites" = some none)
    (n_State_reaches : PySem.W.findIn K (.ref C_State) "reaches" = some none)
    (z_sum : PySem.W.nsIn K mainGlobals "sum" = some none)
    (z_enumerate : PySem.W.nsIn K mainGlobals "enumerate" = some none)
    (z_min : PySem.W.nsIn K mainGlobals "min" = some none)
    (z_any : PySem.W.nsIn K mainGlobals "any" = some none)
    (z_range : PySem.W.nsIn K mainGlobals "range" = some none)
    (z_len : PySem.W.nsIn K mainGlobals "len" = some none)
    (z_all : PySem.W.nsIn K mainGlobals "all" = some none)
    (g_MOST_AMOUNT : PySem.W.nsIn K mainGlobals "MOST_AMOUNT" = some (some (.int (100) tk_MOST_AMOUNT)))
    (g_MOST_OF_EACH : PySem.W.nsIn K mainGlobals "MOST_OF_EACH" = some (some (.int (8) tk_MOST_OF_EACH)))
    (z_sorted : PySem.W.nsIn K mainGlobals "sorted" = some none)
    (z_list : PySem.W.nsIn K mainGlobals "list" = some none)
    (z_zip : PySem.W.nsIn K mainGlobals "zip" = some none)
    (g_DOINGS : PySem.W.nsIn K mainGlobals "DOINGS" = some (some (.ref A_DOINGS)))
    (d_DOINGS : K.lookup A_DOINGS = some ⟨.type "dict", none, .dict es_DOINGS nd_DOINGS, #[]⟩)
    (q_DOINGS : intKeysB es_DOINGS.toList = true)
    (e_DOINGS_0 : findBy Value.isInt es_DOINGS 0 = some (.ref f_lay_table))
    (e_DOINGS_1 : findBy Value.isInt es_DOINGS 1 = some (.ref f_put_reach))
    (e_DOINGS_2 : findBy Value.isInt es_DOINGS 2 = some (.ref f_put_food))
    (e_DOINGS_3 : findBy Value.isInt es_DOINGS 3 = some (.ref f_put_appetite))
    (e_DOINGS_4 : findBy Value.isInt es_DOINGS 4 = some (.ref f_tell_all))
    (e_DOINGS_5 : findBy Value.isInt es_DOINGS 5 = some (.ref f_tell_most))
    (e_DOINGS_6 : findBy Value.isInt es_DOINGS 6 = some (.ref f_tell_binding))
    (e_DOINGS_7 : findBy Value.isInt es_DOINGS 7 = some (.ref f_tell_can))
    (e_DOINGS_8 : findBy Value.isInt es_DOINGS 8 = some (.ref f_tell_fair))
    (e_DOINGS_9 : findBy Value.isInt es_DOINGS 9 = some (.ref f_tell_levels))
    (e_DOINGS_10 : findBy Value.isInt es_DOINGS 10 = some (.ref f_tell_whole))
    (e_DOINGS_11 : findBy Value.isInt es_DOINGS 11 = some (.ref f_rename_mouths))
    (g_SHAPES : PySem.W.nsIn K mainGlobals "SHAPES" = some (some (.ref A_SHAPES)))
    (d_SHAPES : K.lookup A_SHAPES = some ⟨.type "dict", none, .dict es_SHAPES nd_SHAPES, #[]⟩)
    (q_SHAPES : intKeysB es_SHAPES.toList = true)
    (e_SHAPES_0 : findBy Value.isInt es_SHAPES 0 = some (.ref t_SHAPES_0))
    (o_SHAPES_0_at : K.lookup t_SHAPES_0 = some o_SHAPES_0)
    (o_SHAPES_0_is : tup2 o_SHAPES_0 0 2 = true)
    (e_SHAPES_1 : findBy Value.isInt es_SHAPES 1 = some (.ref t_SHAPES_1))
    (o_SHAPES_1_at : K.lookup t_SHAPES_1 = some o_SHAPES_1)
    (o_SHAPES_1_is : tup2 o_SHAPES_1 1 1 = true)
    (e_SHAPES_2 : findBy Value.isInt es_SHAPES 2 = some (.ref t_SHAPES_2))
    (o_SHAPES_2_at : K.lookup t_SHAPES_2 = some o_SHAPES_2)
    (o_SHAPES_2_is : tup2 o_SHAPES_2 2 0 = true)
    (e_SHAPES_3 : findBy Value.isInt es_SHAPES 3 = some (.ref t_SHAPES_3))
    (o_SHAPES_3_at : K.lookup t_SHAPES_3 = some o_SHAPES_3)
    (o_SHAPES_3_is : tup2 o_SHAPES_3 2 0 = true)
    (e_SHAPES_4 : findBy Value.isInt es_SHAPES 4 = some (.ref t_SHAPES_4))
    (o_SHAPES_4_at : K.lookup t_SHAPES_4 = some o_SHAPES_4)
    (o_SHAPES_4_is : tup2 o_SHAPES_4 0 0 = true)
    (e_SHAPES_5 : findBy Value.isInt es_SHAPES 5 = some (.ref t_SHAPES_5))
    (o_SHAPES_5_at : K.lookup t_SHAPES_5 = some o_SHAPES_5)
    (o_SHAPES_5_is : tup2 o_SHAPES_5 0 1 = true)
    (e_SHAPES_6 : findBy Value.isInt es_SHAPES 6 = some (.ref t_SHAPES_6))
    (o_SHAPES_6_at : K.lookup t_SHAPES_6 = some o_SHAPES_6)
    (o_SHAPES_6_is : tup2 o_SHAPES_6 0 1 = true)
    (e_SHAPES_7 : findBy Value.isInt es_SHAPES 7 = some (.ref t_SHAPES_7))
    (o_SHAPES_7_at : K.lookup t_SHAPES_7 = some o_SHAPES_7)
    (o_SHAPES_7_is : tup2 o_SHAPES_7 0 1 = true)
    (e_SHAPES_8 : findBy Value.isInt es_SHAPES 8 = some (.ref t_SHAPES_8))
    (o_SHAPES_8_at : K.lookup t_SHAPES_8 = some o_SHAPES_8)
    (o_SHAPES_8_is : tup2 o_SHAPES_8 0 0 = true)
    (e_SHAPES_9 : findBy Value.isInt es_SHAPES 9 = some (.ref t_SHAPES_9))
    (o_SHAPES_9_at : K.lookup t_SHAPES_9 = some o_SHAPES_9)
    (o_SHAPES_9_is : tup2 o_SHAPES_9 0 0 = true)
    (e_SHAPES_10 : findBy Value.isInt es_SHAPES 10 = some (.ref t_SHAPES_10))
    (o_SHAPES_10_at : K.lookup t_SHAPES_10 = some o_SHAPES_10)
    (o_SHAPES_10_is : tup2 o_SHAPES_10 0 0 = true)
    (e_SHAPES_11 : findBy Value.isInt es_SHAPES 11 = some (.ref t_SHAPES_11))
    (o_SHAPES_11_at : K.lookup t_SHAPES_11 = some o_SHAPES_11)
    (o_SHAPES_11_is : tup2 o_SHAPES_11 0 1 = true)
    : ∃ fd : FuncData, (∀ (s : Shared) (us : List Value), us.length = (["calls"] : List Str).length → BindsTo s fd ⟨us, []⟩ ((["calls"] : List Str).zip us)) ∧ ∀ base : Heap, K.In base → base.Ns mainGlobals mg → FnOk P w K mg base CX0 7 fa fd ["calls"] (spAnswers K) := by
  have e := hfa.symm.trans (PySem.W.mg_of X G a_answers)
  cases e
  have F_all_choices := fun_mk (st := s_all_choices) l_all_choices c_all_choices k_all_choices
  have b_all_choices : Binds K _ P_all_choices [] := F_all_choices.binds (ps := P_all_choices) fun _ _ _ _ _ _ us hl => match us, hl with | [_], _ => rfl
  have F_reached_food := fun_mk (st := s_reached_food) l_reached_food c_reached_food k_reached_food
  have b_reached_food : Binds K _ P_reached_food [] := F_reached_food.binds (ps := P_reached_food) fun _ _ _ _ _ _ us hl => match us, hl with | [_, _], _ => rfl
  have F_wanted_amount := fun_mk (st := s_wanted_amount) l_wanted_amount c_wanted_amount k_wanted_amount
  have b_wanted_amount : Binds K _ P_wanted_amount [] := F_wanted_amount.binds (ps := P_wanted_amount) fun _ _ _ _ _ _ us hl => match us, hl with | [_, _], _ => rfl
  have F_bound_of := fun_mk (st := s_bound_of) l_bound_of c_bound_of k_bound_of
  have b_bound_of : Binds K _ P_bound_of [] := F_bound_of.binds (ps := P_bound_of) fun _ _ _ _ _ _ us hl => match us, hl with | [_, _, _], _ => rfl
  have F_most_of := fun_mk (st := s_most_of) l_most_of c_most_of k_most_of
  have b_most_of : Binds K _ P_most_of [] := F_most_of.binds (ps := P_most_of) fun _ _ _ _ _ _ us hl => match us, hl with | [_, _], _ => rfl
  have F_bound_by_food := fun_mk (st := s_bound_by_food) l_bound_by_food c_bound_by_food k_bound_by_food
  have b_bound_by_food : Binds K _ P_bound_by_food [] := F_bound_by_food.binds (ps := P_bound_by_food) fun _ _ _ _ _ _ us hl => match us, hl with | [_, _], _ => rfl
  have F_is_there := fun_mk (st := s_is_there) l_is_there c_is_there k_is_there
  have b_is_there : Binds K _ P_is_there [] := F_is_there.binds (ps := P_is_there) fun _ _ _ _ _ _ us hl => match us, hl with | [_, _], _ => rfl
  have F_goes_up := fun_mk (st := s_goes_up) l_goes_up c_goes_up k_goes_up
  have b_goes_up : Binds K _ P_goes_up [] := F_goes_up.binds (ps := P_goes_up) fun _ _ _ _ _ _ us hl => match us, hl with | [_], _ => rfl
  have F_is_choice := fun_mk (st := s_is_choice) l_is_choice c_is_choice k_is_choice
  have b_is_choice : Binds K _ P_is_choice [] := F_is_choice.binds (ps := P_is_choice) fun _ _ _ _ _ _ us hl => match us, hl with | [_, _], _ => rfl
  have F_is_amount := fun_mk (st := s_is_amount) l_is_amount c_is_amount k_is_amount
  have b_is_amount : Binds K _ P_is_amount [] := F_is_amount.binds (ps := P_is_amount) fun _ _ _ _ _ _ us hl => match us, hl with | [_], _ => rfl
  have F_is_amount_row := fun_mk (st := s_is_amount_row) l_is_amount_row c_is_amount_row k_is_amount_row
  have b_is_amount_row : Binds K _ P_is_amount_row [] := F_is_amount_row.binds (ps := P_is_amount_row) fun _ _ _ _ _ _ us hl => match us, hl with | [_], _ => rfl
  have F_is_share_row := fun_mk (st := s_is_share_row) l_is_share_row c_is_share_row k_is_share_row
  have b_is_share_row : Binds K _ P_is_share_row [] := F_is_share_row.binds (ps := P_is_share_row) fun _ _ _ _ _ _ us hl => match us, hl with | [_, _], _ => rfl
  have F_is_order := fun_mk (st := s_is_order) l_is_order c_is_order k_is_order
  have b_is_order : Binds K _ P_is_order [] := F_is_order.binds (ps := P_is_order) fun _ _ _ _ _ _ us hl => match us, hl with | [_, _], _ => rfl
  have F_every_set := fun_mk (st := s_every_set) l_every_set c_every_set k_every_set
  have b_every_set : Binds K _ P_every_set [] := F_every_set.binds (ps := P_every_set) fun _ _ _ _ _ _ us hl => match us, hl with | [_], _ => rfl
  have F_sums_of_sets := fun_mk (st := s_sums_of_sets) l_sums_of_sets c_sums_of_sets k_sums_of_sets
  have b_sums_of_sets : Binds K _ P_sums_of_sets [] := F_sums_of_sets.binds (ps := P_sums_of_sets) fun _ _ _ _ _ _ us hl => match us, hl with | [_], _ => rfl
  have F_mosts_of_sets := fun_mk (st := s_mosts_of_sets) l_mosts_of_sets c_mosts_of_sets k_mosts_of_sets
  have b_mosts_of_sets : Binds K _ P_mosts_of_sets [] := F_mosts_of_sets.binds (ps := P_mosts_of_sets) fun _ _ _ _ _ _ us hl => match us, hl with | [_], _ => rfl
  have F_first_above := fun_mk (st := s_first_above) l_first_above c_first_above k_first_above
  have b_first_above : Binds K _ P_first_above [] := F_first_above.binds (ps := P_first_above) fun _ _ _ _ _ _ us hl => match us, hl with | [_, _], _ => rfl
  have F_Level___init__ := fun_mk (st := s_Level___init__) l_Level___init__ c_Level___init__ k_Level___init__
  have b_Level___init__ : Binds K _ P_Level___init__ [] := F_Level___init__.binds (ps := P_Level___init__) fun _ _ _ _ _ _ us hl => match us, hl with | [_, _, _, _], _ => rfl
  have F_common_part := fun_mk (st := s_common_part) l_common_part c_common_part k_common_part
  have b_common_part : Binds K _ P_common_part [] := F_common_part.binds (ps := P_common_part) fun _ _ _ _ _ _ us hl => match us, hl with | [_, _], _ => rfl
  have F_level_of := fun_mk (st := s_level_of) l_level_of c_level_of k_level_of
  have b_level_of : Binds K _ P_level_of [] := F_level_of.binds (ps := P_level_of) fun _ _ _ _ _ _ us hl => match us, hl with | [_, _], _ => rfl
  have F_comes_ahead := fun_mk (st := s_comes_ahead) l_comes_ahead c_comes_ahead k_comes_ahead
  have b_comes_ahead : Binds K _ P_comes_ahead [] := F_comes_ahead.binds (ps := P_comes_ahead) fun _ _ _ _ _ _ us hl => match us, hl with | [_, _, _, _], _ => rfl
  have F_done_behind := fun_mk (st := s_done_behind) l_done_behind c_done_behind k_done_behind
  have b_done_behind : Binds K _ P_done_behind [] := F_done_behind.binds (ps := P_done_behind) fun _ _ _ _ _ _ us hl => match us, hl with | [_, _, _], _ => rfl
  have F_levels_of := fun_mk (st := s_levels_of) l_levels_of c_levels_of k_levels_of
  have b_levels_of : Binds K _ P_levels_of [] := F_levels_of.binds (ps := P_levels_of) fun _ _ _ _ _ _ us hl => match us, hl with | [_], _ => rfl
  have F_can_have_one_more := fun_mk (st := s_can_have_one_more) l_can_have_one_more c_can_have_one_more k_can_have_one_more
  have b_can_have_one_more : Binds K _ P_can_have_one_more [] := F_can_have_one_more.binds (ps := P_can_have_one_more) fun _ _ _ _ _ _ us hl => match us, hl with | [_, _, _], _ => rfl
  have F_full_rounds := fun_mk (st := s_full_rounds) l_full_rounds c_full_rounds k_full_rounds
  have b_full_rounds : Binds K _ P_full_rounds [] := F_full_rounds.binds (ps := P_full_rounds) fun _ _ _ _ _ _ us hl => match us, hl with | [_, _, _], _ => rfl
  have F_whole_shares := fun_mk (st := s_whole_shares) l_whole_shares c_whole_shares k_whole_shares
  have b_whole_shares : Binds K _ P_whole_shares [] := F_whole_shares.binds (ps := P_whole_shares) fun _ _ _ _ _ _ us hl => match us, hl with | [_], _ => rfl
  have F_lay_table := fun_mk (st := s_lay_table) l_lay_table c_lay_table k_lay_table
  have b_lay_table : Binds K _ P_lay_table [] := F_lay_table.binds (ps := P_lay_table) fun _ _ _ _ _ _ us hl => match us, hl with | [_, _], _ => rfl
  have F_put_reach := fun_mk (st := s_put_reach) l_put_reach c_put_reach k_put_reach
  have b_put_reach : Binds K _ P_put_reach [] := F_put_reach.binds (ps := P_put_reach) fun _ _ _ _ _ _ us hl => match us, hl with | [_, _], _ => rfl
  have F_put_food := fun_mk (st := s_put_food) l_put_food c_put_food k_put_food
  have b_put_food : Binds K _ P_put_food [] := F_put_food.binds (ps := P_put_food) fun _ _ _ _ _ _ us hl => match us, hl with | [_, _], _ => rfl
  have F_put_appetite := fun_mk (st := s_put_appetite) l_put_appetite c_put_appetite k_put_appetite
  have b_put_appetite : Binds K _ P_put_appetite [] := F_put_appetite.binds (ps := P_put_appetite) fun _ _ _ _ _ _ us hl => match us, hl with | [_, _], _ => rfl
  have F_tell_all := fun_mk (st := s_tell_all) l_tell_all c_tell_all k_tell_all
  have b_tell_all : Binds K _ P_tell_all [] := F_tell_all.binds (ps := P_tell_all) fun _ _ _ _ _ _ us hl => match us, hl with | [_, _], _ => rfl
  have F_tell_most := fun_mk (st := s_tell_most) l_tell_most c_tell_most k_tell_most
  have b_tell_most : Binds K _ P_tell_most [] := F_tell_most.binds (ps := P_tell_most) fun _ _ _ _ _ _ us hl => match us, hl with | [_, _], _ => rfl
  have F_tell_binding := fun_mk (st := s_tell_binding) l_tell_binding c_tell_binding k_tell_binding
  have b_tell_binding : Binds K _ P_tell_binding [] := F_tell_binding.binds (ps := P_tell_binding) fun _ _ _ _ _ _ us hl => match us, hl with | [_, _], _ => rfl
  have F_tell_can := fun_mk (st := s_tell_can) l_tell_can c_tell_can k_tell_can
  have b_tell_can : Binds K _ P_tell_can [] := F_tell_can.binds (ps := P_tell_can) fun _ _ _ _ _ _ us hl => match us, hl with | [_, _], _ => rfl
  have F_tell_fair := fun_mk (st := s_tell_fair) l_tell_fair c_tell_fair k_tell_fair
  have b_tell_fair : Binds K _ P_tell_fair [] := F_tell_fair.binds (ps := P_tell_fair) fun _ _ _ _ _ _ us hl => match us, hl with | [_, _], _ => rfl
  have F_tell_levels := fun_mk (st := s_tell_levels) l_tell_levels c_tell_levels k_tell_levels
  have b_tell_levels : Binds K _ P_tell_levels [] := F_tell_levels.binds (ps := P_tell_levels) fun _ _ _ _ _ _ us hl => match us, hl with | [_, _], _ => rfl
  have F_tell_whole := fun_mk (st := s_tell_whole) l_tell_whole c_tell_whole k_tell_whole
  have b_tell_whole : Binds K _ P_tell_whole [] := F_tell_whole.binds (ps := P_tell_whole) fun _ _ _ _ _ _ us hl => match us, hl with | [_, _], _ => rfl
  have F_rename_mouths := fun_mk (st := s_rename_mouths) l_rename_mouths c_rename_mouths k_rename_mouths
  have b_rename_mouths : Binds K _ P_rename_mouths [] := F_rename_mouths.binds (ps := P_rename_mouths) fun _ _ _ _ _ _ us hl => match us, hl with | [_, _], _ => rfl
  have F_do_call := fun_mk (st := s_do_call) l_do_call c_do_call k_do_call
  have b_do_call : Binds K _ P_do_call [] := F_do_call.binds (ps := P_do_call) fun _ _ _ _ _ _ us hl => match us, hl with | [_, _, _], _ => rfl
  have F_Reader___init__ := fun_mk (st := s_Reader___init__) l_Reader___init__ c_Reader___init__ k_Reader___init__
  have b_Reader___init__ : Binds K _ P_Reader___init__ [] := F_Reader___init__.binds (ps := P_Reader___init__) fun _ _ _ _ _ _ us hl => match us, hl with | [_, _], _ => rfl
  have F_Reader_is_done := fun_mk (st := s_Reader_is_done) l_Reader_is_done c_Reader_is_done k_Reader_is_done
  have b_Reader_is_done : Binds K _ P_Reader_is_done [] := F_Reader_is_done.binds (ps := P_Reader_is_done) fun _ _ _ _ _ _ us hl => match us, hl with | [_], _ => rfl
  have F_Reader_take_number := fun_mk (st := s_Reader_take_number) l_Reader_take_number c_Reader_take_number k_Reader_take_number
  have b_Reader_take_number : Binds K _ P_Reader_take_number [] := F_Reader_take_number.binds (ps := P_Reader_take_number) fun _ _ _ _ _ _ us hl => match us, hl with | [_], _ => rfl
  have F_Reader_take_row := fun_mk (st := s_Reader_take_row) l_Reader_take_row c_Reader_take_row k_Reader_take_row
  have b_Reader_take_row : Binds K _ P_Reader_take_row [] := F_Reader_take_row.binds (ps := P_Reader_take_row) fun _ _ _ _ _ _ us hl => match us, hl with | [_], _ => rfl
  have F_Reader_take_given := fun_mk (st := s_Reader_take_given) l_Reader_take_given c_Reader_take_given k_Reader_take_given
  have b_Reader_take_given : Binds K _ P_Reader_take_given [] := F_Reader_take_given.binds (ps := P_Reader_take_given) fun _ _ _ _ _ _ us hl => match us, hl with | [_, _], _ => rfl
  have F_State___init__ := fun_mk (st := s_State___init__) l_State___init__ c_State___init__ k_State___init__
  have b_State___init__ : Binds K _ P_State___init__ [] := F_State___init__.binds (ps := P_State___init__) fun _ _ _ _ _ _ us hl => match us, hl with | [_], _ => rfl
  have F_answers := fun_mk (st := s_answers) l_answers c_answers k_answers
  have b_answers : Binds K _ P_answers [] := F_answers.binds (ps := P_answers) fun _ _ _ _ _ _ us hl => match us, hl with | [_], _ => rfl
  have w_SHAPES : ∀ (p : Int) (n k : Nat), PyVbecaf.shape p = some (n, k) → p ≤ lastP → ∃ t, WInt K A_SHAPES p (.ref t) ∧ ∀ H, SqT K H t [.int (n : Int), .int (k : Int)] := by
    intro p n k hs hp
    rcases shape_cases hs with h | h | h | h | h | h | h | h | h | h | h | h
    · obtain ⟨rfl, rfl, rfl⟩ := h
      exact ⟨_, ⟨es_SHAPES, _, ⟨⟨nd_SHAPES, d_SHAPES⟩, q_SHAPES⟩, e_SHAPES_0, rfl⟩, tup2_sq o_SHAPES_0_at o_SHAPES_0_is⟩
    · obtain ⟨rfl, rfl, rfl⟩ := h
      exact ⟨_, ⟨es_SHAPES, _, ⟨⟨nd_SHAPES, d_SHAPES⟩, q_SHAPES⟩, e_SHAPES_1, rfl⟩, tup2_sq o_SHAPES_1_at o_SHAPES_1_is⟩
    · obtain ⟨rfl, rfl, rfl⟩ := h
      exact ⟨_, ⟨es_SHAPES, _, ⟨⟨nd_SHAPES, d_SHAPES⟩, q_SHAPES⟩, e_SHAPES_2, rfl⟩, tup2_sq o_SHAPES_2_at o_SHAPES_2_is⟩
    · obtain ⟨rfl, rfl, rfl⟩ := h
      exact ⟨_, ⟨es_SHAPES, _, ⟨⟨nd_SHAPES, d_SHAPES⟩, q_SHAPES⟩, e_SHAPES_3, rfl⟩, tup2_sq o_SHAPES_3_at o_SHAPES_3_is⟩
    · obtain ⟨rfl, rfl, rfl⟩ := h
      exact ⟨_, ⟨es_SHAPES, _, ⟨⟨nd_SHAPES, d_SHAPES⟩, q_SHAPES⟩, e_SHAPES_4, rfl⟩, tup2_sq o_SHAPES_4_at o_SHAPES_4_is⟩
    · obtain ⟨rfl, rfl, rfl⟩ := h
      exact ⟨_, ⟨es_SHAPES, _, ⟨⟨nd_SHAPES, d_SHAPES⟩, q_SHAPES⟩, e_SHAPES_5, rfl⟩, tup2_sq o_SHAPES_5_at o_SHAPES_5_is⟩
    · obtain ⟨rfl, rfl, rfl⟩ := h
      exact ⟨_, ⟨es_SHAPES, _, ⟨⟨nd_SHAPES, d_SHAPES⟩, q_SHAPES⟩, e_SHAPES_6, rfl⟩, tup2_sq o_SHAPES_6_at o_SHAPES_6_is⟩
    · obtain ⟨rfl, rfl, rfl⟩ := h
      exact ⟨_, ⟨es_SHAPES, _, ⟨⟨nd_SHAPES, d_SHAPES⟩, q_SHAPES⟩, e_SHAPES_7, rfl⟩, tup2_sq o_SHAPES_7_at o_SHAPES_7_is⟩
    · obtain ⟨rfl, rfl, rfl⟩ := h
      exact ⟨_, ⟨es_SHAPES, _, ⟨⟨nd_SHAPES, d_SHAPES⟩, q_SHAPES⟩, e_SHAPES_8, rfl⟩, tup2_sq o_SHAPES_8_at o_SHAPES_8_is⟩
    · obtain ⟨rfl, rfl, rfl⟩ := h
      exact ⟨_, ⟨es_SHAPES, _, ⟨⟨nd_SHAPES, d_SHAPES⟩, q_SHAPES⟩, e_SHAPES_9, rfl⟩, tup2_sq o_SHAPES_9_at o_SHAPES_9_is⟩
    · obtain ⟨rfl, rfl, rfl⟩ := h
      exact ⟨_, ⟨es_SHAPES, _, ⟨⟨nd_SHAPES, d_SHAPES⟩, q_SHAPES⟩, e_SHAPES_10, rfl⟩, tup2_sq o_SHAPES_10_at o_SHAPES_10_is⟩
    · obtain ⟨rfl, rfl, rfl⟩ := h
      exact ⟨_, ⟨es_SHAPES, _, ⟨⟨nd_SHAPES, d_SHAPES⟩, q_SHAPES⟩, e_SHAPES_11, rfl⟩, tup2_sq o_SHAPES_11_at o_SHAPES_11_is⟩
  let T : Txt K mg := {
    a_all_choices := f_all_choices,
    fd_all_choices := _,
    F_all_choices := F_all_choices,
    b_all_choices := b_all_choices,
    g_all_choices := PySem.W.mg_of X G a_all_choices,
    a_reached_food := f_reached_food,
    fd_reached_food := _,
    F_reached_food := F_reached_food,
    b_reached_food := b_reached_food,
    g_reached_food := PySem.W.mg_of X G a_reached_food,
    a_wanted_amount := f_wanted_amount,
    fd_wanted_amount := _,
    F_wanted_amount := F_wanted_amount,
    b_wanted_amount := b_wanted_amount,
    g_wanted_amount := PySem.W.mg_of X G a_wanted_amount,
    a_bound_of := f_bound_of,
    fd_bound_of := _,
    F_bound_of := F_bound_of,
    b_bound_of := b_bound_of,
    g_bound_of := PySem.W.mg_of X G a_bound_of,
    a_most_of := f_most_of,
    fd_most_of := _,
    F_most_of := F_most_of,
    b_most_of := b_most_of,
    g_most_of := PySem.W.mg_of X G a_most_of,
    a_bound_by_food := f_bound_by_food,
    fd_bound_by_food := _,
    F_bound_by_food := F_bound_by_food,
    b_bound_by_food := b_bound_by_food,
    g_bound_by_food := PySem.W.mg_of X G a_bound_by_food,
    a_is_there := f_is_there,
    fd_is_there := _,
    F_is_there := F_is_there,
    b_is_there := b_is_there,
    g_is_there := PySem.W.mg_of X G a_is_there,
    a_goes_up := f_goes_up,
    fd_goes_up := _,
    F_goes_up := F_goes_up,
    b_goes_up := b_goes_up,
    g_goes_up := PySem.W.mg_of X G a_goes_up,
    a_is_choice := f_is_choice,
    fd_is_choice := _,
    F_is_choice := F_is_choice,
    b_is_choice := b_is_choice,
    g_is_choice := PySem.W.mg_of X G a_is_choice,
    a_is_amount := f_is_amount,
    fd_is_amount := _,
    F_is_amount := F_is_amount,
    b_is_amount := b_is_amount,
    g_is_amount := PySem.W.mg_of X G a_is_amount,
    a_is_amount_row := f_is_amount_row,
    fd_is_amount_row := _,
    F_is_amount_row := F_is_amount_row,
    b_is_amount_row := b_is_amount_row,
    g_is_amount_row := PySem.W.mg_of X G a_is_amount_row,
    a_is_share_row := f_is_share_row,
    fd_is_share_row := _,
    F_is_share_row := F_is_share_row,
    b_is_share_row := b_is_share_row,
    g_is_share_row := PySem.W.mg_of X G a_is_share_row,
    a_is_order := f_is_order,
    fd_is_order := _,
    F_is_order := F_is_order,
    b_is_order := b_is_order,
    g_is_order := PySem.W.mg_of X G a_is_order,
    a_every_set := f_every_set,
    fd_every_set := _,
    F_every_set := F_every_set,
    b_every_set := b_every_set,
    g_every_set := PySem.W.mg_of X G a_every_set,
    a_sums_of_sets := f_sums_of_sets,
    fd_sums_of_sets := _,
    F_sums_of_sets := F_sums_of_sets,
    b_sums_of_sets := b_sums_of_sets,
    g_sums_of_sets := PySem.W.mg_of X G a_sums_of_sets,
    a_mosts_of_sets := f_mosts_of_sets,
    fd_mosts_of_sets := _,
    F_mosts_of_sets := F_mosts_of_sets,
    b_mosts_of_sets := b_mosts_of_sets,
    g_mosts_of_sets := PySem.W.mg_of X G a_mosts_of_sets,
    a_first_above := f_first_above,
    fd_first_above := _,
    F_first_above := F_first_above,
    b_first_above := b_first_above,
    g_first_above := PySem.W.mg_of X G a_first_above,
    a_Level___init__ := f_Level___init__,
    fd_Level___init__ := _,
    F_Level___init__ := F_Level___init__,
    b_Level___init__ := b_Level___init__,
    a_common_part := f_common_part,
    fd_common_part := _,
    F_common_part := F_common_part,
    b_common_part := b_common_part,
    g_common_part := PySem.W.mg_of X G a_common_part,
    a_level_of := f_level_of,
    fd_level_of := _,
    F_level_of := F_level_of,
    b_level_of := b_level_of,
    g_level_of := PySem.W.mg_of X G a_level_of,
    a_comes_ahead := f_comes_ahead,
    fd_comes_ahead := _,
    F_comes_ahead := F_comes_ahead,
    b_comes_ahead := b_comes_ahead,
    g_comes_ahead := PySem.W.mg_of X G a_comes_ahead,
    a_done_behind := f_done_behind,
    fd_done_behind := _,
    F_done_behind := F_done_behind,
    b_done_behind := b_done_behind,
    g_done_behind := PySem.W.mg_of X G a_done_behind,
    a_levels_of := f_levels_of,
    fd_levels_of := _,
    F_levels_of := F_levels_of,
    b_levels_of := b_levels_of,
    g_levels_of := PySem.W.mg_of X G a_levels_of,
    a_can_have_one_more := f_can_have_one_more,
    fd_can_have_one_more := _,
    F_can_have_one_more := F_can_have_one_more,
    b_can_have_one_more := b_can_have_one_more,
    g_can_have_one_more := PySem.W.mg_of X G a_can_have_one_more,
    a_full_rounds := f_full_rounds,
    fd_full_rounds := _,
    F_full_rounds := F_full_rounds,
    b_full_rounds := b_full_rounds,
    g_full_rounds := PySem.W.mg_of X G a_full_rounds,
    a_whole_shares := f_whole_shares,
    fd_whole_shares := _,
    F_whole_shares := F_whole_shares,
    b_whole_shares := b_whole_shares,
    g_whole_shares := PySem.W.mg_of X G a_whole_shares,
    a_lay_table := f_lay_table,
    fd_lay_table := _,
    F_lay_table := F_lay_table,
    b_lay_table := b_lay_table,
    g_lay_table := PySem.W.mg_of X G a_lay_table,
    a_put_reach := f_put_reach,
    fd_put_reach := _,
    F_put_reach := F_put_reach,
    b_put_reach := b_put_reach,
    g_put_reach := PySem.W.mg_of X G a_put_reach,
    a_put_food := f_put_food,
    fd_put_food := _,
    F_put_food := F_put_food,
    b_put_food := b_put_food,
    g_put_food := PySem.W.mg_of X G a_put_food,
    a_put_appetite := f_put_appetite,
    fd_put_appetite := _,
    F_put_appetite := F_put_appetite,
    b_put_appetite := b_put_appetite,
    g_put_appetite := PySem.W.mg_of X G a_put_appetite,
    a_tell_all := f_tell_all,
    fd_tell_all := _,
    F_tell_all := F_tell_all,
    b_tell_all := b_tell_all,
    g_tell_all := PySem.W.mg_of X G a_tell_all,
    a_tell_most := f_tell_most,
    fd_tell_most := _,
    F_tell_most := F_tell_most,
    b_tell_most := b_tell_most,
    g_tell_most := PySem.W.mg_of X G a_tell_most,
    a_tell_binding := f_tell_binding,
    fd_tell_binding := _,
    F_tell_binding := F_tell_binding,
    b_tell_binding := b_tell_binding,
    g_tell_binding := PySem.W.mg_of X G a_tell_binding,
    a_tell_can := f_tell_can,
    fd_tell_can := _,
    F_tell_can := F_tell_can,
    b_tell_can := b_tell_can,
    g_tell_can := PySem.W.mg_of X G a_tell_can,
    a_tell_fair := f_tell_fair,
    fd_tell_fair := _,
    F_tell_fair := F_tell_fair,
    b_tell_fair := b_tell_fair,
    g_tell_fair := PySem.W.mg_of X G a_tell_fair,
    a_tell_levels := f_tell_levels,
    fd_tell_levels := _,
    F_tell_levels := F_tell_levels,
    b_tell_levels := b_tell_levels,
    g_tell_levels := PySem.W.mg_of X G a_tell_levels,
    a_tell_whole := f_tell_whole,
    fd_tell_whole := _,
    F_tell_whole := F_tell_whole,
    b_tell_whole := b_tell_whole,
    g_tell_whole := PySem.W.mg_of X G a_tell_whole,
    a_rename_mouths := f_rename_mouths,
    fd_rename_mouths := _,
    F_rename_mouths := F_rename_mouths,
    b_rename_mouths := b_rename_mouths,
    g_rename_mouths := PySem.W.mg_of X G a_rename_mouths,
    a_do_call := f_do_call,
    fd_do_call := _,
    F_do_call := F_do_call,
    b_do_call := b_do_call,
    g_do_call := PySem.W.mg_of X G a_do_call,
    a_Reader___init__ := f_Reader___init__,
    fd_Reader___init__ := _,
    F_Reader___init__ := F_Reader___init__,
    b_Reader___init__ := b_Reader___init__,
    a_Reader_is_done := f_Reader_is_done,
    fd_Reader_is_done := _,
    F_Reader_is_done := F_Reader_is_done,
    b_Reader_is_done := b_Reader_is_done,
    a_Reader_take_number := f_Reader_take_number,
    fd_Reader_take_number := _,
    F_Reader_take_number := F_Reader_take_number,
    b_Reader_take_number := b_Reader_take_number,
    a_Reader_take_row := f_Reader_take_row,
    fd_Reader_take_row := _,
    F_Reader_take_row := F_Reader_take_row,
    b_Reader_take_row := b_Reader_take_row,
    a_Reader_take_given := f_Reader_take_given,
    fd_Reader_take_given := _,
    F_Reader_take_given := F_Reader_take_given,
    b_Reader_take_given := b_Reader_take_given,
    a_State___init__ := f_State___init__,
    fd_State___init__ := _,
    F_State___init__ := F_State___init__,
    b_State___init__ := b_State___init__,
    a_answers := fa,
    fd_answers := _,
    F_answers := F_answers,
    b_answers := b_answers,
    g_answers := PySem.W.mg_of X G a_answers,
    C_Level := C_Level,
    c_Level := ⟨pg_Level, hd_Level, po_Level, sa_Level⟩,
    g_Level := PySem.W.mg_of X G aC_Level,
    m_Level := ⟨mk_Level, a_Level___init__, i_Level___init__, kc_Level⟩,
    n_Level_above := n_Level_above,
    n_Level_below := n_Level_below,
    n_Level_mouths := n_Level_mouths,
    C_Reader := C_Reader,
    c_Reader := ⟨pg_Reader, hd_Reader, po_Reader, sa_Reader⟩,
    g_Reader := PySem.W.mg_of X G aC_Reader,
    m_Reader := ⟨mk_Reader, a_Reader___init__, i_Reader___init__, kc_Reader⟩,
    t_Reader_is_done := ⟨a_Reader_is_done, i_Reader_is_done, k_Reader_is_done⟩,
    t_Reader_take_number := ⟨a_Reader_take_number, i_Reader_take_number, k_Reader_take_number⟩,
    t_Reader_take_row := ⟨a_Reader_take_row, i_Reader_take_row, k_Reader_take_row⟩,
    t_Reader_take_given := ⟨a_Reader_take_given, i_Reader_take_given, k_Reader_take_given⟩,
    n_Reader_line := n_Reader_line,
    n_Reader_at := n_Reader_at,
    C_State := C_State,
    c_State := ⟨pg_State, hd_State, po_State, sa_State⟩,
    g_State := PySem.W.mg_of X G aC_State,
    m_State := ⟨mk_State, a_State___init__, i_State___init__, kc_State⟩,
    n_State_food := n_State_food,
    n_State_appetites := n_State_appetites,
    n_State_reaches := n_State_reaches,
    n_sum := PySem.W.mg_none_of X G z_sum,
    n_enumerate := PySem.W.mg_none_of X G z_enumerate,
    n_min := PySem.W.mg_none_of X G z_min,
    n_any := PySem.W.mg_none_of X G z_any,
    n_range := PySem.W.mg_none_of X G z_range,
    n_len := PySem.W.mg_none_of X G z_len,
    n_all := PySem.W.mg_none_of X G z_all,
    g_MOST_AMOUNT := ⟨_, PySem.W.mg_of X G g_MOST_AMOUNT⟩,
    g_MOST_OF_EACH := ⟨_, PySem.W.mg_of X G g_MOST_OF_EACH⟩,
    n_sorted := PySem.W.mg_none_of X G z_sorted,
    n_list := PySem.W.mg_none_of X G z_list,
    n_zip := PySem.W.mg_none_of X G z_zip,
    A_DOINGS := A_DOINGS,
    g_DOINGS := PySem.W.mg_of X G g_DOINGS,
    w_DOINGS_0 := ⟨es_DOINGS, _, ⟨⟨nd_DOINGS, d_DOINGS⟩, q_DOINGS⟩, e_DOINGS_0, rfl⟩,
    w_DOINGS_1 := ⟨es_DOINGS, _, ⟨⟨nd_DOINGS, d_DOINGS⟩, q_DOINGS⟩, e_DOINGS_1, rfl⟩,
    w_DOINGS_2 := ⟨es_DOINGS, _, ⟨⟨nd_DOINGS, d_DOINGS⟩, q_DOINGS⟩, e_DOINGS_2, rfl⟩,
    w_DOINGS_3 := ⟨es_DOINGS, _, ⟨⟨nd_DOINGS, d_DOINGS⟩, q_DOINGS⟩, e_DOINGS_3, rfl⟩,
    w_DOINGS_4 := ⟨es_DOINGS, _, ⟨⟨nd_DOINGS, d_DOINGS⟩, q_DOINGS⟩, e_DOINGS_4, rfl⟩,
    w_DOINGS_5 := ⟨es_DOINGS, _, ⟨⟨nd_DOINGS, d_DOINGS⟩, q_DOINGS⟩, e_DOINGS_5, rfl⟩,
    w_DOINGS_6 := ⟨es_DOINGS, _, ⟨⟨nd_DOINGS, d_DOINGS⟩, q_DOINGS⟩, e_DOINGS_6, rfl⟩,
    w_DOINGS_7 := ⟨es_DOINGS, _, ⟨⟨nd_DOINGS, d_DOINGS⟩, q_DOINGS⟩, e_DOINGS_7, rfl⟩,
    w_DOINGS_8 := ⟨es_DOINGS, _, ⟨⟨nd_DOINGS, d_DOINGS⟩, q_DOINGS⟩, e_DOINGS_8, rfl⟩,
    w_DOINGS_9 := ⟨es_DOINGS, _, ⟨⟨nd_DOINGS, d_DOINGS⟩, q_DOINGS⟩, e_DOINGS_9, rfl⟩,
    w_DOINGS_10 := ⟨es_DOINGS, _, ⟨⟨nd_DOINGS, d_DOINGS⟩, q_DOINGS⟩, e_DOINGS_10, rfl⟩,
    w_DOINGS_11 := ⟨es_DOINGS, _, ⟨⟨nd_DOINGS, d_DOINGS⟩, q_DOINGS⟩, e_DOINGS_11, rfl⟩,
    A_SHAPES := A_SHAPES,
    g_SHAPES := PySem.W.mg_of X G g_SHAPES,
    w_SHAPES := w_SHAPES }
  exact ⟨_, fun s us hu => match us, hu with | [_], _ => .of_eq rfl, fun base _ _ => ok_answers T⟩
end Tbl
set_option Elab.async false
open PySem PySem.W PyProof.Rows
set_option maxRecDepth 100000 in
set_option maxHeartbeats 8000000 in
theorem PySem.Challenge.cw_sharedtable_s01_answers_holds : PySem.Challenge.rw_sharedtable_s01_answers.Holds := by
  w_on; k_headS; (case hw => exact ⟨[.list [.int 4]], by decide +kernel, by decide +kernel⟩)
  k_fillS
  refine L2.walk_specK (r := PySem.Challenge.rw_sharedtable_s01_answers) (k := 7) (CX := L2.CX0) (ps := ["calls"]) (sp := Tbl.spAnswers) (by decide +kernel) rfl rfl ⟨rfl, by decide, by decide⟩ (fun w h Y => PySem.W.kIn_of Y) ?F ?S (fun _ _ _ _ z => z)
  case F =>
    intro w mg fa h Y KX G hmg
    refine' Tbl.all_mk KX G hmg ?aC_Level ?aC_Reader ?aC_State ?a_all_choices ?l_all_choices ?c_all_choices ?k_all_choices ?a_reached_food ?l_reached_food ?c_reached_food ?k_reached_food ?a_wanted_amount ?l_wanted_amount ?c_wanted_amount ?k_wanted_amount ?a_bound_of ?l_bound_of ?c_bound_of ?k_bound_of ?a_most_of ?l_most_of ?c_most_of ?k_most_of ?a_bound_by_food ?l_bound_by_food ?c_bound_by_food ?k_bound_by_food ?a_is_there ?l_is_there ?c_is_there ?k_is_there ?a_goes_up ?l_goes_up ?c_goes_up ?k_goes_up ?a_is_choice ?l_is_choice ?c_is_choice ?k_is_choice ?a_is_amount ?l_is_amount ?c_is_amount ?k_is_amount ?a_is_amount_row ?l_is_amount_row ?c_is_amount_row ?k_is_amount_row ?a_is_share_row ?l_is_share_row ?c_is_share_row ?k_is_share_row ?a_is_order ?l_is_order ?c_is_order ?k_is_order ?a_every_set ?l_every_set ?c_every_set ?k_every_set ?a_sums_of_sets ?l_sums_of_sets ?c_sums_of_sets ?k_sums_of_sets ?a_mosts_of_sets ?l_mosts_of_sets ?c_mosts_of_sets ?k_mosts_of_sets ?a_first_above ?l_first_above ?c_first_above ?k_first_above ?a_Level___init__ ?i_Level___init__ ?l_Level___init__ ?c_Level___init__ ?k_Level___init__ ?a_common_part ?l_common_part ?c_common_part ?k_common_part ?a_level_of ?l_level_of ?c_level_of ?k_level_of ?a_comes_ahead ?l_comes_ahead ?c_comes_ahead ?k_comes_ahead ?a_done_behind ?l_done_behind ?c_done_behind ?k_done_behind ?a_levels_of ?l_levels_of ?c_levels_of ?k_levels_of ?a_can_have_one_more ?l_can_have_one_more ?c_can_have_one_more ?k_can_have_one_more ?a_full_rounds ?l_full_rounds ?c_full_rounds ?k_full_rounds ?a_whole_shares ?l_whole_shares ?c_whole_shares ?k_whole_shares ?a_lay_table ?l_lay_table ?c_lay_table ?k_lay_table ?a_put_reach ?l_put_reach ?c_put_reach ?k_put_reach ?a_put_food ?l_put_food ?c_put_food ?k_put_food ?a_put_appetite ?l_put_appetite ?c_put_appetite ?k_put_appetite ?a_tell_all ?l_tell_all ?c_tell_all ?k_tell_all ?a_tell_most ?l_tell_most ?c_tell_most ?k_tell_most ?a_tell_binding ?l_tell_binding ?c_tell_binding ?k_tell_binding ?a_tell_can ?l_tell_can ?c_tell_can ?k_tell_can ?a_tell_fair ?l_tell_fair ?c_tell_fair ?k_tell_fair ?a_tell_levels ?l_tell_levels ?c_tell_levels ?k_tell_levels ?a_tell_whole ?l_tell_whole ?c_tell_whole ?k_tell_whole ?a_rename_mouths ?l_rename_mouths ?c_rename_mouths ?k_rename_mouths ?a_do_call ?l_do_call ?c_do_call ?k_do_call ?a_Reader___init__ ?i_Reader___init__ ?l_Reader___init__ ?c_Reader___init__ ?k_Reader___init__ ?a_Reader_is_done ?i_Reader_is_done ?l_Reader_is_done ?c_Reader_is_done ?k_Reader_is_done ?a_Reader_take_number ?i_Reader_take_number ?l_Reader_take_number ?c_Reader_take_number ?k_Reader_take_number ?a_Reader_take_row ?i_Reader_take_row ?l_Reader_take_row ?c_Reader_take_row ?k_Reader_take_row ?a_Reader_take_given ?i_Reader_take_given ?l_Reader_take_given ?c_Reader_take_given ?k_Reader_take_given ?a_State___init__ ?i_State___init__ ?l_State___init__ ?c_State___init__ ?k_State___init__ ?a_answers ?l_answers ?c_answers ?k_answers ?pg_Level ?hd_Level ?po_Level ?sa_Level ?mk_Level ?kc_Level ?n_Level_above ?n_Level_below ?n_Level_mouths ?pg_Reader ?hd_Reader ?po_Reader ?sa_Reader ?mk_Reader ?kc_Reader ?n_Reader_line ?n_Reader_at ?pg_State ?hd_State ?po_State ?sa_State ?mk_State ?kc_State ?n_State_food ?n_State_appetites ?n_State_reaches ?z_sum ?z_enumerate ?z_min ?z_any ?z_range ?z_len ?z_all ?g_MOST_AMOUNT ?g_MOST_OF_EACH ?z_sorted ?z_list ?z_zip ?g_DOINGS ?d_DOINGS ?q_DOINGS ?e_DOINGS_0 ?e_DOINGS_1 ?e_DOINGS_2 ?e_DOINGS_3 ?e_DOINGS_4 ?e_DOINGS_5 ?e_DOINGS_6 ?e_DOINGS_7 ?e_DOINGS_8 ?e_DOINGS_9 ?e_DOINGS_10 ?e_DOINGS_11 ?g_SHAPES ?d_SHAPES ?q_SHAPES ?e_SHAPES_0 ?o_SHAPES_0_at ?o_SHAPES_0_is ?e_SHAPES_1 ?o_SHAPES_1_at ?o_SHAPES_1_is ?e_SHAPES_2 ?o_SHAPES_2_at ?o_SHAPES_2_is ?e_SHAPES_3 ?o_SHAPES_3_at ?o_SHAPES_3_is ?e_SHAPES_4 ?o_SHAPES_4_at ?o_SHAPES_4_is ?e_SHAPES_5 ?o_SHAPES_5_at ?o_SHAPES_5_is ?e_SHAPES_6 ?o_SHAPES_6_at ?o_SHAPES_6_is ?e_SHAPES_7 ?o_SHAPES_7_at ?o_SHAPES_7_is ?e_SHAPES_8 ?o_SHAPES_8_at ?o_SHAPES_8_is ?e_SHAPES_9 ?o_SHAPES_9_at ?o_SHAPES_9_is ?e_SHAPES_10 ?o_SHAPES_10_at ?o_SHAPES_10_is ?e_SHAPES_11 ?o_SHAPES_11_at ?o_SHAPES_11_is
    (case aC_Level => k_is)
    (case aC_Reader => k_is)
    (case aC_State => k_is)
    (case a_all_choices => k_is)
    (case l_all_choices => k_is)
    (case c_all_choices => k_is)
    (case k_all_choices => k_is)
    (case a_reached_food => k_is)
    (case l_reached_food => k_is)
    (case c_reached_food => k_is)
    (case k_reached_food => k_is)
    (case a_wanted_amount => k_is)
    (case l_wanted_amount => k_is)
    (case c_wanted_amount => k_is)
    (case k_wanted_amount => k_is)
    (case a_bound_of => k_is)
    (case l_bound_of => k_is)
    (case c_bound_of => k_is)
    (case k_bound_of => k_is)
    (case a_most_of => k_is)
    (case l_most_of => k_is)
    (case c_most_of => k_is)
    (case k_most_of => k_is)
    (case a_bound_by_food => k_is)
    (case l_bound_by_food => k_is)
    (case c_bound_by_food => k_is)
    (case k_bound_by_food => k_is)
    (case a_is_there => k_is)
    (case l_is_there => k_is)
    (case c_is_there => k_is)
    (case k_is_there => k_is)
    (case a_goes_up => k_is)
    (case l_goes_up => k_is)
    (case c_goes_up => k_is)
    (case k_goes_up => k_is)
    (case a_is_choice => k_is)
    (case l_is_choice => k_is)
    (case c_is_choice => k_is)
    (case k_is_choice => k_is)
    (case a_is_amount => k_is)
    (case l_is_amount => k_is)
    (case c_is_amount => k_is)
    (case k_is_amount => k_is)
    (case a_is_amount_row => k_is)
    (case l_is_amount_row => k_is)
    (case c_is_amount_row => k_is)
    (case k_is_amount_row => k_is)
    (case a_is_share_row => k_is)
    (case l_is_share_row => k_is)
    (case c_is_share_row => k_is)
    (case k_is_share_row => k_is)
    (case a_is_order => k_is)
    (case l_is_order => k_is)
    (case c_is_order => k_is)
    (case k_is_order => k_is)
    (case a_every_set => k_is)
    (case l_every_set => k_is)
    (case c_every_set => k_is)
    (case k_every_set => k_is)
    (case a_sums_of_sets => k_is)
    (case l_sums_of_sets => k_is)
    (case c_sums_of_sets => k_is)
    (case k_sums_of_sets => k_is)
    (case a_mosts_of_sets => k_is)
    (case l_mosts_of_sets => k_is)
    (case c_mosts_of_sets => k_is)
    (case k_mosts_of_sets => k_is)
    (case a_first_above => k_is)
    (case l_first_above => k_is)
    (case c_first_above => k_is)
    (case k_first_above => k_is)
    (case a_Level___init__ => k_is)
    (case i_Level___init__ => k_is)
    (case l_Level___init__ => k_is)
    (case c_Level___init__ => k_is)
    (case k_Level___init__ => k_is)
    (case a_common_part => k_is)
    (case l_common_part => k_is)
    (case c_common_part => k_is)
    (case k_common_part => k_is)
    (case a_level_of => k_is)
    (case l_level_of => k_is)
    (case c_level_of => k_is)
    (case k_level_of => k_is)
    (case a_comes_ahead => k_is)
    (case l_comes_ahead => k_is)
    (case c_comes_ahead => k_is)
    (case k_comes_ahead => k_is)
    (case a_done_behind => k_is)
    (case l_done_behind => k_is)
    (case c_done_behind => k_is)
    (case k_done_behind => k_is)
    (case a_levels_of => k_is)
    (case l_levels_of => k_is)
    (case c_levels_of => k_is)
    (case k_levels_of => k_is)
    (case a_can_have_one_more => k_is)
    (case l_can_have_one_more => k_is)
    (case c_can_have_one_more => k_is)
    (case k_can_have_one_more => k_is)
    (case a_full_rounds => k_is)
    (case l_full_rounds => k_is)
    (case c_full_rounds => k_is)
    (case k_full_rounds => k_is)
    (case a_whole_shares => k_is)
    (case l_whole_shares => k_is)
    (case c_whole_shares => k_is)
    (case k_whole_shares => k_is)
    (case a_lay_table => k_is)
    (case l_lay_table => k_is)
    (case c_lay_table => k_is)
    (case k_lay_table => k_is)
    (case a_put_reach => k_is)
    (case l_put_reach => k_is)
    (case c_put_reach => k_is)
    (case k_put_reach => k_is)
    (case a_put_food => k_is)
    (case l_put_food => k_is)
    (case c_put_food => k_is)
    (case k_put_food => k_is)
    (case a_put_appetite => k_is)
    (case l_put_appetite => k_is)
    (case c_put_appetite => k_is)
    (case k_put_appetite => k_is)
    (case a_tell_all => k_is)
    (case l_tell_all => k_is)
    (case c_tell_all => k_is)
    (case k_tell_all => k_is)
    (case a_tell_most => k_is)
    (case l_tell_most => k_is)
    (case c_tell_most => k_is)
    (case k_tell_most => k_is)
    (case a_tell_binding => k_is)
    (case l_tell_binding => k_is)
    (case c_tell_binding => k_is)
    (case k_tell_binding => k_is)
    (case a_tell_can => k_is)
    (case l_tell_can => k_is)
    (case c_tell_can => k_is)
    (case k_tell_can => k_is)
    (case a_tell_fair => k_is)
    (case l_tell_fair => k_is)
    (case c_tell_fair => k_is)
    (case k_tell_fair => k_is)
    (case a_tell_levels => k_is)
    (case l_tell_levels => k_is)
    (case c_tell_levels => k_is)
    (case k_tell_levels => k_is)
    (case a_tell_whole => k_is)
    (case l_tell_whole => k_is)
    (case c_tell_whole => k_is)
    (case k_tell_whole => k_is)
    (case a_rename_mouths => k_is)
    (case l_rename_mouths => k_is)
    (case c_rename_mouths => k_is)
    (case k_rename_mouths => k_is)
    (case a_do_call => k_is)
    (case l_do_call => k_is)
    (case c_do_call => k_is)
    (case k_do_call => k_is)
    (case a_Reader___init__ => k_is)
    (case i_Reader___init__ => k_is)
    (case l_Reader___init__ => k_is)
    (case c_Reader___init__ => k_is)
    (case k_Reader___init__ => k_is)
    (case a_Reader_is_done => k_is)
    (case i_Reader_is_done => k_is)
    (case l_Reader_is_done => k_is)
    (case c_Reader_is_done => k_is)
    (case k_Reader_is_done => k_is)
    (case a_Reader_take_number => k_is)
    (case i_Reader_take_number => k_is)
    (case l_Reader_take_number => k_is)
    (case c_Reader_take_number => k_is)
    (case k_Reader_take_number => k_is)
    (case a_Reader_take_row => k_is)
    (case i_Reader_take_row => k_is)
    (case l_Reader_take_row => k_is)
    (case c_Reader_take_row => k_is)
    (case k_Reader_take_row => k_is)
    (case a_Reader_take_given => k_is)
    (case i_Reader_take_given => k_is)
    (case l_Reader_take_given => k_is)
    (case c_Reader_take_given => k_is)
    (case k_Reader_take_given => k_is)
    (case a_State___init__ => k_is)
    (case i_State___init__ => k_is)
    (case l_State___init__ => k_is)
    (case c_State___init__ => k_is)
    (case k_State___init__ => k_is)
    (case a_answers => k_is)
    (case l_answers => k_is)
    (case c_answers => k_is)
    (case k_answers => k_is)
    (case pg_Level => k_is)
    (case hd_Level => k_is)
    (case po_Level => k_is)
    (case sa_Level => k_is)
    (case mk_Level => k_is)
    (case kc_Level => k_is)
    (case n_Level_above => k_is)
    (case n_Level_below => k_is)
    (case n_Level_mouths => k_is)
    (case pg_Reader => k_is)
    (case hd_Reader => k_is)
    (case po_Reader => k_is)
    (case sa_Reader => k_is)
    (case mk_Reader => k_is)
    (case kc_Reader => k_is)
    (case n_Reader_line => k_is)
    (case n_Reader_at => k_is)
    (case pg_State => k_is)
    (case hd_State => k_is)
    (case po_State => k_is)
    (case sa_State => k_is)
    (case mk_State => k_is)
    (case kc_State => k_is)
    (case n_State_food => k_is)
    (case n_State_appetites => k_is)
    (case n_State_reaches => k_is)
    (case z_sum => k_is)
    (case z_enumerate => k_is)
    (case z_min => k_is)
    (case z_any => k_is)
    (case z_range => k_is)
    (case z_len => k_is)
    (case z_all => k_is)
    (case g_MOST_AMOUNT => k_is)
    (case g_MOST_OF_EACH => k_is)
    (case z_sorted => k_is)
    (case z_list => k_is)
    (case z_zip => k_is)
    (case g_DOINGS => k_is)
    (case d_DOINGS => k_is)
    (case q_DOINGS => decide +kernel)
    (case e_DOINGS_0 => rfl)
    (case e_DOINGS_1 => rfl)
    (case e_DOINGS_2 => rfl)
    (case e_DOINGS_3 => rfl)
    (case e_DOINGS_4 => rfl)
    (case e_DOINGS_5 => rfl)
    (case e_DOINGS_6 => rfl)
    (case e_DOINGS_7 => rfl)
    (case e_DOINGS_8 => rfl)
    (case e_DOINGS_9 => rfl)
    (case e_DOINGS_10 => rfl)
    (case e_DOINGS_11 => rfl)
    (case g_SHAPES => k_is)
    (case d_SHAPES => k_is)
    (case q_SHAPES => decide +kernel)
    (case e_SHAPES_0 => rfl)
    (case o_SHAPES_0_at => k_is)
    (case o_SHAPES_0_is => decide +kernel)
    (case e_SHAPES_1 => rfl)
    (case o_SHAPES_1_at => k_is)
    (case o_SHAPES_1_is => decide +kernel)
    (case e_SHAPES_2 => rfl)
    (case o_SHAPES_2_at => k_is)
    (case o_SHAPES_2_is => decide +kernel)
    (case e_SHAPES_3 => rfl)
    (case o_SHAPES_3_at => k_is)
    (case o_SHAPES_3_is => decide +kernel)
    (case e_SHAPES_4 => rfl)
    (case o_SHAPES_4_at => k_is)
    (case o_SHAPES_4_is => decide +kernel)
    (case e_SHAPES_5 => rfl)
    (case o_SHAPES_5_at => k_is)
    (case o_SHAPES_5_is => decide +kernel)
    (case e_SHAPES_6 => rfl)
    (case o_SHAPES_6_at => k_is)
    (case o_SHAPES_6_is => decide +kernel)
    (case e_SHAPES_7 => rfl)
    (case o_SHAPES_7_at => k_is)
    (case o_SHAPES_7_is => decide +kernel)
    (case e_SHAPES_8 => rfl)
    (case o_SHAPES_8_at => k_is)
    (case o_SHAPES_8_is => decide +kernel)
    (case e_SHAPES_9 => rfl)
    (case o_SHAPES_9_at => k_is)
    (case o_SHAPES_9_is => decide +kernel)
    (case e_SHAPES_10 => rfl)
    (case o_SHAPES_10_at => k_is)
    (case o_SHAPES_10_is => decide +kernel)
    (case e_SHAPES_11 => rfl)
    (case o_SHAPES_11_at => k_is)
    (case o_SHAPES_11_is => decide +kernel)
  case S =>
    intro K H xs a hO hwi hask hx
    cases hx with
    | cons h1 h2 =>
      cases h2
      cases h1 with
      | lst hs ha =>
        have e := L2.ints_dw a.1 _ ha
        subst e
        exact ⟨(_, a.1), rfl, ⟨hs, hask, fun _ _ _ _ _ _ hAt _ => Tbl.last_le hAt⟩, fun v H' ⟨p, hv, hp⟩ => by
          rw [hv]
          exact .lst (L2.SqL.of hp) (L2.dw_ints _)⟩
