/-
  Plain facts about a name's numbered fellows: a beginning of it, an underscore and a number: two numbers make two names, so of one more than are taken one is free; what is made of a name is a name.
  Conditions: the numbers are below 10000.
-/
import Derived.Test.YtnknaecfjkiibaaGreatDoorName
namespace Go.Proofs.YtnknaecfjkiibaaGreatDoor
namespace Nm

theorem ofNat_small {n : Nat} (h : n < 256) : (UInt8.ofNat n).toNat = n := by
  simp [UInt8.toNat_ofNat']; omega
theorem digits_dg (u : Nat) : ∀ c ∈ Lib.decDigits u, dg c = true := by
  induction u using Nat.strongRecOn with
  | _ u ih =>
    intro c hc
    rw [Lib.decDigits] at hc
    split at hc
    · rename_i h
      rw [List.mem_singleton] at hc
      subst hc
      unfold dg
      rw [ofNat_small (by omega)]
      simp; omega
    · rename_i h
      rw [List.mem_append] at hc
      rcases hc with hc | hc
      · exact ih (u / 10) (by omega) c hc
      · rw [List.mem_singleton] at hc
        subst hc
        unfold dg
        rw [ofNat_small (by omega)]
        simp; omega
/-- The number that digits tell. -/
def val (l : List UInt8) : Nat := l.foldl (fun a c => a * 10 + (c.toNat - 48)) 0
theorem val_digits (u : Nat) : val (Lib.decDigits u) = u := by
  induction u using Nat.strongRecOn with
  | _ u ih =>
    rw [Lib.decDigits]
    split
    · rename_i h
      unfold val
      rw [List.foldl_cons, List.foldl_nil, ofNat_small (by omega)]
      omega
    · rename_i h
      have := ih (u / 10) (by omega)
      unfold val at this ⊢
      rw [List.foldl_append, this, List.foldl_cons, List.foldl_nil, ofNat_small (by omega)]
      omega
theorem digits_inj {a b : Nat} (h : Lib.decDigits a = Lib.decDigits b) : a = b := by
  rw [← val_digits a, ← val_digits b, h]
theorem digits_small {u : Nat} (h : u < 10) : (Lib.decDigits u).length = 1 := by rw [Lib.decDigits, dif_pos h]; rfl
theorem digits_more {u : Nat} (h : ¬ u < 10) : (Lib.decDigits u).length = (Lib.decDigits (u / 10)).length + 1 := by
  rw [Lib.decDigits, dif_neg h, List.length_append]; rfl
theorem digits_le {u : Nat} (h : u < 10000) : (Lib.decDigits u).length ≤ 4 := by
  by_cases h1 : u < 10
  · rw [digits_small h1]; omega
  · rw [digits_more h1]
    by_cases h2 : u / 10 < 10
    · rw [digits_small h2]; omega
    · rw [digits_more h2]
      by_cases h3 : u / 10 / 10 < 10
      · rw [digits_small h3]; omega
      · rw [digits_more h3, digits_small (by omega)]; omega

/-- An underscore and a number; a name's numbered fellow. -/
def numE (n : Nat) : List UInt8 := 95 :: Lib.decDigits n
def front (s : List UInt8) (room : Nat) : List UInt8 := if room < s.length then Lib.trimRightB (s.take room) 46 else s
def numL (s : List UInt8) (n : Nat) : List UInt8 := front s (40 - (numE n).length) ++ numE n
def nameK (s : List UInt8) : Nat → List UInt8
  | 0 => s
  | n + 1 => numL s (n + 1)

theorem tail_eq {p q d e : List UInt8} (hd : (95 : UInt8) ∉ d) (he : (95 : UInt8) ∉ e) (h : p ++ 95 :: d = q ++ 95 :: e) : d = e := by
  rcases List.append_eq_append_iff.1 h with ⟨a, _, h2⟩ | ⟨a, _, h2⟩
  · cases a with
    | nil => simpa using h2
    | cons c a =>
      simp only [List.cons_append, List.cons.injEq] at h2
      exact absurd (h2.2 ▸ (by simp : (95 : UInt8) ∈ a ++ 95 :: e)) hd
  · cases a with
    | nil => simpa using h2.symm
    | cons c a =>
      simp only [List.cons_append, List.cons.injEq] at h2
      exact absurd (h2.2 ▸ (by simp : (95 : UInt8) ∈ a ++ 95 :: d)) he
theorem digits_no (u : Nat) : (95 : UInt8) ∉ Lib.decDigits u := fun h => absurd (digits_dg u 95 h) (by decide)
theorem numL_inj {s : List UInt8} {a b : Nat} (h : numL s a = numL s b) : a = b :=
  digits_inj (tail_eq (digits_no a) (digits_no b) h)

theorem nodup_len {α : Type} [DecidableEq α] : ∀ (l m : List α), l.Nodup → (∀ x ∈ l, x ∈ m) → l.length ≤ m.length
  | [], _, _, _ => Nat.zero_le _
  | x :: l, m, hn, hs => by
    rw [List.nodup_cons] at hn
    have hx := hs x (by simp)
    have ih := nodup_len l (m.erase x) hn.2 (fun y hy => (List.mem_erase_of_ne (fun e => hn.1 (by rw [← e]; exact hy))).2 (hs y (List.mem_cons_of_mem _ hy)))
    rw [List.length_erase_of_mem hx] at ih
    have := List.length_pos_of_mem hx
    rw [List.length_cons]
    omega
/-- Of one number more than are taken, one is free. -/
theorem free_num (s : List UInt8) (taken : List (List UInt8)) : ∃ K, 1 ≤ K ∧ K ≤ taken.length + 1 ∧ nameK s K ∉ taken := by
  refine Classical.byContradiction fun hno => ?_
  have hall : ∀ x ∈ (List.range (taken.length + 1)).map (fun k => numL s (k + 1)), x ∈ taken := by
    intro x hx
    obtain ⟨k, hk, rfl⟩ := List.mem_map.1 hx
    rw [List.mem_range] at hk
    refine Classical.byContradiction fun h => hno ⟨k + 1, by omega, by omega, h⟩
  have hn : ((List.range (taken.length + 1)).map (fun k => numL s (k + 1))).Nodup := by
    unfold List.Nodup
    rw [List.pairwise_map]
    exact (List.nodup_range (n := taken.length + 1)).imp fun hne e => hne (by have := numL_inj e; omega)
  have := nodup_len _ _ hn hall
  rw [List.length_map, List.length_range] at this
  omega

/-- Names: what stands behind a name's beginning. -/
theorem okS_pl : ∀ t : List UInt8, t.all pl = true → okS false t = true
  | [], _ => rfl
  | c :: t, h => by
    rw [List.all_cons, Bool.and_eq_true] at h
    rw [okS, if_neg (pl_ne_dot h.1), h.1, okS_pl t h.2]; simp
theorem okS_append : ∀ (p t : List UInt8) (b : Bool), okS b p = true → t.all pl = true → okS b (p ++ t) = true
  | [], t, b, h, ht => by
    cases b
    · exact okS_pl t ht
    · exact absurd h (by simp [okS])
  | c :: p, t, b, h, ht => by
    rw [List.cons_append, okS]
    rw [okS] at h
    by_cases hc : c = 46
    · rw [if_pos hc] at h ⊢
      rw [Bool.and_eq_true] at h
      rw [h.1, okS_append p t true h.2 ht]; rfl
    · rw [if_neg hc] at h ⊢
      rw [Bool.and_eq_true] at h
      rw [h.1, okS_append p t false h.2 ht]; rfl
theorem okS_take : ∀ (p r : List UInt8) (b : Bool), okS b (p ++ r) = true → p.getLast? ≠ some 46 → (p ≠ [] ∨ b = false) → okS b p = true
  | [], r, b, _, _, h => by
    rcases h with h | h
    · exact absurd rfl h
    · subst h; rfl
  | c :: p, r, b, h, hl, _ => by
    rw [List.cons_append, okS] at h
    rw [okS]
    have hl' : p ≠ [] → p.getLast? ≠ some 46 := fun hp => by
      cases p with
      | nil => exact absurd rfl hp
      | cons d p => rwa [List.getLast?_cons_cons] at hl
    have hl2 : p.getLast? ≠ some 46 := by
      by_cases hp : p = []
      · subst hp; simp
      · exact hl' hp
    by_cases hc : c = 46
    · rw [if_pos hc] at h ⊢
      rw [Bool.and_eq_true] at h
      have hp : p ≠ [] := fun e => by subst e; subst hc; exact hl rfl
      rw [h.1, okS_take p r true h.2 hl2 (.inl hp)]; rfl
    · rw [if_neg hc] at h ⊢
      rw [Bool.and_eq_true] at h
      rw [h.1, okS_take p r false h.2 hl2 (.inr rfl)]; rfl
theorem okS_head {c : UInt8} {r : List UInt8} (h : okS true (c :: r) = true) : c ≠ 46 := by
  rintro rfl
  rw [okS, if_pos rfl] at h
  exact absurd h (by simp)

theorem trim_spec (l : List UInt8) : ∃ r, l = Lib.trimRightB l 46 ++ r ∧ (Lib.trimRightB l 46).getLast? ≠ some 46 ∧ ∀ c ∈ r, c = 46 := by
  unfold Lib.trimRightB
  refine ⟨(l.reverse.takeWhile (· == 46)).reverse, ?_, ?_, ?_⟩
  · rw [← List.reverse_append, List.takeWhile_append_dropWhile, List.reverse_reverse]
  · rw [List.getLast?_reverse]
    intro h
    have := List.head?_dropWhile_not (p := fun x : UInt8 => x == 46) (l := l.reverse)
    rw [h] at this
    simp at this
  · intro c hc
    rw [List.mem_reverse] at hc
    have := List.all_takeWhile (p := fun x : UInt8 => x == 46) (l := l.reverse)
    rw [List.all_eq_true] at this
    simpa using this c hc
theorem front_ok {s : List UInt8} {room : Nat} (h : okS true s = true) (hr : 1 ≤ room) : okS true (front s room) = true := by
  unfold front
  split
  · rename_i hlt
    obtain ⟨r, h1, h2, h3⟩ := trim_spec (s.take room)
    have h4 : okS true (Lib.trimRightB (s.take room) 46 ++ (r ++ s.drop room)) = true := by
      rw [← List.append_assoc, ← h1, List.take_append_drop]; exact h
    refine okS_take _ _ true h4 h2 (.inl fun e => ?_)
    rw [e, List.nil_append] at h1
    match s, h, hlt, h1 with
    | [], _, hlt, _ => exact absurd hlt (by simp)
    | c :: s', h, _, h1 =>
      obtain ⟨room, rfl⟩ : ∃ m, room = m + 1 := ⟨room - 1, by omega⟩
      rw [List.take_succ_cons] at h1
      exact okS_head h (h3 c (by rw [← h1]; simp))
  · exact h
theorem front_len (s : List UInt8) (room : Nat) : (front s room).length ≤ room := by
  unfold front
  split
  · obtain ⟨r, h1, _⟩ := trim_spec (s.take room)
    have := congrArg List.length h1
    rw [List.length_append, List.length_take] at this
    omega
  · omega
theorem numE_le {n : Nat} (h : n < 10000) : (numE n).length ≤ 5 := by
  unfold numE; rw [List.length_cons]; have := digits_le h; omega
theorem numE_pl (n : Nat) : (numE n).all pl = true := by
  unfold numE
  rw [List.all_cons, List.all_eq_true.2 fun c hc => pl_of_dg (digits_dg n c hc)]; rfl
theorem numL_ok {s : List UInt8} {n : Nat} (h : okS true s = true) (hn : n < 10000) : okS true (numL s n) = true ∧ (numL s n).length ≤ 40 := by
  have := numE_le hn
  refine ⟨okS_append _ _ _ (front_ok h (by omega)) (numE_pl n), ?_⟩
  unfold numL
  have := front_len s (40 - (numE n).length)
  rw [List.length_append]; omega
end Nm
end Go.Proofs.YtnknaecfjkiibaaGreatDoor
