/-
  The contract of the reference's function Join: it answers what package name's own answers, and leaves the world as it was.
  Conditions: each text has at most 2^47 bytes; a list lies in memory as told by 'Txt'.
-/
import Derived.Test.YtnknaecfjkiibaaGreatDoorRefList
namespace Go.Proofs.YtnknaecfjkiibaaGreatDoor
open Go.RowKit

theorem join_two (x y : List UInt8) (r : List (List UInt8)) : Lib.join (x :: y :: r) [46] = x ++ 46 :: Lib.join (y :: r) [46] := by
  rw [Lib.join_cons, Lib.join_cons]
  simp [Lib.joinTail]
theorem join_snoc : ∀ (l : List (List UInt8)) (x : List UInt8), l ≠ [] → Lib.join (l ++ [x]) [46] = Lib.join l [46] ++ 46 :: x
  | [], _, h => absurd rfl h
  | [a], x, _ => by
    rw [List.singleton_append, join_two, Lib.join_one, Lib.join_one]
  | a :: b :: r, x, _ => by
    have ih := join_snoc (b :: r) x (by simp)
    rw [List.cons_append, List.cons_append, join_two, join_two, ← List.cons_append, ih]
    simp
theorem okS_join : ∀ l : List (List UInt8), l ≠ [] → (∀ p ∈ l, Nm.okS true p = true) → Nm.okS true (Lib.join l [46]) = true
  | [], h, _ => absurd rfl h
  | [a], _, h => by rw [Lib.join_one]; exact h a (by simp)
  | a :: b :: r, _, h => by
    rw [join_two, okS_dot, h a (by simp), okS_join (b :: r) (by simp) (fun p hp => h p (List.mem_cons_of_mem _ hp))]; rfl

/-- The first k texts, joined. -/
def joinPre (xs : List ByteArray) (k : Nat) : ByteArray := ⟨(Lib.join ((xs.take k).map (·.data.toList)) [46]).toArray⟩
theorem joinPre_zero (xs : List ByteArray) : joinPre xs 0 = ⟨#[]⟩ := by unfold joinPre; rw [List.take_zero]; rfl
theorem joinPre_size (xs : List ByteArray) (k : Nat) (hk : k ≤ xs.length) (h0 : k ≠ 0) : (joinPre xs k).size + 1 = lensTo xs k := by
  have hne : xs.take k ≠ [] := fun e => by
    have := congrArg List.length e
    rw [List.length_take] at this
    simp at this
    rcases this with h | h
    · exact h0 h
    · subst h; simp at hk; exact h0 hk
  have := join_len (xs.take k) hne
  unfold joinPre
  rw [Lib.size_mk, this, List.length_take]
  unfold lensTo
  rw [List.take_take, Nat.min_eq_left (by omega : k ≤ xs.length), Nat.min_self]
theorem joinPre_first (xs : List ByteArray) (h : 0 < xs.length) : joinPre xs 0 ++ xs[0] = joinPre xs (0 + 1) := by
  rw [joinPre_zero]
  unfold joinPre
  refine cat_eq ?_
  rw [List.take_add_one, List.getElem?_eq_getElem h]
  simp [Lib.join_one]
theorem joinPre_next (xs : List ByteArray) (k : Nat) (h : k < xs.length) (h0 : k ≠ 0) : joinPre xs k ++ ⟨#[46]⟩ ++ xs[k] = joinPre xs (k + 1) := by
  have hne : (xs.take k).map (·.data.toList) ≠ [] := fun e => by
    have := congrArg List.length e
    rw [List.length_map, List.length_take] at this
    simp at this
    rcases this with h' | h'
    · exact h0 h'
    · subst h'; simp at h
  unfold joinPre
  refine cat_eq ?_
  rw [List.take_add_one, List.getElem?_eq_getElem h, List.map_append, Option.toList_some, List.map_cons, List.map_nil, join_snoc _ _ hne]
  simp [ByteArray.data_append]
theorem joinPre_long {xs : List ByteArray} {k : Nat} (hk : k ≤ xs.length) (h : ¬ (joinPre xs k).size ≤ 40) : joinOk xs = false := by
  by_cases h0 : k = 0
  · subst h0
    rw [joinPre_zero] at h
    exact absurd (by decide) h
  · obtain ⟨m, rfl⟩ : ∃ m, k = m + 1 := ⟨k - 1, by omega⟩
    have := joinPre_size xs (m + 1) hk h0
    exact joinOk_long (k := m) (by omega) (by omega)
theorem joinPre_right {xs : List ByteArray} (h : ∀ j (hj : j < xs.length), Nm.rightB xs[j] = true) : joinOk xs = Nm.rightB (joinPre xs xs.length) := by
  by_cases hne : xs = []
  · subst hne; decide +kernel
  · have hl : xs.length ≠ 0 := fun e => hne (List.length_eq_zero_iff.1 e)
    have hsz := joinPre_size xs xs.length (Nat.le_refl _) hl
    have hall : xs.all Nm.rightB = true := by
      rw [List.all_eq_true]
      intro x hx
      obtain ⟨j, hj, rfl⟩ := List.getElem_of_mem hx
      exact h j hj
    have hok : Nm.okS true (joinPre xs xs.length).data.toList = true := by
      show Nm.okS true (Lib.join ((xs.take xs.length).map (·.data.toList)) [46]) = true
      rw [List.take_length]
      refine okS_join _ (fun e => hne (List.map_eq_nil_iff.1 e)) (fun p hp => ?_)
      obtain ⟨x, hx, rfl⟩ := List.mem_map.1 hp
      obtain ⟨j, hj, rfl⟩ := List.getElem_of_mem hx
      exact (right_parts (h j hj)).2
    have he : xs.isEmpty = false := by cases xs with
      | nil => exact absurd rfl hne
      | cons _ _ => rfl
    unfold joinOk
    rw [hall, he]
    unfold Nm.rightB
    have hiff : (lensTo xs xs.length ≤ 41) ↔ ((joinPre xs xs.length).size ≤ 40) := by omega
    rw [hok]
    by_cases h41 : lensTo xs xs.length ≤ 41
    · rw [decide_eq_true h41, decide_eq_true (hiff.1 h41)]; rfl
    · rw [decide_eq_false h41, decide_eq_false (fun h' => h41 (hiff.2 h'))]; rfl
theorem joinPre_same {xs : List ByteArray} (h : joinOk xs = true) : joinS xs = joinPre xs xs.length := by
  rw [joinS_yes h]
  unfold joinPre
  rw [List.take_length]

set_option maxHeartbeats 2000000 in
set_option maxRecDepth 100000 in
theorem refJoin_any (A : Option Addr) (n c : Nat) (xs : List ByteArray) (w : World) (hx : Txt w A xs) (hN : xs.length = n) (hn : n ≤ 140737488355328) (hs : ∀ x ∈ xs, x.size ≤ 140737488355328) :
    Calls Tryz.prog 8 #[.slice A n c] w fun e w' => e = .returned (.tuple #[.string (joinS xs), .bool (joinOk xs)]) ∧ w = w' := by
  have HX := Lib.hid hx
  have HN := Lib.hid hN
  have HS := Lib.hid hs
  clear hx hN hs
  go_enter Tryz.func8, Tryz.ntmps8
  go_wp2
  go_loopw [4, 5] (fun f i wr => w = wr ∧ ∃ k : Nat, k ≤ n ∧ i = .int .i64 k ∧ Hid (∀ j (hj : j < xs.length), j < k → Nm.rightB xs[j] = true) ∧ ∃ J : ByteArray, f = .string J ∧ Hid (joinPre xs k = J) ∧ J.size ≤ 81) (fun _ i _ => n - (intOf i).toNat)
  case atStart => exact ⟨rfl, 0, Nat.zero_le _, rfl, fun j hj h => absurd h (Nat.not_lt_zero _), ⟨#[]⟩, rfl, joinPre_zero xs, by decide⟩
  case round =>
    obtain ⟨rfl, k, hk, rfl, hall, J, rfl, HJ, hJ⟩ := hrel
    by_cases hlt : k < n
    · have hx1 : k < xs.length := by rw [HN.out]; exact hlt
      obtain ⟨bk, o, rfl, hcell⟩ := HX.out.at_ hx1
      have hsz : xs[k].size ≤ 140737488355328 := HS.out _ (List.getElem_mem hx1)
      have hln : (k : Int) < (n : Int) := by omega
      cases hr : Nm.rightB xs[k]
      · have HO := Lib.hid (joinOk_wrong hx1 hr)
        have HR := Lib.hid hr
        clear hr
        generalize xs[k] = x at *
        go_wp2_with (go_at_call 10; refine (refRight_is x _ hsz _ HR.out).mono ?_; rintro e w1 ⟨rfl, rfl⟩)
        go_ret2
        exact ⟨by rw [joinS_no HO.out, HO.out]; rfl, rfl⟩
      · by_cases h40 : J.size ≤ 40
        · have hd40 : decide ((40 : Int) < (J.size : Int)) = false := decide_eq_false (by omega)
          have HA : Hid (∀ j (hj : j < xs.length), j < k + 1 → Nm.rightB xs[j] = true) := fun j hj h => by
            by_cases e : j = k
            · subst e; exact hr
            · exact hall.out j hj (by omega)
          have hx40 := (right_parts hr).1
          have HR := Lib.hid hr
          by_cases h0 : k = 0
          · subst h0
            have HE : Hid (joinPre xs (0 + 1) = J ++ xs[0]) := by rw [← HJ.out, joinPre_first xs hx1]; rfl
            clear hr
            generalize xs[0] = x at *
            rw [Nat.add_zero] at hcell
            go_wp2_with (go_at_call 10; refine (refRight_is x _ hsz _ HR.out).mono ?_; rintro e w1 ⟨rfl, rfl⟩)
            go_roundw
            case rel => exact ⟨trivial, 1, by omega, rfl, HA, _, rfl, HE.out, by rw [ByteArray.size_append]; omega⟩
            case measure => simp [intOf]; omega
          · have HE : Hid (joinPre xs (k + 1) = J ++ ⟨#[46]⟩ ++ xs[k]) := by rw [← HJ.out, joinPre_next xs k hx1 h0]; rfl
            have hpos : decide ((0 : Int) < (k : Int)) = true := decide_eq_true (by omega)
            have hpos2 : decide (0 < k) = true := decide_eq_true (by omega)
            have hdot : ByteArray.size ⟨#[46]⟩ = 1 := rfl
            clear hr
            generalize xs[k] = x at *
            go_wp2_with (go_at_call 10; refine (refRight_is x _ hsz _ HR.out).mono ?_; rintro e w1 ⟨rfl, rfl⟩)
            go_roundw
            case rel => exact ⟨trivial, k + 1, by omega, by go_num, HA, _, rfl, HE.out, by rw [ByteArray.size_append, ByteArray.size_append, hdot]; omega⟩
            case measure => simp [intOf]; omega
        · have HO := Lib.hid (joinPre_long (xs := xs) (k := k) (by omega) (by rw [HJ.out]; exact h40))
          have hd40 : decide ((40 : Int) < (J.size : Int)) = true := decide_eq_true (by omega)
          have HR := Lib.hid hr
          clear hr
          generalize xs[k] = x at *
          go_wp2_with (go_at_call 10; refine (refRight_is x _ hsz _ HR.out).mono ?_; rintro e w1 ⟨rfl, rfl⟩)
          go_ret2
          exact ⟨by rw [joinS_no HO.out, HO.out]; rfl, rfl⟩
    · obtain rfl : k = n := by omega
      have HO := Lib.hid (joinPre_right (xs := xs) (fun j hj => hall.out j hj (by rw [← HN.out]; exact hj)))
      rw [HN.out, HJ.out] at HO
      cases hr : Nm.rightB J
      · rw [hr] at HO
        have HR := Lib.hid hr
        clear hr
        go_wp2_with (go_at_call 10; refine (refRight_is J _ (by omega) _ HR.out).mono ?_; rintro e w1 ⟨rfl, rfl⟩)
        go_ret2
        exact ⟨by rw [joinS_no HO.out, HO.out]; rfl, rfl⟩
      · rw [hr] at HO
        have HR := Lib.hid hr
        have HF : Hid (joinS xs = J) := by rw [joinPre_same HO.out, HN.out]; exact HJ.out
        clear hr
        go_wp2_with (go_at_call 10; refine (refRight_is J _ (by omega) _ HR.out).mono ?_; rintro e w1 ⟨rfl, rfl⟩)
        go_ret2
        exact ⟨by rw [HF.out, HO.out]; rfl, rfl⟩
end Go.Proofs.YtnknaecfjkiibaaGreatDoor
