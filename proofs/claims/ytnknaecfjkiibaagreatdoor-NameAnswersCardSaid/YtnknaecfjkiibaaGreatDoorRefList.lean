/-
  The contracts of the reference's functions has and Join, and of the statements' helper CopyTexts.
  Conditions: each text has at most 2^47 bytes; a list lies in memory as told by 'Txt'.
-/
import Derived.Test.YtnknaecfjkiibaaGreatDoorRefUnder
import Derived.Test.YtnknaecfjkiibaaGreatDoorSort
import Derived.Test.YtnknaecfjkiibaaGreatDoorAliveWalk
import Derived.Test.YtnknaecfjkiibaaGreatDoorJoin
namespace Go.Proofs.YtnknaecfjkiibaaGreatDoor
open Go.RowKit

theorem has_here {s : ByteArray} {xs : List ByteArray} {k : Nat} (h : k < xs.length) (e : (xs[k].toList == s.toList) = true) : decide (s.data.toList ∈ takenL xs) = true := by
  rw [ByteArray.toList_eq, ByteArray.toList_eq, beq_iff_eq] at e
  exact decide_eq_true (by rw [← e]; exact List.mem_map_of_mem (List.getElem_mem h))
theorem has_none {s : ByteArray} {xs : List ByteArray} (h : ∀ k (hk : k < xs.length), (xs[k].toList == s.toList) = false) : decide (s.data.toList ∈ takenL xs) = false := by
  refine decide_eq_false fun hm => ?_
  obtain ⟨x, hx, e⟩ := List.mem_map.1 hm
  obtain ⟨k, hk, rfl⟩ := List.getElem_of_mem hx
  have := h k hk
  rw [ByteArray.toList_eq, ByteArray.toList_eq, e] at this
  simp at this

set_option maxHeartbeats 1000000 in
theorem refHas_is (A : Option Addr) (n c : Nat) (xs : List ByteArray) (s : ByteArray) (w : World) (hx : Txt w A xs) (hN : xs.length = n) (hn : n ≤ 140737488355328) (b : Bool) (hb : decide (s.data.toList ∈ takenL xs) = b) :
    Calls Tryz.prog 34 #[.slice A n c, .string s] w fun e w' => e = .returned (.bool b) ∧ w = w' := by
  have HX := Lib.hid hx
  have HN := Lib.hid hN
  have HB := Lib.hid hb
  clear hx hN hb
  go_enter Tryz.func34, Tryz.ntmps34
  go_wp2
  go_loop [5] (fun i => ∃ k : Nat, k ≤ n ∧ i = .int .i64 k ∧ Hid (∀ j (hj : j < xs.length), j < k → (xs[j].toList == s.toList) = false)) (fun i => n - (intOf i).toNat)
  case atStart => exact ⟨0, Nat.zero_le _, rfl, fun j hj h => absurd h (Nat.not_lt_zero _)⟩
  case round =>
    obtain ⟨k, hk, rfl, hall⟩ := hrel
    by_cases hlt : k < n
    · have hx1 : k < xs.length := by rw [HN.out]; exact hlt
      obtain ⟨bk, o, rfl, hcell⟩ := HX.out.at_ hx1
      have hln : (k : Int) < (n : Int) := by omega
      cases he : (xs[k].toList == s.toList)
      · have HA : Hid (∀ j (hj : j < xs.length), j < k + 1 → (xs[j].toList == s.toList) = false) := fun j hj h => by
          by_cases e : j = k
          · subst e; exact he
          · exact hall.out j hj (by omega)
        generalize xs[k] = x at *
        go_wp2
        go_round
        case rel => exact ⟨k + 1, by omega, by go_num, HA⟩
        case measure => simp [intOf]; omega
      · have HT := Lib.hid ((has_here hx1 he).symm.trans HB.out)
        generalize xs[k] = x at *
        go_wp2
        go_ret
        exact ⟨by rw [← HT.out]; rfl, rfl⟩
    · obtain rfl : k = n := by omega
      have HT := Lib.hid ((has_none (s := s) (xs := xs) (fun j hj => hall.out j hj (by rw [← HN.out]; exact hj))).symm.trans HB.out)
      go_wp2
      go_ret
      exact ⟨by rw [← HT.out]; rfl, rfl⟩

/-- A row of the call's own that holds texts. -/
theorem txt_of_own {w : World} {base : Nat} {v : Value} {n : Nat} {xs : List ByteArray} (h : w.ownsRow base 9 1 v n (xs.map Value.string)) :
    ∃ A c, v = .slice A n c ∧ xs.length = n ∧ n ≤ c ∧ (A = none → c = 0) ∧ Txt w A xs := by
  have hl : xs.length = n := by have := h.1; simpa using this
  rcases h.2 with ⟨rfl, rfl⟩ | ⟨g, cap, cur, rfl, hb, hg, hn, hm, hs, ht⟩
  · obtain rfl : xs = [] := List.length_eq_zero_iff.1 hl
    exact ⟨none, 0, rfl, rfl, Nat.le_refl _, fun _ => rfl, txt_nil _ _⟩
  · refine ⟨some ⟨g, 0, none⟩, cap, rfl, hl, hn, fun e => absurd e (by simp), fun _ => ⟨g, 0, rfl, (h.lt g rfl).2, fun j x hx => ?_⟩⟩
    have hj : j < n := by rw [← hl]; exact (List.getElem?_eq_some_iff.1 hx).1
    rw [Nat.zero_add, h.cellAt j (by omega), List.getElem?_map, hx]; rfl
theorem texts_oneCell (xs : List ByteArray) : ∀ u ∈ xs.map Value.string, u.oneCell' = true := by
  intro u h
  obtain ⟨x, _, rfl⟩ := List.mem_map.1 h
  rfl
theorem texts_cells {w : World} {b o : Nat} {xs : List ByteArray} (h : ∀ j x, xs[j]? = some x → w.cell? ⟨b, o + j, none⟩ = some (.string x)) : ∀ j u, (xs.map Value.string)[j]? = some u → w.cell? ((⟨b, o, none⟩ : Addr).add j) = some u := by
  intro j u hu
  rw [List.getElem?_map] at hu
  cases hj : xs[j]? with
  | none => rw [hj] at hu; simp at hu
  | some x =>
    rw [hj] at hu
    simp at hu
    subst hu
    rw [txt_add]
    exact h j x hj

set_option maxHeartbeats 1000000 in
theorem copyTexts_any (A : Option Addr) (n c : Nat) (xs : List ByteArray) (w : World) (hx : Txt w A xs) (hN : xs.length = n) (hA : A = none → c = 0) (hn : n * 16 ≤ 140737488355328) :
    Calls Tryz.prog 6 #[.slice A n c] w (SliceRet w xs) := by
  obtain ⟨i0, hi, hz0, hz1, hz2⟩ := info_parts infoStr
  have hown0 : (w.alloc (.cells #[] 9)).ownsRow w.heap.size 9 1 (.slice (some ⟨w.heap.size, 0, none⟩) 0 0) 0 [] := World.ownsRow_lit w #[] 0 (Nat.le_refl _) (by unfold maxLen; omega) rfl
  by_cases h0 : n = 0 ∧ A = none
  · obtain ⟨rfl, rfl⟩ := h0
    obtain rfl : xs = [] := List.length_eq_zero_iff.1 hN
    obtain rfl := hA rfl
    go_enter Tryz.func6, Tryz.ntmps6
    go_wp2_with (at_builtin; refine wpList_append_own_none rfl _ _ 22 rfl w.heap.size 9 i0 1 Tryz.underlying22 hi _ 0 [] rfl hown0 rfl ?_)
    go_ret
    exact ⟨some ⟨w.heap.size, 0, none⟩, 0, 0, rfl, rfl, Nat.le_refl _, fun _ => rfl, txt_nil _ _, below_lit w _⟩
  · obtain ⟨ad, rfl⟩ : ∃ ad, A = some ad := by
      cases A with
      | none =>
        rcases Nat.eq_zero_or_pos n with h | h
        · exact absurd ⟨h, rfl⟩ h0
        · obtain ⟨b, o, e, _⟩ := hx (fun e => by subst e; simp at hN; omega)
          cases e
      | some ad => exact ⟨ad, rfl⟩
    have HC : Hid (∀ j u, (xs.map Value.string)[j]? = some u → (w.alloc (.cells #[] 9)).cell? (ad.add j) = some u) := by
      intro j u hu
      have hne : xs ≠ [] := fun e => by subst e; simp at hu
      obtain ⟨b, o, e, hlt, hc⟩ := (hx.below (below_lit w (.cells #[] 9))) hne
      cases e
      exact texts_cells hc j u hu
    have HN := Lib.hid hN
    clear hx hN hA h0
    go_enter Tryz.func6, Tryz.ntmps6
    go_wp2_with (at_builtin; refine wpList_append_own _ rfl _ _ 22 rfl w.heap.size 9 i0 (.string ByteArray.empty) 1 16 Tryz.underlying22 hi hz0 hz1 hz2 rfl (by decide) _ 0 [] rfl hown0 ad n c (xs.map Value.string) rfl ?c1 HC.out (texts_oneCell xs) ?c4 ?c5 ?c6 ?_)
    case c1 => rw [List.length_map, HN.out, Nat.mul_one]
    case c4 => unfold maxLen; omega
    case c5 => omega
    case c6 => simp
    intro v' w1 hown hgrow _
    have hbel := (below_lit w (.cells #[] 9)).grown hgrow (by simp) (fun k hk => by cases hk; exact Nat.le_refl _)
    have HOW := Lib.hid hown
    clear hown hgrow
    go_wp2_with fail
    go_ret
    have hown1 := HOW.out
    try rw [Nat.zero_add] at hown1
    try rw [List.nil_append] at hown1
    obtain ⟨A', c', rfl, h1, h2, h3, h4⟩ := txt_of_own hown1
    exact ⟨A', n, c', rfl, h1, h2, h3, h4, hbel⟩
end Go.Proofs.YtnknaecfjkiibaaGreatDoor
