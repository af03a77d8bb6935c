/-
  The contract of package name's function Join: the texts joined by dots and true, if there is one, each is a name, and all together have at most 40 bytes; else an empty text and false.
  Conditions: as in the contracts of Right ('Gl'); the list lies in memory as told by 'Txt'.
-/
import Derived.Test.YtnknaecfjkiibaaGreatDoorCalls2
namespace Go.Proofs.YtnknaecfjkiibaaGreatDoor
open Go.RowKit

theorem join_len (xs : List ByteArray) (h : xs ≠ []) : (Lib.join (xs.map (·.data.toList)) [46]).length + 1 = lensTo xs xs.length := by
  match xs, h with
  | x :: r, _ =>
    rw [List.map_cons, Lib.join_cons, List.length_append, Lib.joinTail_length]
    unfold lensTo
    rw [List.take_length, List.map_cons, List.sum_cons, ← Lib.size_eq]
    have : Lib.lens (r.map (·.data.toList)) + r.length = (r.map fun x => x.size + 1).sum := by
      induction r with
      | nil => rfl
      | cons y r ih =>
        have ih := ih (by simp)
        unfold Lib.lens at ih ⊢
        rw [List.map_cons, List.map_cons, List.sum_cons, List.map_cons, List.sum_cons, List.length_cons, ← ih, ← Lib.size_eq]
        omega
    rw [List.length_map]
    simp only [List.length_cons, List.length_nil]
    omega

/-- Do the texts make a name? The name, or an empty text. -/
def joinOk (xs : List ByteArray) : Bool := !xs.isEmpty && xs.all Nm.rightB && decide (lensTo xs xs.length ≤ 41)
def joinS (xs : List ByteArray) : ByteArray := if joinOk xs then ⟨(Lib.join (xs.map (·.data.toList)) [46]).toArray⟩ else ⟨#[]⟩
theorem lensTo_mono (xs : List ByteArray) {k m : Nat} (h : k ≤ m) (hm : m ≤ xs.length) : lensTo xs k ≤ lensTo xs m := by
  induction m with
  | zero => obtain rfl : k = 0 := by omega
            exact Nat.le_refl _
  | succ m ih =>
    by_cases e : k = m + 1
    · subst e; exact Nat.le_refl _
    · have := ih (by omega) (by omega)
      rw [lensTo_succ xs m (by omega)]
      omega
theorem joinOk_wrong {xs : List ByteArray} {k : Nat} (hk : k < xs.length) (h : Nm.rightB xs[k] = false) : joinOk xs = false := by
  have : xs.all Nm.rightB = false := by
    rw [List.all_eq_false]
    exact ⟨_, List.getElem_mem hk, by rw [h]; simp⟩
  unfold joinOk
  rw [this]; simp
theorem joinOk_long {xs : List ByteArray} {k : Nat} (hk : k < xs.length) (h : ¬ lensTo xs (k + 1) ≤ 41) : joinOk xs = false := by
  have := lensTo_mono xs (k := k + 1) (m := xs.length) hk (Nat.le_refl _)
  unfold joinOk
  rw [decide_eq_false (by omega)]; simp
theorem joinS_no {xs : List ByteArray} (h : joinOk xs = false) : joinS xs = ⟨#[]⟩ := by unfold joinS; rw [h]; simp
theorem joinS_yes {xs : List ByteArray} (h : joinOk xs = true) : joinS xs = ⟨(Lib.join (xs.map (·.data.toList)) [46]).toArray⟩ := by unfold joinS; rw [h]; simp
/-- So far as k all texts are names, and they aren't too long. -/
def RightTo (xs : List ByteArray) (k : Nat) : Prop := (∀ j (h : j < xs.length), j < k → Nm.rightB xs[j] = true) ∧ (k = 0 ∨ lensTo xs k ≤ 41)
theorem RightTo.zero (xs : List ByteArray) : RightTo xs 0 := ⟨fun _ _ h => absurd h (Nat.not_lt_zero _), .inl rfl⟩
theorem RightTo.succ {xs : List ByteArray} {k : Nat} (h : RightTo xs k) (hk : k < xs.length) (e : Nm.rightB xs[k] = true) (hl : lensTo xs (k + 1) ≤ 41) : RightTo xs (k + 1) := ⟨fun j hj hlt => by
  by_cases e' : j = k
  · subst e'; exact e
  · exact h.1 j hj (by omega), .inr hl⟩
theorem joinOk_all {xs : List ByteArray} (h : RightTo xs xs.length) (hne : xs ≠ []) : joinOk xs = true := by
  have h1 : xs.all Nm.rightB = true := by
    rw [List.all_eq_true]
    intro x hx
    obtain ⟨j, hj, rfl⟩ := List.getElem_of_mem hx
    exact h.1 j hj hj
  have h2 : xs.isEmpty = false := by cases xs with
    | nil => exact absurd rfl hne
    | cons _ _ => rfl
  unfold joinOk
  rw [h1, h2]
  rcases h.2 with h0 | h0
  · exact absurd (List.length_eq_zero_iff.1 h0) hne
  · rw [decide_eq_true h0]; rfl

theorem join_some (bk o c n : Nat) (xs : List ByteArray) (w : World) (hx : Txt w (some ⟨bk, o, none⟩) xs) (hn : xs.length = n) (hc : n ≤ c) (hne : xs ≠ []) (hl : lensTo xs xs.length ≤ 41) (r : ByteArray) (hr : ⟨(Lib.join (xs.map (·.data.toList)) [46]).toArray⟩ = r) :
    Calls Tryz.prog 24 #[.slice (some ⟨bk, o, none⟩) n c, .string ⟨#[46]⟩] w fun e w' => e = .returned (.string r) ∧ Below w.heap.size w w' := by
  subst hn; subst hr
  obtain ⟨b, o', e, hb, hcell⟩ := hx hne
  obtain ⟨rfl, rfl⟩ : bk = b ∧ o = o' := by
    have := Option.some.inj e
    injection this with e1 e2 _
    exact ⟨e1, e2⟩
  have hlen := join_len xs hne
  have hle := lensTo_le xs xs.length (Nat.le_refl _)
  exact Tryz.strings_Join bk o c xs ⟨#[46]⟩ w hcell hb (by omega) hc (by show (Lib.join _ [46]).length ≤ _; omega)

theorem join_none (A : Option Addr) (c : Nat) (w : World) :
    Calls Tryz.prog 24 #[.slice A 0 c, .string ⟨#[46]⟩] w fun e w' => e = .returned (.string ⟨#[]⟩) ∧ w = w' :=
  (Any.strings_Join_none Tryz.lays156 Tryz.Builder_Extra_156 A c ⟨#[46]⟩ w).mono fun _ _ ⟨he, hw⟩ => ⟨he, hw.symm⟩

set_option maxHeartbeats 1000000 in
theorem join_any (A : Option Addr) (n c : Nat) (xs : List ByteArray) (w : World) (g : Gl w) (hx : Txt w A xs) (hN : xs.length = n) (hn : n ≤ 140737488355328) (hc : n ≤ c) (hs : ∀ x ∈ xs, x.size ≤ 140737488355328) :
    Calls Tryz.prog 7 #[.slice A n c] w (Ret w (.tuple #[.string (joinS xs), .bool (joinOk xs)])) := by
  have G := Lib.hid g
  have HX := Lib.hid hx
  have HN := Lib.hid hN
  have HS := Lib.hid hs
  clear g hx hN hs
  go_enter Tryz.func7, Tryz.ntmps7
  go_wp2
  go_loopw [4, 6, 9] (fun t _ i wr => ∃ k : Nat, k ≤ n ∧ i = .int .i64 k ∧ RightTo xs k ∧ Below w.heap.size w wr ∧ ∃ T : Nat, t = .int .i64 ((T : Int) - 1) ∧ Hid (T = lensTo xs k) ∧ T ≤ 41) (fun _ _ i _ => n - (intOf i).toNat)
  case atStart => exact ⟨0, Nat.zero_le _, rfl, RightTo.zero _, Below.refl _ _, 0, rfl, rfl, by omega⟩
  case round =>
    obtain ⟨k, hk, rfl, ho, hb, T, rfl, HT, hT⟩ := hrel
    have HK := Lib.hid ho
    clear ho
    by_cases hlt : k < n
    · have hx1 : k < xs.length := by rw [HN.out]; exact hlt
      obtain ⟨b, o, rfl, hcell⟩ := (HX.out.below hb).at_ hx1
      have hsz : xs[k].size ≤ 140737488355328 := HS.out _ (List.getElem_mem hx1)
      have HL := Lib.hid (lensTo_succ xs k hx1)
      have hln : (k : Int) < (n : Int) := by omega
      have G1 := Lib.hid (G.out.below hb)
      cases hr : Nm.rightB xs[k]
      · have HJ := Lib.hid (joinOk_wrong hx1 hr)
        have HR := Lib.hid hr
        clear hr
        generalize xs[k] = x at *
        go_wp2_with (go_at_call 9; refine (right_is x _ G1.out hsz _ HR.out).mono ?_; rintro e w1 ⟨rfl, hb1⟩)
        go_ret2
        exact ⟨by rw [joinS_no HJ.out, HJ.out]; rfl, hb.trans (hb1.mono hb.size)⟩
      · have HR := Lib.hid hr
        by_cases hle : T + (1 + xs[k].size) ≤ 41
        · have HE := Lib.hid (HK.out.succ hx1 hr (by rw [HL.out, ← HT.out]; exact hle))
          rw [← HT.out] at HL
          clear hr
          generalize xs[k] = x at *
          go_wp2_with (go_at_call 9; refine (right_is x _ G1.out hsz _ HR.out).mono ?_; rintro e w1 ⟨rfl, hb1⟩)
          go_roundw
          case rel => exact ⟨k + 1, by omega, by go_num, HE.out, hb.trans (hb1.mono hb.size), T + (1 + x.size), by go_num, HL.out.symm, hle⟩
          case measure => simp [intOf]; omega
        · have HJ := Lib.hid (joinOk_long hx1 (by rw [HL.out, ← HT.out]; exact hle))
          clear hr
          generalize xs[k] = x at *
          go_wp2_with (go_at_call 9; refine (right_is x _ G1.out hsz _ HR.out).mono ?_; rintro e w1 ⟨rfl, hb1⟩)
          go_ret2
          exact ⟨by rw [joinS_no HJ.out, HJ.out]; rfl, hb.trans (hb1.mono hb.size)⟩
    · obtain rfl : k = n := by omega
      by_cases h0 : k = 0
      · subst h0
        obtain rfl : xs = [] := List.length_eq_zero_iff.1 HN.out
        go_wp2_with (go_at_call 24; refine (join_none A c _).mono ?_; rintro e w1 ⟨rfl, rfl⟩)
        go_ret2
        exact ⟨rfl, hb⟩
      · have hne : xs ≠ [] := fun e => h0 (by rw [← HN.out, e]; rfl)
        have hKn : RightTo xs xs.length := by rw [HN.out]; exact HK.out
        have HJ := Lib.hid (joinOk_all hKn hne)
        have hl41 : lensTo xs xs.length ≤ 41 := by rw [HN.out, ← HT.out]; exact hT
        obtain ⟨r, hr⟩ : ∃ r : ByteArray, ⟨(Lib.join (xs.map (·.data.toList)) [46]).toArray⟩ = r := ⟨_, rfl⟩
        have HR := Lib.hid hr
        have HF := Lib.hid ((joinS_yes HJ.out).trans hr)
        obtain ⟨b, o, rfl, hbw, _⟩ := HX.out hne
        have HX1 := Lib.hid (HX.out.below hb)
        have hpos : decide (0 < k) = true := by simp; omega
        have Hne := Lib.hid hne
        have HL41 := Lib.hid hl41
        clear hr hKn hne hl41
        go_wp2_with (go_at_call 24; refine (join_some b o c k xs _ HX1.out HN.out hc Hne.out HL41.out r HR.out).mono ?_; rintro e w1 ⟨rfl, hb1⟩)
        go_ret2
        exact ⟨by rw [HF.out, HJ.out]; rfl, hb.trans (hb1.mono hb.size)⟩
end Go.Proofs.YtnknaecfjkiibaaGreatDoor
