/-
  The law NameFresh, walked: whatever text and list come in, it returns true, and nothing that was there turns.
  Conditions: as in the contracts of Right ('Gl'); the list lies in memory as told by 'Txt'; it has at most 2^47 texts, each of at most 2^47 bytes.
-/
import Derived.Test.YtnknaecfjkiibaaDoorAliveWalk
namespace Go.Proofs.YtnknaecfjkiibaaDoor
open Go.RowKit

set_option maxHeartbeats 400000 in
theorem fresh_not (s : ByteArray) (A : Option Addr) (n c : Nat) (w : World) (g : Gl w) (hs : s.size ≤ 140737488355328) (hr : Nm.rightB s = false) :
    Calls Tryd.prog 15 #[.string s, .slice A n c] w (Ret w (.string ⟨#[]⟩)) := by
  have G := Lib.hid g
  have HR := Lib.hid hr
  clear g hr
  go_enter Tryd.func15, Tryd.ntmps15
  go_wp2_with (go_at_call 9; refine (right_is s _ G.out (by omega) _ HR.out).mono ?_; rintro e w1 ⟨rfl, hb⟩)
  go_ret
  exact ⟨rfl, hb⟩

/-- Whether the text is free so far. -/
def freeTo (s : ByteArray) (xs : List ByteArray) (k : Nat) : Bool := decide (s.data.toList ∉ takenL (xs.take k))
theorem freeTo_zero (s : ByteArray) (xs : List ByteArray) : freeTo s xs 0 = true := by unfold freeTo takenL; simp
theorem free_snoc (l : List (List UInt8)) (a b : List UInt8) : decide (a ∉ l ++ [b]) = (decide (a ∉ l) && !(b == a)) := by
  by_cases h1 : a ∈ l
  · simp [h1]
  · by_cases h2 : b = a
    · subst h2; simp
    · simp [h1, h2, Ne.symm h2]
theorem freeTo_succ (s : ByteArray) (xs : List ByteArray) (k : Nat) (h : k < xs.length) : freeTo s xs (k + 1) = (freeTo s xs k && !(xs[k].toList == s.toList)) := by
  unfold freeTo takenL
  rw [List.take_add_one, List.getElem?_eq_getElem h, List.map_append, ByteArray.toList_eq, ByteArray.toList_eq]
  exact free_snoc _ _ _
theorem freeTo_all (s : ByteArray) (xs : List ByteArray) : freeTo s xs xs.length = decide (s.data.toList ∉ takenL xs) := by unfold freeTo; rw [List.take_length]
theorem not_taken {F : ByteArray} {xs : List ByteArray} (h : F.data.toList ∉ takenL xs) {k : Nat} (hk : k < xs.length) : (xs[k].toList == F.toList) = false := by
  rw [ByteArray.toList_eq, ByteArray.toList_eq, beq_eq_false_iff_ne]
  intro e
  exact h (by rw [← e]; exact List.mem_map_of_mem (List.getElem_mem hk))
theorem fresh_end {s : ByteArray} {xs : List ByteArray} {j : Nat} (h1 : Nm.nameK s.data.toList j ∉ takenL xs) (h2 : ∀ i, i < j → Nm.nameK s.data.toList i ∈ takenL xs) :
    (freeTo s xs xs.length == ((nameKB s j).toList == s.toList)) = true := by
  rw [freeTo_all, ByteArray.toList_eq, ByteArray.toList_eq, nameKB_data]
  cases j with
  | zero =>
    have : s.data.toList ∉ takenL xs := h1
    rw [decide_eq_true this]
    simp [Nm.nameK]
  | succ j =>
    have h0 : s.data.toList ∈ takenL xs := h2 0 (by omega)
    have hne : ¬ Nm.nameK s.data.toList (j + 1) = s.data.toList := fun e => h1 (by rw [e]; exact h0)
    rw [decide_eq_false (by simpa using h0), beq_eq_false_iff_ne.2 hne]; rfl

set_option maxHeartbeats 1000000 in
set_option maxRecDepth 100000 in
theorem nameFresh_long (s : ByteArray) (A : Option Addr) (n c : Nat) (w : World) (g : Gl w) (h : ¬ s.size ≤ 400) :
    Calls Tryd.prog 4 #[.string s, .slice A n c] w (Ret w (.bool true)) := by
  have G := Lib.hid g
  clear g
  go_enter Tryd.func4, Tryd.ntmps4
  go_wp2_with (go_at_call 7; refine (alive_any _ G.out).mono ?_; rintro e w1 ⟨rfl, hb1⟩)
  go_ret
  exact ⟨rfl, by assumption⟩

set_option maxHeartbeats 2000000 in
set_option maxRecDepth 100000 in
theorem nameFresh_short (s : ByteArray) (A : Option Addr) (n c : Nat) (xs : List ByteArray) (w : World) (g : Gl w) (h1 : s.size ≤ 400) (hx : Txt w A xs) (hN : xs.length = n) (hn : n ≤ 140737488355328) (hs : ∀ x ∈ xs, x.size ≤ 140737488355328) :
    Calls Tryd.prog 4 #[.string s, .slice A n c] w (Ret w (.bool true)) := by
  have G0 := Lib.hid g
  have B0 := Lib.hid (Below.refl w.heap.size w)
  have HX := Lib.hid hx
  have HN := Lib.hid hN
  have HS := Lib.hid hs
  have h400 : decide ((400 : Int) < (s.size : Int)) = false := by simp; omega
  clear g hx hN hs
  go_enter Tryd.func4, Tryd.ntmps4
  go_wp2_with fail
  refine (alive_any _ G0.out).mono ?_
  rintro e w1 ⟨rfl, hb1⟩
  have G1 := Lib.hid (G0.out.below hb1)
  have B1 := Lib.hid (B0.out.trans (hb1.mono B0.out.size))
  have HX1 := Lib.hid (HX.out.below hb1)
  clear hb1
  go_wp2_with fail
  refine (lengths_any A c n xs _ HX1.out hn HN.out HS.out).mono ?_
  rintro e w2 ⟨⟨r, rfl, hres⟩, rfl⟩
  by_cases hle : r ≤ 2000
  · obtain ⟨hn2, _⟩ := hres hle
    have hn2000 : n ≤ 2000 := by rw [← HN.out]; exact hn2
    have hr2 : decide ((2000 : Int) < (r : Int)) = false := by simp; omega
    clear hres hn2
    cases hr : Nm.rightB s
    · have HR := Lib.hid hr
      clear hr
      go_wp2_with fail
      refine (fresh_not s A n c _ G1.out (by omega) HR.out).mono ?_
      rintro e w3 ⟨rfl, hb3⟩
      have G3 := Lib.hid (G1.out.below hb3)
      have B3 := Lib.hid (B1.out.trans (hb3.mono B1.out.size))
      clear hb3
      go_wp2_with fail
      refine (right_is s _ G3.out (by omega) _ HR.out).mono ?_
      rintro e w4 ⟨rfl, hb4⟩
      go_wp2_with fail
      go_ret
      exact ⟨rfl, B3.out.trans (hb4.mono B3.out.size)⟩
    · have HR := Lib.hid hr
      clear hr
      go_wp2_with fail
      refine (fresh_name s A n c xs _ G1.out HR.out HX1.out HN.out hn2000 HS.out).mono ?_
      rintro e w3 ⟨⟨j, rfl, hj, hj1, hj2⟩, hb3⟩
      have G3 := Lib.hid (G1.out.below hb3)
      have B3 := Lib.hid (B1.out.trans (hb3.mono B1.out.size))
      have HX3 := Lib.hid (HX1.out.below hb3)
      have hj10 : j < 10000 := by have := HN.out; omega
      have HE := Lib.hid (fresh_end hj1 hj2)
      have HRF := Lib.hid (nameKB_right HR.out hj10)
      have hF40 := nameKB_size HR.out hj10
      have HT := Lib.hid (fun k (hk : k < xs.length) => not_taken (F := nameKB s j) hj1 hk)
      clear hb3 hj1 hj2 hj hj10
      generalize nameKB s j = F at *
      go_wp2_with fail
      refine (right_is s _ G3.out (by omega) _ HR.out).mono ?_
      rintro e w4 ⟨rfl, hb4⟩
      have G4 := Lib.hid (G3.out.below hb4)
      have B4 := Lib.hid (B3.out.trans (hb4.mono B3.out.size))
      have HX4 := Lib.hid (HX3.out.below hb4)
      clear hb4
      go_wp2_with fail
      go_loop [6, 7] (fun f i => ∃ k : Nat, k ≤ n ∧ i = .int .i64 k ∧ f = .bool (freeTo s xs k)) (fun _ i => n - (intOf i).toNat)
      case atStart => exact ⟨0, Nat.zero_le _, rfl, by rw [freeTo_zero]⟩
      case round =>
        obtain ⟨k, hk, rfl, rfl⟩ := hrel
        by_cases hlt : k < n
        · have hx1 : k < xs.length := by rw [HN.out]; exact hlt
          obtain ⟨b, o, rfl, hcell⟩ := HX4.out.at_ hx1
          have hne := HT.out k hx1
          have HFS := Lib.hid (freeTo_succ s xs k hx1)
          have hln : (k : Int) < (n : Int) := by omega
          generalize xs[k] = x at *
          cases hfr : freeTo s xs k
          · rw [hfr, Bool.false_and] at HFS
            clear hfr
            go_wp2_with fail
            go_round
            case rel => exact ⟨k + 1, by omega, by go_num, by rw [HFS.out]⟩
            case measure => simp [intOf]; omega
          · rw [hfr, Bool.true_and] at HFS
            clear hfr
            go_wp2_with fail
            go_round
            case rel => exact ⟨k + 1, by omega, by go_num, by rw [HFS.out]⟩
            case measure => simp [intOf]; omega
        · obtain rfl : k = n := by omega
          have HE' : Hid ((freeTo s xs k == (F.toList == s.toList)) = true) := by rw [← HN.out]; exact HE.out
          generalize freeTo s xs k = fr at *
          go_wp2_with fail
          refine (right_is F _ G4.out (by omega) _ HRF.out).mono ?_
          rintro e w5 ⟨rfl, hb5⟩
          have hee := HE'.out
          go_wp2_with fail
          go_ret
          exact ⟨rfl, B4.out.trans (hb5.mono B4.out.size)⟩
  · have hr2 : decide ((2000 : Int) < (r : Int)) = true := by simp; omega
    clear hres
    go_wp2_with fail
    go_ret
    exact ⟨rfl, B1.out⟩

theorem nameFresh_any (s : ByteArray) (A : Option Addr) (n c : Nat) (xs : List ByteArray) (w : World) (g : Gl w) (hx : Txt w A xs) (hN : xs.length = n) (hn : n ≤ 140737488355328) (hs : ∀ x ∈ xs, x.size ≤ 140737488355328) :
    Calls Tryd.prog 4 #[.string s, .slice A n c] w (Ret w (.bool true)) := by
  by_cases h : s.size ≤ 400
  · exact nameFresh_short s A n c xs w g h hx hN hn hs
  · exact nameFresh_long s A n c w g h
end Go.Proofs.YtnknaecfjkiibaaDoor
