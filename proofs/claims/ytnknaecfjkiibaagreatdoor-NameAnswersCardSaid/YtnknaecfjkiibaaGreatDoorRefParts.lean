/-
  The contract of the reference's function Parts: it answers the same parts as package name's own.
  Conditions: the text has at most 2^47 bytes.
-/
import Derived.Test.YtnknaecfjkiibaaGreatDoorRefJoin
namespace Go.Proofs.YtnknaecfjkiibaaGreatDoor
open Go.RowKit

/-- As far as i the walk has come: ps are cut off, the piece from fr on is open; behind the end all is cut. -/
def PTo (s : ByteArray) (ps : List ByteArray) (fr i : Nat) : Prop :=
  (i ≤ s.size ∧ fr ≤ i ∧ (∀ j (h : j < s.size), fr ≤ j → j < i → s[j] ≠ 46) ∧ Nm.spl s.data.toList = ps.map (·.data.toList) ++ Nm.spl (s.data.toList.drop fr)) ∨
  (i = s.size + 1 ∧ fr = s.size + 1 ∧ Nm.spl s.data.toList = ps.map (·.data.toList))
theorem PTo.zero (s : ByteArray) : PTo s [] 0 0 := .inl ⟨Nat.zero_le _, Nat.le_refl _, fun j h h1 h2 => by omega, by simp⟩
theorem PTo.step {s : ByteArray} {ps : List ByteArray} {fr i : Nat} (h : PTo s ps fr i) (hi : i < s.size) (hc : s[i]'hi ≠ 46) : PTo s ps fr (i + 1) := by
  rcases h with ⟨h1, h2, h3, h4⟩ | ⟨h1, _⟩
  · refine .inl ⟨hi, by omega, fun j hj a b => ?_, h4⟩
    by_cases e : j = i
    · subst e; exact hc
    · exact h3 j hj a (by omega)
  · omega
theorem piece_nodot {s : ByteArray} {fr i : Nat} (h2 : fr ≤ i) (h3 : ∀ j (h : j < s.size), fr ≤ j → j < i → s[j] ≠ 46) : (46 : UInt8) ∉ (s.data.toList.drop fr).take (i - fr) := by
  intro hm
  obtain ⟨j, hj, e⟩ := List.getElem_of_mem hm
  rw [List.length_take, List.length_drop] at hj
  have hjs : fr + j < s.size := by rw [Lib.size_eq]; omega
  rw [List.getElem_take, List.getElem_drop] at e
  exact h3 (fr + j) hjs (by omega) (by omega) (by rw [← e]; rfl)
theorem drop_cut {s : ByteArray} {fr i : Nat} (h2 : fr ≤ i) (hi : i < s.size) (hc : s[i]'hi = 46) : s.data.toList.drop fr = (s.data.toList.drop fr).take (i - fr) ++ 46 :: s.data.toList.drop (i + 1) := by
  have e : (s.data.toList.drop fr).drop (i - fr) = 46 :: s.data.toList.drop (i + 1) := by
    rw [List.drop_drop, show fr + (i - fr) = i from by omega, drop_get hi, hc]
  rw [← e, List.take_append_drop]
theorem extract_piece (s : ByteArray) (fr i : Nat) : (s.extract fr i).data.toList = (s.data.toList.drop fr).take (i - fr) := Lib.extract_data s fr i
theorem PTo.dot {s : ByteArray} {ps : List ByteArray} {fr i : Nat} (h : PTo s ps fr i) (hi : i < s.size) (hc : s[i]'hi = 46) : PTo s (ps ++ [s.extract fr i]) (i + 1) (i + 1) := by
  rcases h with ⟨h1, h2, h3, h4⟩ | ⟨h1, _⟩
  · refine .inl ⟨hi, Nat.le_refl _, fun j hj a b => by omega, ?_⟩
    rw [h4, drop_cut h2 hi hc, Nm.spl_append _ _ (piece_nodot h2 h3), List.map_append, List.map_cons, List.map_nil, extract_piece]
    simp
  · omega
theorem PTo.end_ {s : ByteArray} {ps : List ByteArray} {fr : Nat} (h : PTo s ps fr s.size) : PTo s (ps ++ [s.extract fr s.size]) (s.size + 1) (s.size + 1) := by
  rcases h with ⟨h1, h2, h3, h4⟩ | ⟨h1, _⟩
  · refine .inr ⟨rfl, rfl, ?_⟩
    have e : (s.data.toList.drop fr).take (s.size - fr) = s.data.toList.drop fr := List.take_of_length_le (by rw [List.length_drop, Lib.size_eq]; exact Nat.le_refl _)
    have hp := piece_nodot h2 h3
    rw [e] at hp
    rw [h4, Nm.spl_nodot _ hp, List.map_append, List.map_cons, List.map_nil, extract_piece, e]
  · omega
theorem PTo.done {s : ByteArray} {ps : List ByteArray} {fr i : Nat} (h : PTo s ps fr i) (hi : ¬ i ≤ s.size) : Nm.parts s = ps := by
  rcases h with ⟨h1, _⟩ | ⟨_, _, h4⟩
  · exact absurd h1 hi
  · rw [parts_eq h4, List.map_map]
    have : ((fun p : List UInt8 => (⟨p.toArray⟩ : ByteArray)) ∘ fun x : ByteArray => x.data.toList) = id := by
      funext x; exact Lib.mk_data x
    rw [this, List.map_id]
theorem PTo.le {s : ByteArray} {ps : List ByteArray} {fr i : Nat} (h : PTo s ps fr i) : fr ≤ i := by
  rcases h with ⟨_, h2, _⟩ | ⟨h1, h2, _⟩
  · exact h2
  · omega

set_option maxHeartbeats 2000000 in
set_option maxRecDepth 100000 in
theorem refParts_name (s : ByteArray) (w : World) (hr : Nm.rightB s = true) :
    Calls Tryz.prog 13 #[.string s] w (SliceRet w (Nm.parts s)) := by
  obtain ⟨i0, hi, hz0, hz1, hz2⟩ := info_parts infoStr
  have hown0 : (w.alloc (.cells #[] 9)).ownsRow w.heap.size 9 1 (.slice (some ⟨w.heap.size, 0, none⟩) 0 0) 0 (([] : List ByteArray).map Value.string) := World.ownsRow_lit w #[] 0 (Nat.le_refl _) (by unfold maxLen; omega) rfl
  have h40 := (right_parts hr).1
  have HR := Lib.hid hr
  have HO := Lib.hid hown0
  clear hr hown0
  go_enter Tryz.func13, Tryz.ntmps13
  go_wp2_with (go_at_call 10; refine (refRight_is s _ (by omega) _ HR.out).mono ?_; rintro e w1 ⟨rfl, rfl⟩)
  go_loopw [3, 4, 5] (fun v f i wr => ∃ k : Nat, k ≤ s.size + 1 ∧ i = .int .i64 k ∧ ∃ fr : Nat, f = .int .i64 fr ∧ ∃ ps : List ByteArray, Hid (PTo s ps fr k) ∧ ps.length ≤ k ∧ Hid (wr.ownsRow w.heap.size 9 1 v ps.length (ps.map Value.string)) ∧ Below w.heap.size w wr ∧ v ≠ .slice none 0 0) (fun _ _ i _ => s.size + 1 - (intOf i).toNat)
  case atStart => exact ⟨0, by omega, rfl, 0, rfl, [], PTo.zero s, Nat.le_refl _, HO.out, below_lit w _, by simp⟩
  case round =>
    obtain ⟨k, hk, rfl, fr, rfl, ps, hp, hpl, hown, hb, hv⟩ := hrel
    have hfr := hp.out.le
    by_cases hle : k ≤ s.size
    · have hfr1 : (0 : Int) ≤ (fr : Int) := by omega
      have hfr2 : (fr : Int) ≤ (k : Int) := by omega
      have hleI : (k : Int) ≤ (s.size : Int) := by omega
      by_cases hend : k = s.size
      · subst hend
        have HN := Lib.hid hp.out.end_
        have hbeq : (s.size == s.size) = true := by simp
        go_wp2_with (at_builtin; refine wpList_append_own _ rfl _ _ 22 rfl w.heap.size 9 i0 (.string ByteArray.empty) 1 16 Tryz.underlying22 hi hz0 hz1 hz2 rfl (by decide) _ _ _ rfl (hown.out.alloc _) ⟨wr.heap.size, 0, none⟩ 1 1 [.string (s.extract fr s.size)] rfl rfl (cell_one_new _ _ _) ?c2 ?c3 ?c4 ?c5 ?_)
        case c2 => intro u h; rw [List.mem_singleton] at h; subst h; rfl
        case c3 => unfold maxLen; omega
        case c4 => omega
        case c5 => have := hb.size; simp; omega
        intro v' w2 hown2 hgrow2 hnil2
        have hb2 := (hb.alloc hb.size (.cells #[.string (s.extract fr s.size)] 9)).grown hgrow2 (by have := hb.size; simp; omega) (fun j hj => (hown.out.lt j hj).1)
        have hv2 : v' ≠ .slice none 0 0 := by simpa using hnil2
        have HO2 : Hid (w2.ownsRow w.heap.size 9 1 v' (ps ++ [s.extract fr s.size]).length ((ps ++ [s.extract fr s.size]).map Value.string)) := by
          rw [List.length_append, List.map_append]; exact hown2
        clear hown2 hgrow2 hnil2
        go_wp2_with fail
        go_roundw
        case rel => exact ⟨s.size + 1, by omega, by go_num, s.size + 1, by go_num, _, HN.out, by rw [List.length_append, List.length_singleton]; omega, HO2.out, hb2, hv2⟩
        case measure => simp [intOf]
      · have hlt : k < s.size := by omega
        have hltI : (k : Int) < (s.size : Int) := by omega
        have hbne : ((k : Int) == (s.size : Int)) = false := by rw [beq_eq_false_iff_ne]; omega
        have hbne2 : (k == s.size) = false := by rw [beq_eq_false_iff_ne]; omega
        by_cases hc : s[k]'hlt = 46
        · have HN := Lib.hid (hp.out.dot hlt hc)
          have HB : Hid (((((s[k]'hlt).toNat : Nat) : Int) == 46) = true) := by rw [byte_eq46, decide_eq_true hc]; rfl
          clear hc
          have hbb := HB.out
          go_wp2_with (at_builtin; refine wpList_append_own _ rfl _ _ 22 rfl w.heap.size 9 i0 (.string ByteArray.empty) 1 16 Tryz.underlying22 hi hz0 hz1 hz2 rfl (by decide) _ _ _ rfl (hown.out.alloc _) ⟨wr.heap.size, 0, none⟩ 1 1 [.string (s.extract fr k)] rfl rfl (cell_one_new _ _ _) ?c2 ?c3 ?c4 ?c5 ?_)
          case c2 => intro u h; rw [List.mem_singleton] at h; subst h; rfl
          case c3 => unfold maxLen; omega
          case c4 => omega
          case c5 => have := hb.size; simp; omega
          intro v' w2 hown2 hgrow2 hnil2
          have hb2 := (hb.alloc hb.size (.cells #[.string (s.extract fr k)] 9)).grown hgrow2 (by have := hb.size; simp; omega) (fun j hj => (hown.out.lt j hj).1)
          have hv2 : v' ≠ .slice none 0 0 := by simpa using hnil2
          have HO2 : Hid (w2.ownsRow w.heap.size 9 1 v' (ps ++ [s.extract fr k]).length ((ps ++ [s.extract fr k]).map Value.string)) := by
            rw [List.length_append, List.map_append]; exact hown2
          clear hown2 hgrow2 hnil2
          go_wp2_with fail
          go_roundw
          case rel => exact ⟨k + 1, by omega, by go_num, k + 1, by go_num, _, HN.out, by rw [List.length_append, List.length_singleton]; omega, HO2.out, hb2, hv2⟩
          case measure => simp [intOf]; omega
        · have HN := Lib.hid (hp.out.step hlt hc)
          have HB : Hid (((((s[k]'hlt).toNat : Nat) : Int) == 46) = false) := by rw [byte_eq46, decide_eq_false hc]; rfl
          clear hc
          have hbb := HB.out
          go_wp2_with fail
          go_roundw
          case rel => exact ⟨k + 1, by omega, by go_num, fr, rfl, ps, HN.out, by omega, hown.out, hb, hv⟩
          case measure => simp [intOf]; omega
    · have HF := Lib.hid (hp.out.done hle)
      go_wp2
      go_ret
      obtain ⟨A', c', rfl, h1, h2, h3, h4⟩ := txt_of_own hown.out
      rw [HF.out]
      exact ⟨A', _, c', rfl, h1, h2, h3, h4, hb⟩

set_option maxHeartbeats 400000 in
theorem refParts_is (s : ByteArray) (w : World) (hs : s.size ≤ 140737488355328) (xs : List ByteArray) (h : partsOf s = xs) :
    Calls Tryz.prog 13 #[.string s] w (SliceRet w xs) := by
  subst h
  cases hr : Nm.rightB s
  · rw [partsOf_no hr]
    have HR := Lib.hid hr
    clear hr
    go_enter Tryz.func13, Tryz.ntmps13
    go_wp2_with (go_at_call 10; refine (refRight_is s _ hs _ HR.out).mono ?_; rintro e w1 ⟨rfl, rfl⟩)
    go_ret
    exact ⟨none, 0, 0, rfl, rfl, Nat.le_refl _, fun _ => rfl, txt_nil _ _, Below.refl _ _⟩
  · rw [partsOf_yes hr]
    exact refParts_name s w hr
end Go.Proofs.YtnknaecfjkiibaaGreatDoor
