/-
  The contract of the reference's function Fresh: of a name, the name itself or the first one of its numbered fellows that isn't among the taken; an empty text of no name.
  Conditions: the text has at most 2^47 bytes; at most 2000 taken texts, which lie in memory as told by 'Txt'.
-/
import Derived.Test.YtnknaecfjkiibaaGreatDoorRefDec
namespace Go.Proofs.YtnknaecfjkiibaaGreatDoor
open Go.RowKit

/-- A text without the points at its end. -/
def trimB (s : ByteArray) : ByteArray := ⟨(Lib.trimRightB s.data.toList 46).toArray⟩
theorem trimB_nil {s : ByteArray} (h : ¬ 0 < s.size) : trimB s = s := by
  have e : s.data.toList = [] := List.eq_nil_of_length_eq_zero (by rw [← Lib.size_eq]; omega)
  apply bytes_inj
  rw [ByteArray.toList_eq, ByteArray.toList_eq, e]
  show Lib.trimRightB s.data.toList 46 = []
  rw [e]; rfl
theorem init_get {s : ByteArray} (h : 0 < s.size) : s.data.toList = (s.extract 0 (s.size - 1)).data.toList ++ [s[s.size - 1]'(by omega)] := by
  rw [Lib.extract_from_zero]
  have := drop_get (s := s) (k := s.size - 1) (by omega)
  rw [← show s.data.toList.drop (s.size - 1) = [s[s.size - 1]'(by omega)] from ?_, List.take_append_drop]
  rw [this, List.drop_of_length_le (i := s.size - 1 + 1) (by rw [← Lib.size_eq]; omega)]
theorem trimB_dot {s : ByteArray} (h : 0 < s.size) (hc : s[s.size - 1]'(by omega) = 46) : trimB (s.extract 0 (s.size - 1)) = trimB s := by
  unfold trimB
  rw [init_get h, hc]
  unfold Lib.trimRightB
  rw [List.reverse_append, List.reverse_singleton, List.singleton_append, List.dropWhile_cons]
  simp
theorem trimB_stop {s : ByteArray} (h : 0 < s.size) (hc : ¬ s[s.size - 1]'(by omega) = 46) : trimB s = s := by
  unfold trimB
  have e : Lib.trimRightB s.data.toList 46 = s.data.toList := by
    rw [init_get h]
    unfold Lib.trimRightB
    rw [List.reverse_append, List.reverse_singleton, List.singleton_append, List.dropWhile_cons]
    simp [hc]
  rw [e, Lib.mk_data]

def sizeV : Value → Nat
  | .string s => s.size
  | _ => 0

set_option maxHeartbeats 2000000 in
set_option maxRecDepth 100000 in
theorem refFresh_name (s : ByteArray) (A : Option Addr) (n c : Nat) (xs : List ByteArray) (w : World) (hr : Nm.rightB s = true) (hx : Txt w A xs) (hN : xs.length = n) (hn : n ≤ 2000) :
    Calls Tryz.prog 21 #[.string s, .slice A n c] w (FreshRes w s xs) := by
  have h40 : s.size ≤ 40 := by unfold Nm.rightB at hr; simp at hr; exact hr.1
  obtain ⟨K, hK1, hK2, hK3⟩ := Nm.free_num s.data.toList (takenL xs)
  have hKn : K ≤ n + 1 := by unfold takenL at hK2; rw [List.length_map, hN] at hK2; exact hK2
  have HKf := Lib.hid hK3
  have HR := Lib.hid hr
  have HX := Lib.hid hx
  have HN := Lib.hid hN
  clear hr hx hN hK2 hK3
  by_cases h0 : s.data.toList ∈ takenL xs
  · have HT0 := Lib.hid (decide_eq_true h0)
    have H0 := Lib.hid h0
    clear h0
    go_enter Tryz.func21, Tryz.ntmps21
    go_wp2_with (first | (go_at_call 10; refine (refRight_is s _ (by omega) _ HR.out).mono ?_; rintro e w1 ⟨rfl, rfl⟩) | (go_at_call 34; refine (refHas_is A n c xs s _ HX.out HN.out (by omega) _ HT0.out).mono ?_; rintro e w1 ⟨rfl, rfl⟩))
    go_loopw [5] (fun i wr => ∃ j : Nat, j < K ∧ i = .int .i64 (j + 1 : Nat) ∧ Hid (∀ i, i < j + 1 → Nm.nameK s.data.toList i ∈ takenL xs) ∧ Below w.heap.size w wr) (fun i _ => n + 2 - (intOf i).toNat)
    case atStart => exact ⟨0, by omega, by go_num, (fun i hi => (show i = 0 by omega) ▸ H0.out), Below.refl _ _⟩
    case round =>
      obtain ⟨j, hj, rfl, hall, hb⟩ := hrel
      obtain ⟨E, hE⟩ : ∃ E : ByteArray, ⟨(Lib.decDigits (j + 1)).toArray⟩ = E := ⟨_, rfl⟩
      have hE4 : E.size ≤ 4 := by rw [← hE, digE_size]; exact Nm.digits_le (by omega)
      have HE := Lib.hid hE
      have hjn : ((j + 1 : Nat) : Int) ≤ (n : Int) + 1 := by omega
      have hjn0 : ((0 : Nat) : Int) ≤ ((j + 1 : Nat) : Int) := by omega
      go_wp2_with fail
      refine (decimal_is (j + 1) _ (by omega) E HE.out).mono ?_
      rintro e w2 ⟨rfl, hb2⟩
      have HB := Lib.hid (hb.trans (hb2.mono hb.size))
      clear hb2
      by_cases hsh : s.size ≤ 39 - E.size
      · have HF := Lib.hid (num_short (s := s) (n := j + 1) (by omega) hE hsh)
        clear hE
        go_wp2_with fail
        by_cases hm : Nm.nameK s.data.toList (j + 1) ∈ takenL xs
        · have HT := Lib.hid (decide_eq_true (p := (s ++ (⟨#[95]⟩ ++ E)).data.toList ∈ takenL xs) (by rw [HF.out]; exact hm))
          have hjK : j + 1 ≠ K := fun e => HKf.out (by rw [← e]; exact hm)
          have HA : Hid (∀ i, i < j + 1 + 1 → Nm.nameK s.data.toList i ∈ takenL xs) := fun i hi => by
            by_cases e : i = j + 1
            · subst e; exact hm
            · exact hall.out i (by omega)
          clear hm
          refine (refHas_is A n c xs _ _ (HX.out.below HB.out) HN.out (by omega) true HT.out).mono ?_
          rintro e w3 ⟨rfl, rfl⟩
          go_wp2_with fail
          go_roundw
          case rel => exact ⟨j + 1, by omega, by go_num, HA, HB.out⟩
          case measure => simp [intOf]; omega
        · have HT := Lib.hid (decide_eq_false (p := (s ++ (⟨#[95]⟩ ++ E)).data.toList ∈ takenL xs) (by rw [HF.out]; exact hm))
          have HNM := Lib.hid hm
          clear hm
          refine (refHas_is A n c xs _ _ (HX.out.below HB.out) HN.out (by omega) false HT.out).mono ?_
          rintro e w3 ⟨rfl, rfl⟩
          go_wp2_with fail
          go_ret
          exact ⟨⟨j + 1, by rw [← HF.out]; rfl, by rw [HN.out]; omega, HNM.out, hall.out⟩, HB.out⟩
      · obtain ⟨R, hR⟩ : ∃ R : ByteArray, trimB (s.extract 0 (39 - E.size)) = R := ⟨_, rfl⟩
        have HF := Lib.hid (num_long (s := s) (n := j + 1) (by omega) hE hsh hR)
        have HR2 := Lib.hid hR
        clear hE hR
        go_wp2_with fail
        have hd40 : decide ((40 : Int) < (s.size : Int) + (1 + (E.size : Int))) = true := decide_eq_true (by omega)
        rw [hd40]
        go_loop [7] (fun f => ∃ F : ByteArray, f = .string F ∧ Hid (trimB F = R) ∧ F.size ≤ 40) sizeV
        case atStart => exact ⟨_, rfl, by rw [show 40 - (1 + E.size) = 39 - E.size from by omega]; exact HR2.out, by rw [show 40 - (1 + E.size) = 39 - E.size from by omega, Lib.size_eq, Lib.extract_from_zero, List.length_take]; omega⟩
        case round =>
          obtain ⟨F, rfl, hF, hF40⟩ := hrel
          by_cases h1 : 0 < F.size
          · have h1I : (0 : Int) < (F.size : Int) := by omega
            by_cases hc : F[F.size - 1]'(by omega) = 46
            · have HB4 : Hid (((((F[F.size - 1]'(by omega)).toNat : Nat) : Int) == 46) = true) := by rw [byte_eq46, decide_eq_true hc]; rfl
              have HD := Lib.hid ((trimB_dot h1 hc).trans hF.out)
              clear hc
              have hbb := HB4.out
              go_wp2_with fail
              go_round
              case rel => exact ⟨_, rfl, HD.out, by rw [Lib.size_eq, Lib.extract_from_zero, List.length_take, ← Lib.size_eq]; omega⟩
              case measure =>
                show (F.extract 0 (F.size - 1)).size < F.size
                rw [Lib.size_eq, Lib.extract_from_zero, List.length_take, ← Lib.size_eq]; omega
            · have HB4 : Hid (((((F[F.size - 1]'(by omega)).toNat : Nat) : Int) == 46) = false) := by rw [byte_eq46, decide_eq_false hc]; rfl
              have e : F = R := by rw [← hF.out]; exact (trimB_stop h1 hc).symm
              have HF2 : Hid (F ++ (⟨#[95]⟩ ++ E) = nameKB s (j + 1)) := by rw [e]; exact HF.out
              clear HF hc e
              have HF := HF2
              have hbb := HB4.out
              go_wp2_with fail
              by_cases hm : Nm.nameK s.data.toList (j + 1) ∈ takenL xs
              · have HT := Lib.hid (decide_eq_true (p := (F ++ (⟨#[95]⟩ ++ E)).data.toList ∈ takenL xs) (by rw [HF.out]; exact hm))
                have hjK : j + 1 ≠ K := fun e => HKf.out (by rw [← e]; exact hm)
                have HA : Hid (∀ i, i < j + 1 + 1 → Nm.nameK s.data.toList i ∈ takenL xs) := fun i hi => by
                  by_cases e : i = j + 1
                  · subst e; exact hm
                  · exact hall.out i (by omega)
                clear hm
                refine (refHas_is A n c xs _ _ (HX.out.below HB.out) HN.out (by omega) true HT.out).mono ?_
                rintro e w3 ⟨rfl, rfl⟩
                go_wp2_with fail
                go_roundw
                case rel => exact ⟨j + 1, by omega, by go_num, HA, HB.out⟩
                case measure => simp [intOf]; omega
              · have HT := Lib.hid (decide_eq_false (p := (F ++ (⟨#[95]⟩ ++ E)).data.toList ∈ takenL xs) (by rw [HF.out]; exact hm))
                have HNM := Lib.hid hm
                clear hm
                refine (refHas_is A n c xs _ _ (HX.out.below HB.out) HN.out (by omega) false HT.out).mono ?_
                rintro e w3 ⟨rfl, rfl⟩
                go_wp2_with fail
                go_ret
                exact ⟨⟨j + 1, by rw [← HF.out]; rfl, by rw [HN.out]; omega, HNM.out, hall.out⟩, HB.out⟩
          · have e : F = R := by rw [← hF.out]; exact (trimB_nil h1).symm
            have HF2 : Hid (F ++ (⟨#[95]⟩ ++ E) = nameKB s (j + 1)) := by rw [e]; exact HF.out
            clear HF e
            have HF := HF2
            have h1I : ¬ (0 : Int) < (F.size : Int) := by omega
            go_wp2_with fail
            by_cases hm : Nm.nameK s.data.toList (j + 1) ∈ takenL xs
            · have HT := Lib.hid (decide_eq_true (p := (F ++ (⟨#[95]⟩ ++ E)).data.toList ∈ takenL xs) (by rw [HF.out]; exact hm))
              have hjK : j + 1 ≠ K := fun e => HKf.out (by rw [← e]; exact hm)
              have HA : Hid (∀ i, i < j + 1 + 1 → Nm.nameK s.data.toList i ∈ takenL xs) := fun i hi => by
                by_cases e : i = j + 1
                · subst e; exact hm
                · exact hall.out i (by omega)
              clear hm
              refine (refHas_is A n c xs _ _ (HX.out.below HB.out) HN.out (by omega) true HT.out).mono ?_
              rintro e w3 ⟨rfl, rfl⟩
              go_wp2_with fail
              go_roundw
              case rel => exact ⟨j + 1, by omega, by go_num, HA, HB.out⟩
              case measure => simp [intOf]; omega
            · have HT := Lib.hid (decide_eq_false (p := (F ++ (⟨#[95]⟩ ++ E)).data.toList ∈ takenL xs) (by rw [HF.out]; exact hm))
              have HNM := Lib.hid hm
              clear hm
              refine (refHas_is A n c xs _ _ (HX.out.below HB.out) HN.out (by omega) false HT.out).mono ?_
              rintro e w3 ⟨rfl, rfl⟩
              go_wp2_with fail
              go_ret
              exact ⟨⟨j + 1, by rw [← HF.out]; rfl, by rw [HN.out]; omega, HNM.out, hall.out⟩, HB.out⟩
  · have HT0 := Lib.hid (decide_eq_false h0)
    have H0 := Lib.hid h0
    clear h0
    go_enter Tryz.func21, Tryz.ntmps21
    go_wp2_with (first | (go_at_call 10; refine (refRight_is s _ (by omega) _ HR.out).mono ?_; rintro e w1 ⟨rfl, rfl⟩) | (go_at_call 34; refine (refHas_is A n c xs s _ HX.out HN.out (by omega) _ HT0.out).mono ?_; rintro e w1 ⟨rfl, rfl⟩))
    go_ret
    exact ⟨⟨0, by rw [nameKB_zero]; rfl, by omega, H0.out, fun i hi => absurd hi (Nat.not_lt_zero _)⟩, Below.refl _ _⟩

theorem refFresh_no (s : ByteArray) (A : Option Addr) (n c : Nat) (w : World) (hs : s.size ≤ 140737488355328) (hr : Nm.rightB s = false) :
    Calls Tryz.prog 21 #[.string s, .slice A n c] w (Ret w (.string ⟨#[]⟩)) := by
  have HR := Lib.hid hr
  clear hr
  go_enter Tryz.func21, Tryz.ntmps21
  go_wp2_with (go_at_call 10; refine (refRight_is s _ hs _ HR.out).mono ?_; rintro e w1 ⟨rfl, rfl⟩)
  go_ret
  exact ⟨rfl, Below.refl _ _⟩
end Go.Proofs.YtnknaecfjkiibaaGreatDoor
