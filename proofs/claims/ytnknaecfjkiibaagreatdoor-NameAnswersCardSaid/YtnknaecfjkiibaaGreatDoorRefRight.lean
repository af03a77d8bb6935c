/-
  The contracts of the reference's functions letter, digit, Right, dot, Parent, Last and Under: each answers what package name's own answers, and leaves the world as it was.
  Conditions: each text has at most 2^47 bytes.
-/
import Derived.Test.YtnknaecfjkiibaaGreatDoorDots
import Derived.Deep.QuietTactic
import Derived.BigQuiet
namespace Go.Proofs.YtnknaecfjkiibaaGreatDoor
open Go.RowKit

/-- One of a to z and _. -/
def ltrI (c : Int) : Bool := (decide (97 ≤ c) && decide (c ≤ 122)) || decide (c = 95)

set_option maxHeartbeats 400000 in
theorem refDigit_is (c : Int) (w : World) (b : Bool) (hb : digI c = b) :
    Calls Tryz.prog 28 #[.int .u8 c] w fun e w' => e = .returned (.bool b) ∧ w = w' := by
  subst hb
  by_cases h1 : 48 ≤ c
  · by_cases h2 : c ≤ 57
    · go_enter Tryz.func28, Tryz.ntmps28
      go_wp2
      go_ret
      exact ⟨by simp [digI, h1, h2], rfl⟩
    · go_enter Tryz.func28, Tryz.ntmps28
      go_wp2
      go_ret
      exact ⟨by simp [digI, h1, h2], rfl⟩
  · have hf : Hid (digI c = false) := by unfold digI; rw [decide_eq_false h1]; rfl
    go_enter Tryz.func28, Tryz.ntmps28
    go_wp2
    go_ret
    exact ⟨by rw [hf.out]; rfl, rfl⟩
set_option maxHeartbeats 400000 in
theorem refLetter_is (c : Int) (w : World) (b : Bool) (hb : ltrI c = b) :
    Calls Tryz.prog 27 #[.int .u8 c] w fun e w' => e = .returned (.bool b) ∧ w = w' := by
  subst hb
  by_cases h1 : 97 ≤ c
  · by_cases h2 : c ≤ 122
    · go_enter Tryz.func27, Tryz.ntmps27
      go_wp2
      go_ret
      exact ⟨by simp [ltrI, h1, h2], rfl⟩
    · have h3 : (c == 95) = false := by simp; omega
      have hf : Hid (ltrI c = false) := by show ltrI c = false; unfold ltrI; rw [decide_eq_false h2, decide_eq_false (p := c = 95) (by omega)]; simp
      go_enter Tryz.func27, Tryz.ntmps27
      go_wp2
      go_ret
      exact ⟨by rw [hf.out]; rfl, rfl⟩
  · by_cases h3 : c = 95
    · subst h3
      go_enter Tryz.func27, Tryz.ntmps27
      go_wp2
      go_ret
      exact ⟨rfl, rfl⟩
    · have h4 : (c == 95) = false := by simp; omega
      have hf : Hid (ltrI c = false) := by unfold ltrI; rw [decide_eq_false h1, decide_eq_false h3]; rfl
      go_enter Tryz.func27, Tryz.ntmps27
      go_wp2
      go_ret
      exact ⟨by rw [hf.out]; rfl, rfl⟩

/-- As far as k the walk has come: what is left is to be a name's rest. -/
def RestTo (s : ByteArray) (k : Nat) (first : Bool) : Prop := Nm.okS true s.data.toList = Nm.okS first (s.data.toList.drop k)
theorem RestTo.zero (s : ByteArray) : RestTo s 0 true := rfl
theorem drop_get {s : ByteArray} {k : Nat} (h : k < s.size) : s.data.toList.drop k = (s[k]'h) :: s.data.toList.drop (k + 1) := by
  have h' : k < s.data.toList.length := by rw [← Lib.size_eq]; exact h
  rw [List.drop_eq_getElem_cons h']
  congr 1
theorem let_pl (c : UInt8) : (ltrI ((c.toNat : Nat) : Int) || Nm.dg c) = Nm.pl c := by
  rw [← plainI_pl, ← digI_dg]
  unfold plainI ltrI
  cases (decide ((97 : Int) ≤ ((c.toNat : Nat) : Int)) && decide (((c.toNat : Nat) : Int) ≤ 122)) <;> cases digI ((c.toNat : Nat) : Int) <;> simp
theorem let_dg (c : UInt8) (h : ltrI ((c.toNat : Nat) : Int) = true) : Nm.dg c = false := by
  rw [← digI_dg]
  unfold ltrI at h
  unfold digI
  rw [Bool.or_eq_true, Bool.and_eq_true, decide_eq_true_iff, decide_eq_true_iff, decide_eq_true_iff] at h
  rw [Bool.and_eq_false_iff, decide_eq_false_iff_not, decide_eq_false_iff_not]
  omega
theorem RestTo.dot {s : ByteArray} {k : Nat} {first : Bool} (h : RestTo s k first) (hk : k < s.size) (hc : s[k]'hk = 46) : (first = true → Nm.okS true s.data.toList = false) ∧ (first = false → RestTo s (k + 1) true) := by
  unfold RestTo at h ⊢
  rw [drop_get hk, hc, Nm.okS, if_pos rfl] at h
  exact ⟨fun e => by rw [h, e]; rfl, fun e => by rw [h, e]; rfl⟩
theorem RestTo.plain {s : ByteArray} {k : Nat} {first : Bool} (h : RestTo s k first) (hk : k < s.size) (hc : s[k]'hk ≠ 46) :
    ((ltrI (((s[k]'hk).toNat : Nat) : Int) || (digI (((s[k]'hk).toNat : Nat) : Int) && !first)) = true → RestTo s (k + 1) false) ∧
    ((ltrI (((s[k]'hk).toNat : Nat) : Int) || (digI (((s[k]'hk).toNat : Nat) : Int) && !first)) = false → Nm.okS true s.data.toList = false) := by
  unfold RestTo at h ⊢
  rw [drop_get hk, Nm.okS, if_neg hc] at h
  rw [digI_dg]
  have hp := let_pl (s[k]'hk)
  have hd := let_dg (s[k]'hk)
  generalize ltrI (((s[k]'hk).toNat : Nat) : Int) = l at *
  generalize Nm.dg (s[k]'hk) = d at *
  rw [h, ← hp]
  cases l <;> cases d <;> cases first <;> simp_all
theorem rest_end {s : ByteArray} {first : Bool} (h : RestTo s s.size first) : Nm.okS true s.data.toList = !first := by
  unfold RestTo at h
  rw [h, Lib.size_eq, List.drop_length]
  rfl
theorem right_size {s : ByteArray} (h : s.size ≤ 40) : Nm.rightB s = Nm.okS true s.data.toList := by unfold Nm.rightB; rw [decide_eq_true h]; rfl
theorem right_empty {s : ByteArray} (h : s.size < 1) : Nm.rightB s = false := by
  have : s.data.toList = [] := List.length_eq_zero_iff.1 (by rw [← Lib.size_eq]; omega)
  unfold Nm.rightB
  rw [this]; simp [Nm.okS]
theorem byte_eq46 (c : UInt8) : (((c.toNat : Nat) : Int) == 46) = decide (c = 46) := by
  by_cases h : c = 46
  · subst h; rfl
  · rw [decide_eq_false h, beq_eq_false_iff_ne]
    exact fun e => h (byte46 e)

set_option maxHeartbeats 1000000 in
set_option maxRecDepth 100000 in
theorem refRight_any (s : ByteArray) (w : World) (hs : s.size ≤ 140737488355328) :
    Calls Tryz.prog 10 #[.string s] w fun e w' => e = .returned (.bool (Nm.rightB s)) ∧ w = w' := by
  by_cases h1 : s.size < 1
  · have HF := Lib.hid (right_empty h1)
    go_enter Tryz.func10, Tryz.ntmps10
    go_wp2
    go_ret
    exact ⟨by rw [HF.out]; rfl, rfl⟩
  · by_cases h40 : s.size ≤ 40
    · have HR := Lib.hid (right_size h40)
      have hd1 : decide ((s.size : Int) < 1) = false := decide_eq_false (by omega)
      have hd2 : decide ((40 : Int) < (s.size : Int)) = false := decide_eq_false (by omega)
      go_enter Tryz.func10, Tryz.ntmps10
      go_wp2
      go_loop [3, 4] (fun f i => ∃ k : Nat, k ≤ s.size ∧ i = .int .i64 k ∧ ∃ fb : Bool, f = .bool fb ∧ Hid (RestTo s k fb)) (fun _ i => s.size - (intOf i).toNat)
      case atStart => exact ⟨0, Nat.zero_le _, rfl, true, rfl, RestTo.zero s⟩
      case round =>
        obtain ⟨k, hk, rfl, fb, rfl, hrest⟩ := hrel
        by_cases hlt : k < s.size
        · have hln : (k : Int) < (s.size : Int) := by omega
          have hk0 : (0 : Int) ≤ (k : Int) := by omega
          by_cases hc : s[k]'hlt = 46
          · have HD := Lib.hid (hrest.out.dot hlt hc)
            have HB : Hid (((((s[k]'hlt).toNat : Nat) : Int) == 46) = true) := by rw [byte_eq46, decide_eq_true hc]; rfl
            clear hc
            cases fb
            · have HN := Lib.hid (HD.out.2 rfl)
              have hb := HB.out
              go_wp2_with fail
              go_round
              case rel => exact ⟨k + 1, by omega, by go_num, true, rfl, HN.out⟩
              case measure => simp [intOf]; omega
            · have HN := Lib.hid (HD.out.1 rfl)
              have hb := HB.out
              go_wp2_with fail
              go_ret
              exact ⟨by rw [HR.out, HN.out]; rfl, rfl⟩
          · have HP := Lib.hid (hrest.out.plain hlt hc)
            have HB : Hid (((((s[k]'hlt).toNat : Nat) : Int) == 46) = false) := by rw [byte_eq46, decide_eq_false hc]; rfl
            clear hc
            cases hl : ltrI (((s[k]'hlt).toNat : Nat) : Int)
            · cases hg : digI (((s[k]'hlt).toNat : Nat) : Int)
              · have HN := Lib.hid (HP.out.2 (by rw [hl, hg]; rfl))
                have HL := Lib.hid hl
                have HG := Lib.hid hg
                clear hl hg HP
                have hb := HB.out
                go_wp2_with fail
                refine (refLetter_is _ _ _ HL.out).mono ?_
                rintro e w1 ⟨rfl, rfl⟩
                go_wp2_with fail
                refine (refDigit_is _ _ _ HG.out).mono ?_
                rintro e w2 ⟨rfl, rfl⟩
                go_wp2_with fail
                go_ret
                exact ⟨by rw [HR.out, HN.out]; rfl, rfl⟩
              · cases fb
                · have HN := Lib.hid (HP.out.1 (by rw [hl, hg]; rfl))
                  have HL := Lib.hid hl
                  have HG := Lib.hid hg
                  clear hl hg HP
                  have hb := HB.out
                  go_wp2_with fail
                  refine (refLetter_is _ _ _ HL.out).mono ?_
                  rintro e w1 ⟨rfl, rfl⟩
                  go_wp2_with fail
                  refine (refDigit_is _ _ _ HG.out).mono ?_
                  rintro e w2 ⟨rfl, rfl⟩
                  go_wp2_with fail
                  go_round
                  case rel => exact ⟨k + 1, by omega, by go_num, false, rfl, HN.out⟩
                  case measure => simp [intOf]; omega
                · have HN := Lib.hid (HP.out.2 (by rw [hl, hg]; rfl))
                  have HL := Lib.hid hl
                  have HG := Lib.hid hg
                  clear hl hg HP
                  have hb := HB.out
                  go_wp2_with fail
                  refine (refLetter_is _ _ _ HL.out).mono ?_
                  rintro e w1 ⟨rfl, rfl⟩
                  go_wp2_with fail
                  refine (refDigit_is _ _ _ HG.out).mono ?_
                  rintro e w2 ⟨rfl, rfl⟩
                  go_wp2_with fail
                  go_ret
                  exact ⟨by rw [HR.out, HN.out]; rfl, rfl⟩
            · have HN := Lib.hid (HP.out.1 (by rw [hl]; rfl))
              have HL := Lib.hid hl
              clear hl HP
              have hb := HB.out
              go_wp2_with fail
              refine (refLetter_is _ _ _ HL.out).mono ?_
              rintro e w1 ⟨rfl, rfl⟩
              go_wp2_with fail
              go_round
              case rel => exact ⟨k + 1, by omega, by go_num, false, rfl, HN.out⟩
              case measure => simp [intOf]; omega
        · obtain rfl : k = s.size := by omega
          have HN := Lib.hid (rest_end hrest.out)
          go_wp2
          go_ret
          exact ⟨by rw [HR.out, HN.out]; rfl, rfl⟩
    · have HF := Lib.hid (right_long h40)
      have hd1 : decide ((s.size : Int) < 1) = false := decide_eq_false (by omega)
      go_enter Tryz.func10, Tryz.ntmps10
      go_wp2
      go_ret
      exact ⟨by rw [HF.out]; rfl, rfl⟩

theorem refRight_is (s : ByteArray) (w : World) (hs : s.size ≤ 140737488355328) (b : Bool) (hb : Nm.rightB s = b) :
    Calls Tryz.prog 10 #[.string s] w fun e w' => e = .returned (.bool b) ∧ w = w' := by
  subst hb; exact refRight_any s w hs

/-- From k on there is no dot. -/
def NoDot (s : ByteArray) (k : Nat) : Prop := ∀ j (h : j < s.size), k ≤ j → s[j] ≠ 46
theorem NoDot.end_ (s : ByteArray) : NoDot s s.size := fun j h hk => by omega
theorem NoDot.pred {s : ByteArray} {k : Nat} (h : NoDot s (k + 1)) (hk : k < s.size) (hc : s[k]'hk ≠ 46) : NoDot s k := fun j hj hle => by
  by_cases e : j = k
  · subst e; exact hc
  · exact h j hj (by omega)
theorem get_at {s : ByteArray} {j : Nat} (h : j < s.size) : s.data[j]! = s[j] := by
  obtain ⟨_, e⟩ := data_get h
  rw [e]; rfl
theorem NoDot.none {s : ByteArray} (h : NoDot s 0) : dotI s = -1 := by
  rcases Lib.lastIndexByte_spec s 46 with ⟨e, _⟩ | ⟨i, hi, _, hc, _⟩
  · exact e
  · rw [get_at hi] at hc
    exact absurd (byte46 hc) (h i hi (Nat.zero_le _))
theorem NoDot.here {s : ByteArray} {k : Nat} (h : NoDot s (k + 1)) (hk : k < s.size) (hc : s[k]'hk = 46) : dotI s = (k : Nat) := by
  rcases Lib.lastIndexByte_spec s 46 with ⟨_, hn⟩ | ⟨i, hi, e, hci, hn⟩
  · exact absurd (by rw [get_at hk, hc]; rfl) (hn k hk)
  · by_cases h1 : i = k
    · subst h1; exact e
    · rcases Nat.lt_or_ge i k with h2 | h2
      · exact absurd (by rw [get_at hk, hc]; rfl) (hn k h2 hk)
      · rw [get_at hi] at hci
        exact absurd (byte46 hci) (h i hi (by omega))

set_option maxHeartbeats 1000000 in
set_option maxRecDepth 100000 in
theorem refDot_any (s : ByteArray) (w : World) (hs : s.size ≤ 140737488355328) :
    Calls Tryz.prog 30 #[.string s] w fun e w' => e = .returned (.int .i64 (dotI s)) ∧ w = w' := by
  go_enter Tryz.func30, Tryz.ntmps30
  go_wp2
  go_loop [3] (fun i => ∃ k : Nat, k ≤ s.size ∧ i = .int .i64 ((k : Int) - 1) ∧ Hid (NoDot s k)) (fun i => (intOf i + 1).toNat)
  case atStart => exact ⟨s.size, Nat.le_refl _, rfl, NoDot.end_ s⟩
  case round =>
    obtain ⟨k, hk, rfl, hnd⟩ := hrel
    by_cases h0 : k = 0
    · subst h0
      have HF := Lib.hid (hnd.out.none)
      go_wp2
      go_ret
      exact ⟨by rw [HF.out]; rfl, rfl⟩
    · obtain ⟨m, rfl⟩ : ∃ m, k = m + 1 := ⟨k - 1, by omega⟩
      have hlt : m < s.size := by omega
      have hln : (m : Int) < (s.size : Int) := by omega
      by_cases hc : s[m]'hlt = 46
      · have HB : Hid (((((s[m]'hlt).toNat : Nat) : Int) == 46) = true) := by rw [byte_eq46, decide_eq_true hc]; rfl
        have HF := Lib.hid (hnd.out.here hlt hc)
        clear hc
        have hb := HB.out
        go_wp2
        go_ret
        exact ⟨by rw [HF.out]; rfl, rfl⟩
      · have HB : Hid (((((s[m]'hlt).toNat : Nat) : Int) == 46) = false) := by rw [byte_eq46, decide_eq_false hc]; rfl
        have HF := Lib.hid (hnd.out.pred hlt hc)
        clear hc
        have hb := HB.out
        go_wp2
        go_round
        case rel => exact ⟨m, by omega, by go_num, HF.out⟩
        case measure => simp [intOf]
end Go.Proofs.YtnknaecfjkiibaaGreatDoor
