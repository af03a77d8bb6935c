/-
  The contract of the reference's function Decimal: a number's decimal digits.
  Conditions: the number is below 10000.
-/
import Derived.Test.YtnknaecfjkiibaaGreatDoorRefParts
import Derived.Laws.BytesArg
namespace Go.Proofs.YtnknaecfjkiibaaGreatDoor
open Go.RowKit

theorem dig_small {m : Nat} (h : m < 10) : Lib.decDigits m = [UInt8.ofNat (48 + m % 10)] := by
  rw [Lib.decDigits, dif_pos h, Nat.mod_eq_of_lt h]
theorem dig_more {m : Nat} (h : ¬ m < 10) : Lib.decDigits m = Lib.decDigits (m / 10) ++ [UInt8.ofNat (48 + m % 10)] := by
  rw [Lib.decDigits, dif_neg h]

theorem byte_conv (w : World) (z : Int) : (convert 50 9 (.slice (some ⟨w.heap.size, 0, none⟩) 1 1)).run Tryz.prog (w.alloc (Obj.cells #[.int .u8 z] 5)) = .ok (.string ⟨#[UInt8.ofNat z.toNat]⟩) (w.alloc (Obj.cells #[.int .u8 z] 5)) :=
  run_convert_bytes_arg _ 50 5 (by kernel_rfl) (by kernel_rfl) w.heap.size 0 1 1 [z] rfl (fun i hi => by
    obtain rfl : i = 0 := by omega
    exact cell_of_row _ w.heap.size 0 #[.int .u8 z] 5 (0, 0) (heap_alloc_new w (Obj.cells #[.int .u8 z] 5))) 9 (by kernel_rfl)

set_option maxHeartbeats 1000000 in
set_option maxRecDepth 100000 in
theorem decimal_is (n : Nat) (w : World) (hn : n < 10000) (E : ByteArray) (hE : ⟨(Lib.decDigits n).toArray⟩ = E) :
    Calls Tryz.prog 35 #[.int .i64 n] w (Ret w (.string E)) := by
  have HE := Lib.hid hE
  clear hE
  go_enter Tryz.func35, Tryz.ntmps35
  go_wp2_with fail
  go_loopw [0, 3] (fun i f wr => ∃ m : Nat, m ≤ n ∧ i = .int .i64 m ∧ ∃ S : ByteArray, f = .string S ∧ Hid (Lib.decDigits n = Lib.decDigits m ++ S.data.toList) ∧ S.size ≤ 10000 - m ∧ Below w.heap.size w wr) (fun i _ _ => (intOf i).toNat)
  case atStart => exact ⟨n, Nat.le_refl _, rfl, ⟨#[]⟩, rfl, by simp [Hid], Nat.zero_le _, Below.refl _ _⟩
  case round =>
    obtain ⟨m, hm, rfl, S, rfl, HS, hS, hb⟩ := hrel
    have hm0 : (0 : Int) ≤ (m : Int) := by omega
    have hmI : (m : Int) ≤ 10000 := by omega
    obtain ⟨C, hC⟩ : ∃ C : ByteArray, ⟨#[UInt8.ofNat ((48 + (m : Int) % 10).toNat)]⟩ = C := ⟨_, rfl⟩
    have hconv := byte_conv wr (48 + (m : Int) % 10)
    rw [hC] at hconv
    have hC1 : C.size = 1 := by rw [← hC]; rfl
    have HC : Hid (C.data.toList = [UInt8.ofNat (48 + m % 10)]) := by
      rw [← hC]
      show [UInt8.ofNat ((48 + (m : Int) % 10).toNat)] = _
      rw [show (48 + (m : Int) % 10).toNat = 48 + m % 10 from by omega]
    clear hC
    by_cases h10 : m < 10
    · have hq : decide ((m : Int) / 10 = 0) = true := decide_eq_true (by omega)
      have HF : Hid (C ++ S = E) := by
        rw [← HE.out]
        refine cat_eq ?_
        rw [HC.out, HS.out, dig_small h10]
      go_wp2_with fail
      go_ret
      exact ret_string HF.out (hb.alloc hb.size _)
    · have hq : decide ((m : Int) / 10 = 0) = false := decide_eq_false (by omega)
      go_wp2_with fail
      go_roundw
      case rel =>
        refine ⟨m / 10, by omega, by go_num, _, rfl, ?_, ?_, hb.alloc hb.size _⟩
        · show _ = _
          rw [HS.out, dig_more h10, List.append_assoc, ← HC.out]
          simp [ByteArray.data_append]
        · rw [ByteArray.size_append, hC1]; omega
      case measure => simp [intOf]; omega
end Go.Proofs.YtnknaecfjkiibaaGreatDoor
