/-
  The contracts of package wire's functions Size and appendNumber: how many bytes a number has, and its bytes behind those of a row of one's own.
  Conditions: each contract's own.
-/
import Derived.Test.YtgjjaalojelmhaaBytes2
import Derived.Test.YtgjjaalojelmhaaEnc
import Derived.Laws.BitsAllLaws
namespace Go.Proofs.Ytgjjaalojelmhaa
open Go.RowKit
open Wire

/-- How many bytes an int's number has: 0 of none. -/
def sizeI (i : Int) : Nat := if i < 0 ∨ 1099511627776 < i then 0 else (enc i.toNat).length
theorem sizeI_num {n : Nat} (h : n ≤ 1099511627776) : sizeI (n : Int) = (enc n).length := by
  unfold sizeI
  rw [if_neg (by omega)]
  rfl
theorem sizeI_no {i : Int} (h : i < 0 ∨ 1099511627776 < i) : sizeI i = 0 := by
  unfold sizeI
  rw [if_pos h]

/-- Half way: so many are counted, and the rest has the others. -/
def SizeTo (L t k : Nat) : Prop := t + (enc k).length = L + 1
theorem SizeTo.step {L t k : Nat} (h : SizeTo L t k) (hk : 128 ≤ k) : SizeTo L (t + 1) (k / 128) := by
  unfold SizeTo at *
  rw [enc_more (by omega), List.length_cons] at h
  omega
theorem SizeTo.end_ {L t k : Nat} (h : SizeTo L t k) (hk : ¬ 128 ≤ k) : t = L := by
  unfold SizeTo at *
  rw [enc_small (by omega), List.length_singleton] at h
  omega
theorem SizeTo.le {L t k : Nat} (h : SizeTo L t k) : t ≤ L := by
  unfold SizeTo at h
  have := enc_pos k
  omega

theorem size_num (n : Nat) (w : World) (h : n ≤ 1099511627776) (L : Nat) (hL : (enc n).length = L) :
    Calls Try.prog 19 #[.int .i64 n] w fun e w' => e = .returned (.int .i64 L) ∧ w = w' := by
  have h1 : decide ((n : Int) < 0) = false := by simp
  have h2 : decide ((1099511627776 : Int) < (n : Int)) = false := by simp; omega
  have hL6 : L ≤ 6 := by rw [← hL]; exact enc_six h
  have HS : Hid (SizeTo L 1 n) := by unfold Hid SizeTo; omega
  clear hL
  go_enter Try.func19, Try.ntmps19
  go_wp2
  go_loop [0, 3] (fun m s => ∃ k : Nat, m = .int .i64 k ∧ ∃ t : Nat, s = .int .i64 t ∧ SizeTo L t k) (fun m _ => (intOf m).toNat)
  case atStart => exact ⟨n, rfl, 1, rfl, HS.out⟩
  case round =>
    obtain ⟨k, rfl, t, rfl, hs⟩ := hrel
    have ht := hs.le
    have HT := Lib.hid hs
    clear hs
    by_cases h3 : 128 ≤ k
    · have h4 : decide ((128 : Int) ≤ (k : Int)) = true := by simp; omega
      go_wp2
      go_round
      case rel => exact ⟨k / 128, by simp, t + 1, by go_num, HT.out.step h3⟩
      case measure => simp [intOf]; omega
    · have h4 : decide ((128 : Int) ≤ (k : Int)) = false := by simp; omega
      have HE := Lib.hid (HT.out.end_ h3)
      go_wp2
      go_ret
      exact ⟨by rw [HE.out]; rfl, rfl⟩
theorem size_no (i : Int) (w : World) (h : i < 0 ∨ 1099511627776 < i) :
    Calls Try.prog 19 #[.int .i64 i] w fun e w' => e = .returned (.int .i64 0) ∧ w = w' := by
  by_cases h0 : i < 0
  · have h1 : decide (i < 0) = true := by simp; omega
    go_enter Try.func19, Try.ntmps19
    go_wp2
    go_ret
    exact ⟨rfl, rfl⟩
  · have h1 : decide (i < 0) = false := by simp; omega
    have h2 : decide ((1099511627776 : Int) < i) = true := by simp; omega
    go_enter Try.func19, Try.ntmps19
    go_wp2
    go_ret
    exact ⟨rfl, rfl⟩
theorem size_any (i : Int) (w : World) (L : Nat) (hL : sizeI i = L) :
    Calls Try.prog 19 #[.int .i64 i] w fun e w' => e = .returned (.int .i64 L) ∧ w = w' := by
  by_cases h : i < 0 ∨ 1099511627776 < i
  · rw [sizeI_no h] at hL
    subst hL
    exact size_no i w h
  · obtain ⟨n, rfl⟩ := Int.eq_ofNat_of_zero_le (show 0 ≤ i by omega)
    have hn : n ≤ 1099511627776 := by omega
    rw [sizeI_num hn] at hL
    exact size_num n w hn L hL

theorem or128 (k : Nat) : bits .or .u8 (IntKind.u8.wrap (k : Int)) 128 = ((UInt8.ofNat (k % 128 + 128)).toNat : Int) := by
  have e1 : IntKind.u8.wrap (k : Int) = ((k % 256 : Nat) : Int) := by rw [IntKind.wrap_u8']; omega
  rw [e1, show (128 : Int) = ((128 : Nat) : Int) from rfl, u8_or_nat _ _ (by omega) (by omega), toNat_small (by omega)]
  have h : ∀ x, x < 256 → x ||| 128 = x % 128 + 128 := by decide +kernel
  rw [h (k % 256) (by omega)]
  omega

set_option maxHeartbeats 1000000 in
theorem appendNumber_own (base : Nat) (v : Value) (m : Nat) (bs ds : List UInt8) (n : Nat) (w : World) (hown : w.ownsRow base 5 1 v m (bs.map bv)) (hb : base ≤ w.heap.size) (hn : n ≤ 1099511627776) (hm : m ≤ 140737488000000) (hd : bs ++ enc n = ds) :
    Calls Try.prog 27 #[v, .int .i64 n] w (OwnRet base w ds) := by
  obtain ⟨i0, hi, hz0, hz1, hz2⟩ := info_parts infoU8
  have HO := Lib.hid hown
  have HD : Hid (bs ++ enc n = ds ∧ m + (enc n).length ≤ 140737488000006) := ⟨hd, by have := enc_six hn; omega⟩
  clear hown hd
  go_enter Try.func27, Try.ntmps27
  go_wp2
  go_loopw [0, 1] (fun b i wr => ∃ k : Nat, i = .int .i64 k ∧ k ≤ n ∧ ∃ M bs', wr.ownsRow base 5 1 b M (bs'.map bv) ∧ Below base w wr ∧ Hid (bs' ++ enc k = ds ∧ M + (enc k).length ≤ 140737488000006)) (fun _ i _ => (intOf i).toNat)
  case atStart => exact ⟨n, rfl, Nat.le_refl _, m, bs, HO.out, Below.refl _ _, HD⟩
  case round =>
    obtain ⟨k, rfl, hk, M, bs', ho, hbel, hd⟩ := hrel
    have hM : M ≤ 140737488000006 := by have := hd.out.2; omega
    have hbase : base ≤ wr.heap.size := Nat.le_trans hb hbel.size
    have HO' := Lib.hid ho
    have HB := Lib.hid hbel
    clear ho hbel
    by_cases h3 : 128 ≤ k
    · have h4 : decide ((128 : Int) ≤ (k : Int)) = true := by simp; omega
      have hl : M + 1 ≤ 140737488355328 := by omega
      go_wp2_with (at_builtin; refine wpList_append_own _ rfl _ _ 24 rfl base 5 i0 (.int .u8 0) 1 1 Try.underlying24 hi hz0 hz1 hz2 rfl (by decide) _ M (bs'.map bv) rfl (own_alloc HO'.out _) _ 1 1 [_] rfl rfl (cell_one_new _ _ _) (one_oneCell _ _) ?c4 ?c5 ?c6 ?_)
      case c4 => unfold maxLen; omega
      case c5 => omega
      case c6 => simp; omega
      intro v' w1 hown hgrow _
      have HB' := Lib.hid (below_lay HB.out hbase HO'.out hgrow)
      have HO2 := Lib.hid (own_snoc (UInt8.ofNat (k % 128 + 128)) hown (by rw [← or128, show IntKind.u8.wrap (k : Int) = (k : Int) % 256 from IntKind.wrap_u8' _]))
      have HD2 : Hid ((bs' ++ [UInt8.ofNat (k % 128 + 128)]) ++ enc (k / 128) = ds ∧ (M + 1) + (enc (k / 128)).length ≤ 140737488000006) := by
        have hd' := hd.out
        rw [enc_more (by omega)] at hd'
        exact ⟨by rw [List.append_assoc]; exact hd'.1, by have := hd'.2; rw [List.length_cons] at this; omega⟩
      clear hown hgrow HO' HB
      go_wp2
      go_roundw
      case rel => exact ⟨k / 128, by simp, by omega, M + 1, _, HO2.out, HB'.out, HD2⟩
      case measure => simp [intOf]; omega
    · have h4 : decide ((128 : Int) ≤ (k : Int)) = false := by simp; omega
      have hl : M + 1 ≤ 140737488355328 := by omega
      go_wp2_with (at_builtin; refine wpList_append_own _ rfl _ _ 24 rfl base 5 i0 (.int .u8 0) 1 1 Try.underlying24 hi hz0 hz1 hz2 rfl (by decide) _ M (bs'.map bv) rfl (own_alloc HO'.out _) _ 1 1 [_] rfl rfl (cell_one_new _ _ _) (one_oneCell _ _) ?c4 ?c5 ?c6 ?_)
      case c4 => unfold maxLen; omega
      case c5 => omega
      case c6 => simp; omega
      intro v' w1 hown hgrow _
      have HB' := Lib.hid (below_lay HB.out hbase HO'.out hgrow)
      have HO2 := Lib.hid (own_snoc (UInt8.ofNat k) hown (by rw [toNat_small (by omega)]))
      have HD2 : Hid (bs' ++ [UInt8.ofNat k] = ds) := by
        have hd' := hd.out
        rw [enc_small (by omega)] at hd'
        exact hd'.1
      clear hown hgrow HO' HB
      go_wp2
      go_ret
      exact ⟨v', M + 1, rfl, by rw [← HD2.out]; exact HO2.out, HB'.out⟩
end Go.Proofs.Ytgjjaalojelmhaa
