/-
  The contracts of the reference's functions One, Nums, Texts and List.
  Conditions: each contract's own.
-/
import Derived.Test.YtgjjaalojelmhaaTake2
namespace Go.Proofs.Ytgjjaalojelmhaa
open Go.RowKit
open Wire

set_option maxHeartbeats 1000000 in
theorem one_own (n : Nat) (w : World) (hn : n ≤ 1099511627776) (ds : List UInt8) (hd : enc n = ds) :
    Calls Try.prog 28 #[.int .i64 n] w (OwnRet w.heap.size w ds) := by
  obtain ⟨i0, hi, hz0, hz1, hz2⟩ := info_parts infoU8
  have HD : Hid (enc n = ds ∧ (enc n).length ≤ 6) := ⟨hd, enc_six hn⟩
  clear hd
  go_enter Try.func28, Try.ntmps28
  go_wp2
  go_loopw [0, 3] (fun i b wr => ∃ k : Nat, i = .int .i64 k ∧ k ≤ n ∧ ∃ M bs', wr.ownsRow w.heap.size 5 1 b M (bs'.map bv) ∧ Below w.heap.size w wr ∧ Hid (bs' ++ enc k = ds ∧ M + (enc k).length ≤ 6)) (fun i _ _ => (intOf i).toNat)
  case atStart => exact ⟨n, rfl, Nat.le_refl _, 0, [], own_lit0 w, below_lit w _, ⟨HD.out.1, by have := HD.out.2; omega⟩⟩
  case round =>
    obtain ⟨k, rfl, hk, M, bs', ho, hbel, hd⟩ := hrel
    have hM : M ≤ 6 := by have := hd.out.2; omega
    have hbase : w.heap.size ≤ wr.heap.size := hbel.size
    have HO' := Lib.hid ho
    have HB := Lib.hid hbel
    clear ho hbel
    by_cases h3 : 128 ≤ k
    · have h4 : decide ((128 : Int) ≤ (k : Int)) = true := by simp; omega
      go_wp2_with (at_builtin; refine wpList_append_own _ rfl _ _ 24 rfl w.heap.size 5 i0 (.int .u8 0) 1 1 Try.underlying24 hi hz0 hz1 hz2 rfl (by decide) _ M (bs'.map bv) rfl (own_alloc HO'.out _) _ 1 1 [_] rfl rfl (cell_one_new _ _ _) (one_oneCell _ _) ?c4 ?c5 ?c6 ?_)
      case c4 => unfold maxLen; omega
      case c5 => omega
      case c6 => simp; omega
      intro v' w1 hown hgrow _
      have HB' := Lib.hid (below_lay HB.out hbase HO'.out hgrow)
      have HO2 := Lib.hid (own_snoc (UInt8.ofNat (k % 128 + 128)) hown (by rw [toNat_small (by omega)]; omega))
      have HD2 : Hid ((bs' ++ [UInt8.ofNat (k % 128 + 128)]) ++ enc (k / 128) = ds ∧ (M + 1) + (enc (k / 128)).length ≤ 6) := by
        have hd' := hd.out
        rw [enc_more (by omega)] at hd'
        exact ⟨by rw [List.append_assoc]; exact hd'.1, by have := hd'.2; rw [List.length_cons] at this; omega⟩
      clear hown hgrow HO' HB
      go_wp2
      go_roundw
      case rel => exact ⟨k / 128, by simp, by omega, M + 1, _, HO2.out, HB'.out, HD2⟩
      case measure => simp [intOf]; omega
    · have h4 : decide ((128 : Int) ≤ (k : Int)) = false := by simp; omega
      have hl : M + 1 ≤ 140737488355328 := by omega
      go_wp2_with (at_builtin; refine wpList_append_own _ rfl _ _ 24 rfl w.heap.size 5 i0 (.int .u8 0) 1 1 Try.underlying24 hi hz0 hz1 hz2 rfl (by decide) _ M (bs'.map bv) rfl (own_alloc HO'.out _) _ 1 1 [_] rfl rfl (cell_one_new _ _ _) (one_oneCell _ _) ?c4 ?c5 ?c6 ?_)
      case c4 => unfold maxLen; omega
      case c5 => omega
      case c6 => simp; omega
      intro v' w1 hown hgrow _
      have HB' := Lib.hid (below_lay HB.out hbase HO'.out hgrow)
      have HO2 := Lib.hid (own_snoc (UInt8.ofNat k) hown (by rw [toNat_small (by omega)]))
      have HD2 : Hid (bs' ++ [UInt8.ofNat k] = ds) := by
        have hd' := hd.out
        rw [enc_small (by omega)] at hd'
        exact hd'.1
      clear hown hgrow HO' HB
      go_wp2
      go_ret
      exact ⟨v', M + 1, rfl, by rw [← HD2.out]; exact HO2.out, HB'.out⟩

/-- Bytes, and whether there are any. -/
def BslTup (w : World) (ds : List UInt8) (b : Bool) (e : Ending) (w' : World) : Prop :=
  ∃ S, e = .returned (.tuple #[S, .bool b]) ∧ BSl w' S ds ∧ Below w.heap.size w w'
set_option maxHeartbeats 1000000 in
theorem refNums_any (A : Option Addr) (n c : Nat) (zs : List Int) (w : World) (hx : Nts w A zs) (hN : zs.length = n) (hn : n ≤ 200) :
    Calls Try.prog 12 #[.slice A n c] w (BslTup w (numsOf zs) (zs.all numB)) := by
  have HX := Lib.hid hx
  have HN := Lib.hid hN
  clear hx hN
  go_enter Try.func12, Try.ntmps12
  go_wp2_with fail
  go_loopw [4, 5] (fun b i wr => ∃ k : Nat, k ≤ n ∧ i = .int .i64 k ∧ Hid (NumsTo zs k) ∧ ∃ M, M ≤ 6 * k ∧ wr.ownsRow w.heap.size 5 1 b M ((numsL (zs.take k)).map bv) ∧ Below w.heap.size w wr) (fun _ i _ => n - (intOf i).toNat)
  case atStart => exact ⟨0, Nat.zero_le _, rfl, NumsTo.zero _, 0, Nat.zero_le _, own_lit0 w, below_lit w _⟩
  case round =>
    obtain ⟨k, hk, rfl, hto, M, hM, ho, hbel⟩ := hrel
    have HO := Lib.hid ho
    have HB := Lib.hid hbel
    have hbase : w.heap.size ≤ wr.heap.size := hbel.size
    clear ho hbel
    by_cases hlt : k < n
    · have hx1 : k < zs.length := by rw [HN.out]; exact hlt
      obtain ⟨bk, o, rfl, hb, hcell0⟩ := HX.out.at_ hx1
      have hcell := (HB.out.cell (p := ⟨bk, o + k, none⟩) hb).trans hcell0
      have hln : (k : Int) < (n : Int) := by omega
      cases he : numB zs[k]
      · have HA := Lib.hid (all_no hx1 he)
        have hbad := numB_no he
        have HR : Hid (numsOf zs = []) := by
          unfold numsOf
          rw [HA.out]
          rfl
        clear hcell0
        generalize zs[k] = z at *
        by_cases hneg : z < 0
        · have hd1 : decide (z < 0) = true := by simp; omega
          go_wp2_with fail
          go_ret2
          exact ⟨.slice none 0 0, by rw [HA.out]; rfl, by rw [HR.out]; exact bsl_nil _, HB.out⟩
        · have hd1 : decide (z < 0) = false := by simp; omega
          have hd2 : decide ((1099511627776 : Int) < z) = true := by simp; omega
          go_wp2_with fail
          go_ret2
          exact ⟨.slice none 0 0, by rw [HA.out]; rfl, by rw [HR.out]; exact bsl_nil _, HB.out⟩
      · have HT : Hid (NumsTo zs (k + 1)) := hto.out.succ hx1 he
        have HE := Lib.hid (take_snoc zs hx1)
        have hg := numB_yes he
        clear hcell0
        generalize zs[k] = z at *
        obtain ⟨m, rfl⟩ := Int.eq_ofNat_of_zero_le hg.1
        have hm : m ≤ 1099511627776 := by omega
        have hd1 : decide ((m : Int) < 0) = false := by simp
        have hd2 : decide ((1099511627776 : Int) < (m : Int)) = false := by simp; omega
        clear he hg
        go_wp2_with fail
        refine (one_own m _ hm _ rfl).mono ?_
        rintro e w1 ⟨v1, M1, rfl, ho1, hb1⟩
        have hl1 : (enc m).length ≤ 6 := enc_six hm
        have HO1 := Lib.hid ho1
        have HO0 := Lib.hid (own_below HO.out hb1)
        have HB1 := Lib.hid (HB.out.trans (hb1.mono hbase))
        have hbase1 : w.heap.size ≤ w1.heap.size := Nat.le_trans hbase hb1.size
        clear ho1 hb1 HO HB
        go_wp2_with (at_builtin; refine wpList_append_bytes rfl _ _ rfl w.heap.size _ M _ rfl HO0.out _ _ rfl (bsl_own HO1.out) ?c1 hbase1 ?_)
        case c1 => omega
        intro v' w2 hown hgrow
        have HB2 := Lib.hid (HB1.out.grown hgrow hbase1 (own_block HO0.out))
        rw [← List.map_append] at hown
        have hs := own_len hown
        rw [show numsL (zs.take k) ++ enc m = numsL (zs.take (k + 1)) by rw [HE.out, numsL_snoc]; rfl] at hown
        have HO2 := Lib.hid hown
        have hM2 : M + (enc m).length ≤ 6 * (k + 1) := by clear hs; omega
        clear hown hgrow HO0 HO1 HB1 hs
        go_wp2_with fail
        go_roundw
        case rel => exact ⟨k + 1, by omega, by go_num, HT, _, hM2, HO2.out, HB2.out⟩
        case measure => simp [intOf]; omega
    · obtain rfl : k = n := by omega
      have HA : Hid (zs.all numB = true) := by
        have := hto.out
        unfold NumsTo at this
        rwa [List.take_of_length_le (by rw [HN.out]; exact Nat.le_refl _)] at this
      go_wp2_with fail
      go_ret2
      refine ⟨u4, by rw [HA.out]; rfl, ?_, HB.out⟩
      unfold numsOf
      rw [HA.out]
      have := HO.out
      rw [List.take_of_length_le (by rw [HN.out]; exact Nat.le_refl _)] at this
      exact bsl_own this
theorem texts_one {bb : List UInt8} {ys zs : List ByteArray} {x : ByteArray} (hb : textsE (txtsL ys) ++ enc x.size = bb) (hz : zs = ys ++ [x]) : bb.map bv ++ Lib.strCells x = (textsE (txtsL zs)).map bv := by
  have := texts_step (bs := []) (bb := bb) (by rw [List.nil_append]; exact hb) hz
  rwa [List.nil_append] at this
set_option maxHeartbeats 1000000 in
theorem refTexts_own (A : Option Addr) (n c : Nat) (xs : List ByteArray) (w : World) (hx : Txt w A xs) (hN : xs.length = n) (hn : n ≤ 3000) (hs : ∀ x ∈ xs, x.size ≤ 3000) (ds : List UInt8) (hd : textsE (txtsL xs) = ds) :
    Calls Try.prog 22 #[.slice A n c] w fun e w' => OwnRet w.heap.size w ds e w' ∧ ds.length ≤ n * 3006 := by
  obtain ⟨i0, hi, hz0, hz1, hz2⟩ := info_parts infoU8
  have HX := Lib.hid hx
  have HN := Lib.hid hN
  have HS := Lib.hid hs
  have HD := Lib.hid hd
  clear hx hN hs hd
  go_enter Try.func22, Try.ntmps22
  go_wp2_with fail
  go_loopw [3, 4] (fun b i wr => ∃ k : Nat, k ≤ n ∧ i = .int .i64 k ∧ ∃ M, M ≤ k * 3006 ∧ wr.ownsRow w.heap.size 5 1 b M ((textsE (txtsL (xs.take k))).map bv) ∧ Below w.heap.size w wr) (fun _ i _ => n - (intOf i).toNat)
  case atStart => exact ⟨0, Nat.zero_le _, rfl, 0, Nat.zero_le _, own_lit0 w, below_lit w _⟩
  case round =>
    obtain ⟨k, hk, rfl, M, hM, ho, hbel⟩ := hrel
    have HO := Lib.hid ho
    have HB := Lib.hid hbel
    have hbase : w.heap.size ≤ wr.heap.size := hbel.size
    clear ho hbel
    by_cases hlt : k < n
    · have hx1 : k < xs.length := by rw [HN.out]; exact hlt
      obtain ⟨bk, o, rfl, hcell0⟩ := HX.out.at_ hx1
      have hln : (k : Int) < (n : Int) := by omega
      have HE := Lib.hid (take_snoc xs hx1)
      have hsz := HS.out _ (List.getElem_mem hx1)
      have hblt : bk < w.heap.size := txt_low HX.out ⟨bk, o, none⟩ rfl (by intro e; subst e; exact absurd hx1 (Nat.not_lt_zero _))
      have hcell := (HB.out.cell (p := ⟨bk, o + k, none⟩) hblt).trans hcell0
      generalize xs[k] = x at *
      go_wp2_with fail
      refine (one_own x.size _ (by omega) _ rfl).mono ?_
      rintro e w1 ⟨v1, M1, rfl, ho1, hb1⟩
      have hl1 : (enc x.size).length ≤ 6 := enc_six (by omega)
      have HO1 := Lib.hid ho1
      have HO0 := Lib.hid (own_below HO.out hb1)
      have HB1 := Lib.hid (HB.out.trans (hb1.mono hbase))
      have hbase1 : w.heap.size ≤ w1.heap.size := Nat.le_trans hbase hb1.size
      have hcell1 := (HB1.out.cell (p := ⟨bk, o + k, none⟩) hblt).trans hcell0
      clear ho1 hb1 HO HB
      go_wp2_with (at_builtin; refine wpList_append_bytes rfl _ _ rfl w.heap.size _ M _ rfl HO0.out _ _ rfl (bsl_own HO1.out) ?c1 hbase1 ?_)
      case c1 => omega
      intro v2 w2 hown hgrow
      have HB2 := Lib.hid (HB1.out.grown hgrow hbase1 (own_block HO0.out))
      have hbase2 : w.heap.size ≤ w2.heap.size := HB2.out.size
      obtain ⟨bb, hbb⟩ : ∃ bb, textsE (txtsL (xs.take k)) ++ enc x.size = bb := ⟨_, rfl⟩
      have HBB := Lib.hid hbb
      rw [← List.map_append, hbb] at hown
      have HO2 := Lib.hid hown
      have hM2 : M + (enc x.size).length + x.size ≤ 140737488355328 := by omega
      have hM3 : M + (enc x.size).length + x.size ≤ (k + 1) * 3006 := by omega
      have hcell2 := (HB2.out.cell (p := ⟨bk, o + k, none⟩) hblt).trans hcell0
      clear hcell0
      clear hown hgrow HO0 HO1 HB1 hbb
      generalize M + (enc x.size).length = M2 at *
      go_wp2_with (at_builtin; refine Lib.wpList_append_own_string _ rfl _ _ 24 9 rfl w.heap.size 5 i0 Try.underlying24 Try.underlying9 hi hz0 hz1 hz2 _ M2 _ rfl HO2.out x rfl ?c4 ?c5 ?c6 ?_)
      case c4 => unfold maxLen; omega
      case c5 => omega
      case c6 => exact hbase2
      intro v3 w3 ho3 hg3 _
      have HB3 := Lib.hid (HB2.out.grown hg3 hbase2 (own_block HO2.out))
      rw [texts_one HBB.out HE.out] at ho3
      have HO3 := Lib.hid ho3
      clear ho3 hg3 HO2 HB2
      go_wp2_with fail
      go_roundw
      case rel => exact ⟨k + 1, by omega, by go_num, M2 + x.size, hM3, HO3.out, HB3.out⟩
      case measure => simp [intOf]; omega
    · obtain rfl : k = n := by omega
      go_wp2_with fail
      go_ret
      have := HO.out
      rw [List.take_of_length_le (by rw [HN.out]; exact Nat.le_refl _), HD.out] at this
      exact ⟨⟨_, M, rfl, this, HB.out⟩, by rw [own_len this]; exact hM⟩

set_option maxHeartbeats 1000000 in
theorem refList_own (A : Option Addr) (n c : Nat) (xs : List ByteArray) (w : World) (hx : Txt w A xs) (hN : xs.length = n) (hn : n ≤ 3000) (hs : ∀ x ∈ xs, x.size ≤ 3000) (ds : List UInt8) (hd : enc n ++ textsE (txtsL xs) = ds) :
    Calls Try.prog 24 #[.slice A n c] w (OwnRet w.heap.size w ds) := by
  have HX := Lib.hid hx
  have HN := Lib.hid hN
  have HS := Lib.hid hs
  have HD := Lib.hid hd
  clear hx hN hs hd
  go_enter Try.func24, Try.ntmps24
  go_wp2_with fail
  refine (one_own n _ (by omega) _ rfl).mono ?_
  rintro e w1 ⟨v1, M1, rfl, ho1, hb1⟩
  have HO := Lib.hid ho1
  have HB := Lib.hid hb1
  have hM1 := own_len ho1
  have hl1 : (enc n).length ≤ 6 := enc_six (by omega)
  clear ho1 hb1
  go_wp2_with fail
  refine (refTexts_own A n c xs _ (HX.out.below HB.out) HN.out hn HS.out _ rfl).mono ?_
  rintro e w2 ⟨⟨v2, M2, rfl, ho2, hb2⟩, hl2⟩
  have HO2 := Lib.hid ho2
  have HO1 := Lib.hid (own_below HO.out hb2)
  have HB2 := Lib.hid (HB.out.trans (hb2.mono HB.out.size))
  have hbase2 : w.heap.size ≤ w2.heap.size := HB2.out.size
  clear ho2 hb2 HO HB
  go_wp2_with (at_builtin; refine wpList_append_bytes rfl _ _ rfl w.heap.size _ M1 _ rfl HO1.out _ _ rfl (bsl_own HO2.out) ?c1 hbase2 ?_)
  case c1 => omega
  intro v3 w3 hown hgrow
  have HB3 := Lib.hid (HB2.out.grown hgrow hbase2 (own_block HO1.out))
  rw [← List.map_append, HD.out] at hown
  have HO3 := Lib.hid hown
  clear hown hgrow HO1 HO2 HB2
  go_wp2_with fail
  go_ret
  exact ⟨v3, _, rfl, HO3.out, HB3.out⟩

end Go.Proofs.Ytgjjaalojelmhaa
