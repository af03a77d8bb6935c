/-
  The contracts of package wire's functions Nums, appendTexts, Texts and List.
  Conditions: each contract's own.
-/
import Derived.Test.YtgjjaalojelmhaaNumber
import Derived.Test.YtgjjaalojelmhaaInts
import Derived.Lib.Strings
namespace Go.Proofs.Ytgjjaalojelmhaa
open Go.RowKit
open Wire

def numB (z : Int) : Bool := decide (0 ≤ z ∧ z ≤ 1099511627776)
/-- The bytes of numbers; of rows in which one is none, nothing. -/
def numsL (zs : List Int) : List UInt8 := zs.flatMap fun z => enc z.toNat
def numsOf (zs : List Int) : List UInt8 := if zs.all numB then numsL zs else []
theorem numsL_snoc (zs : List Int) (z : Int) : numsL (zs ++ [z]) = numsL zs ++ enc z.toNat := by simp [numsL]
theorem numB_yes {z : Int} (h : numB z = true) : 0 ≤ z ∧ z ≤ 1099511627776 := of_decide_eq_true h
theorem numB_no {z : Int} (h : numB z = false) : z < 0 ∨ 1099511627776 < z := by
  have := of_decide_eq_false h
  omega
theorem all_no {zs : List Int} {k : Nat} (hk : k < zs.length) (h : numB zs[k] = false) : zs.all numB = false := by
  rw [List.all_eq_false]
  exact ⟨_, List.getElem_mem hk, by rw [h]; simp⟩
/-- So far as k all are numbers. -/
def NumsTo (zs : List Int) (k : Nat) : Prop := (zs.take k).all numB = true
theorem NumsTo.zero (zs : List Int) : NumsTo zs 0 := rfl
theorem NumsTo.succ {zs : List Int} {k : Nat} (h : NumsTo zs k) (hk : k < zs.length) (e : numB zs[k] = true) : NumsTo zs (k + 1) := by
  unfold NumsTo at *
  rw [List.take_add_one, List.getElem?_eq_getElem hk, List.all_append, h]
  simpa using e
set_option maxHeartbeats 1000000 in
theorem nums_any (A : Option Addr) (n c : Nat) (zs : List Int) (w : World) (hx : Nts w A zs) (hN : zs.length = n) (hn : n ≤ 200) :
    Calls Try.prog 11 #[.slice A n c] w (OwnTup w (numsOf zs) (zs.all numB)) := by
  have HX := Lib.hid hx
  have HN := Lib.hid hN
  clear hx hN
  go_enter Try.func11, Try.ntmps11
  go_wp2_with fail
  go_loopw [4, 9] (fun b i wr => ∃ k : Nat, k ≤ n ∧ i = .int .i64 k ∧ Hid (NumsTo zs k) ∧ ∃ M, M ≤ 6 * k ∧ wr.ownsRow w.heap.size 5 1 b M ((numsL (zs.take k)).map bv) ∧ Below w.heap.size w wr) (fun _ i _ => n - (intOf i).toNat)
  case atStart => exact ⟨0, Nat.zero_le _, rfl, NumsTo.zero _, 0, Nat.zero_le _, World.ownsRow_nil _ _ _ _, Below.refl _ _⟩
  case round =>
    obtain ⟨k, hk, rfl, hto, M, hM, ho, hbel⟩ := hrel
    have HO := Lib.hid ho
    have HB := Lib.hid hbel
    have hbase : w.heap.size ≤ wr.heap.size := hbel.size
    clear ho hbel
    by_cases hlt : k < n
    · have hx1 : k < zs.length := by rw [HN.out]; exact hlt
      obtain ⟨bk, o, rfl, hb, hcell0⟩ := HX.out.at_ hx1
      have hcell := (HB.out.cell (p := ⟨bk, o + k, none⟩) hb).trans hcell0
      have hln : (k : Int) < (n : Int) := by omega
      cases he : numB zs[k]
      · have HA := Lib.hid (all_no hx1 he)
        have hbad := numB_no he
        clear hcell0
        generalize zs[k] = z at *
        go_wp2_with (go_at_call 19; refine (size_no z _ hbad).mono ?_; rintro e w1 ⟨rfl, rfl⟩)
        go_ret2
        refine ⟨.slice none 0 0, 0, ?_, ?_, HB.out⟩
        · rw [HA.out]; rfl
        · unfold numsOf
          rw [HA.out]
          exact World.ownsRow_nil _ _ _ _
      · have HT : Hid (NumsTo zs (k + 1)) := hto.out.succ hx1 he
        have HE := Lib.hid (take_snoc zs hx1)
        have hg := numB_yes he
        clear hcell0
        generalize zs[k] = z at *
        obtain ⟨m, rfl⟩ := Int.eq_ofNat_of_zero_le hg.1
        have hm : m ≤ 1099511627776 := by omega
        obtain ⟨L, hL⟩ : ∃ L, (enc m).length = L := ⟨_, rfl⟩
        have hL6 : L ≤ 6 := by rw [← hL]; exact enc_six hm
        have hL1 : 0 < L := by rw [← hL]; exact enc_pos m
        have HL := Lib.hid hL
        have h0 : decide ((L : Int) = 0) = false := by simp; omega
        clear hL he hg
        go_wp2_with (go_at_call 19; refine (size_num m _ hm L HL.out).mono ?_; rintro e w1 ⟨rfl, rfl⟩)
        refine (appendNumber_own w.heap.size _ M _ _ m _ HO.out hbase hm (by omega) rfl).mono ?_
        rintro e w1 ⟨v', M', rfl, ho', hb'⟩
        have HB' := Lib.hid (HB.out.trans hb')
        have hM' : M' ≤ 6 * (k + 1) := by
          have h1 := own_len ho'
          have h2 := own_len HO.out
          rw [List.length_append, h2, HL.out] at h1
          omega
        rw [show numsL (zs.take k) ++ enc m = numsL (zs.take (k + 1)) by rw [HE.out, numsL_snoc]; rfl] at ho'
        have HO' := Lib.hid ho'
        clear ho' hb' HO HB
        go_wp2_with fail
        go_roundw
        case rel => exact ⟨k + 1, by omega, by go_num, HT, M', hM', HO'.out, HB'.out⟩
        case measure => simp [intOf]; omega
    · obtain rfl : k = n := by omega
      have HA : Hid (zs.all numB = true) := by
        have := hto.out
        unfold NumsTo at this
        rwa [List.take_of_length_le (by rw [HN.out]; exact Nat.le_refl _)] at this
      go_wp2_with fail
      go_ret2
      refine ⟨u4, M, ?_, ?_, HB.out⟩
      · rw [HA.out]
        rfl
      · unfold numsOf
        rw [HA.out]
        have := HO.out
        rwa [List.take_of_length_le (by rw [HN.out]; exact Nat.le_refl _)] at this

theorem txt_low {w : World} {A : Option Addr} {xs : List ByteArray} (h : Txt w A xs) : ∀ a, A = some a → xs ≠ [] → a.block < w.heap.size := by
  intro a ha hne
  obtain ⟨b, o, e, hlt, _⟩ := h hne
  rw [ha] at e
  cases e
  exact hlt
/-- Texts as lists of bytes. -/
def txtsL (xs : List ByteArray) : List (List UInt8) := xs.map (·.data.toList)
theorem strCells_bv (x : ByteArray) : Lib.strCells x = x.data.toList.map bv := rfl
theorem texts_step {bs bb : List UInt8} {ys zs : List ByteArray} {x : ByteArray} (hb : bs ++ textsE (txtsL ys) ++ enc x.size = bb) (hz : zs = ys ++ [x]) : bb.map bv ++ Lib.strCells x = (bs ++ textsE (txtsL zs)).map bv := by
  subst hz; subst hb
  have e : txtsL (ys ++ [x]) = txtsL ys ++ [x.data.toList] := by simp [txtsL]
  rw [strCells_bv, e, textsE_snoc, ← Lib.size_eq, ← List.map_append]
  simp only [List.append_assoc]

set_option maxHeartbeats 1000000 in
theorem appendTexts_own (base : Nat) (v : Value) (m : Nat) (bs ds : List UInt8) (A : Option Addr) (n c : Nat) (xs : List ByteArray) (w : World) (hown : w.ownsRow base 5 1 v m (bs.map bv)) (hb : base ≤ w.heap.size) (hm : m ≤ 1000)
    (hx : Txt w A xs) (hlow : ∀ a, A = some a → xs ≠ [] → a.block < base) (hN : xs.length = n) (hn : n ≤ 3000) (hs : ∀ x ∈ xs, x.size ≤ 3000) (hd : bs ++ textsE (txtsL xs) = ds) :
    Calls Try.prog 32 #[v, .slice A n c] w (OwnRet base w ds) := by
  obtain ⟨i0, hi, hz0, hz1, hz2⟩ := info_parts infoU8
  have HX := Lib.hid hx
  have HN := Lib.hid hN
  have HO := Lib.hid hown
  have HS := Lib.hid hs
  have HD := Lib.hid hd
  have HLW := Lib.hid hlow
  clear hx hN hown hs hd hlow
  go_enter Try.func32, Try.ntmps32
  go_wp2_with fail
  go_loopw [0, 9] (fun b i wr => ∃ k : Nat, k ≤ n ∧ i = .int .i64 k ∧ ∃ M, M ≤ 1000 + k * 3006 ∧ wr.ownsRow base 5 1 b M ((bs ++ textsE (txtsL (xs.take k))).map bv) ∧ Below base w wr) (fun _ i _ => n - (intOf i).toNat)
  case atStart => exact ⟨0, Nat.zero_le _, rfl, m, by omega, by simpa [txtsL, textsE] using HO.out, Below.refl _ _⟩
  case round =>
    obtain ⟨k, hk, rfl, M, hM, ho, hbel⟩ := hrel
    have HO1 := Lib.hid ho
    have HB := Lib.hid hbel
    have hbase : base ≤ wr.heap.size := Nat.le_trans hb hbel.size
    clear ho hbel
    by_cases hlt : k < n
    · have hx1 : k < xs.length := by rw [HN.out]; exact hlt
      obtain ⟨bk, o, rfl, hcell0⟩ := HX.out.at_ hx1
      have hcell := (HB.out.cell (p := ⟨bk, o + k, none⟩) (HLW.out ⟨bk, o, none⟩ rfl (by intro e; subst e; exact absurd hx1 (Nat.not_lt_zero _)))).trans hcell0
      have hln : (k : Int) < (n : Int) := by omega
      have HE := Lib.hid (take_snoc xs hx1)
      have hsz := HS.out _ (List.getElem_mem hx1)
      clear hcell0
      generalize xs[k] = x at *
      go_wp2_with fail
      refine (appendNumber_own base _ M _ _ x.size _ HO1.out hbase (by omega) (by omega) rfl).mono ?_
      rintro e w1 ⟨v1, M1, rfl, ho1, hb1⟩
      have HB1 := Lib.hid (HB.out.trans hb1)
      obtain ⟨bb, hbb⟩ : ∃ bb, bs ++ textsE (txtsL (xs.take k)) ++ enc x.size = bb := ⟨_, rfl⟩
      have HBB := Lib.hid hbb
      have hbase1 : base ≤ w1.heap.size := Nat.le_trans hbase hb1.size
      have hM1 : M1 ≤ M + 6 := by
        have h1 := own_len ho1
        have h2 := own_len HO1.out
        have h3 := enc_six (n := x.size) (by omega)
        rw [List.length_append, h2] at h1
        omega
      have hM2 : M1 + x.size ≤ 1000 + (k + 1) * 3006 := by clear HX HLW; omega
      rw [hbb] at ho1
      have HO2 := Lib.hid ho1
      have hl : M1 + x.size ≤ 140737488355328 := by omega
      clear ho1 hb1 HO1 HB hbb
      go_wp2_with (at_builtin; refine Lib.wpList_append_own_string _ rfl _ _ 24 9 rfl base 5 i0 Try.underlying24 Try.underlying9 hi hz0 hz1 hz2 _ M1 _ rfl HO2.out x rfl ?c4 ?c5 ?c6 ?_)
      case c4 => unfold maxLen; omega
      case c5 => omega
      case c6 => exact hbase1
      intro v2 w2 ho2 hg2 _
      have HB2 := Lib.hid (HB1.out.grown hg2 hbase1 (own_block HO2.out))
      rw [texts_step HBB.out HE.out] at ho2
      have HO3 := Lib.hid ho2
      clear ho2 hg2 HO2 HB1
      go_wp2_with fail
      go_roundw
      case rel => exact ⟨k + 1, by omega, by go_num, M1 + x.size, hM2, HO3.out, HB2.out⟩
      case measure => simp [intOf]; omega
    · obtain rfl : k = n := by omega
      go_wp2_with fail
      go_ret
      refine ⟨_, M, rfl, ?_, HB.out⟩
      have := HO1.out
      rwa [List.take_of_length_le (by rw [HN.out]; exact Nat.le_refl _), HD.out] at this

theorem texts_own (A : Option Addr) (n c : Nat) (xs : List ByteArray) (w : World) (hx : Txt w A xs) (hN : xs.length = n) (hn : n ≤ 3000) (hs : ∀ x ∈ xs, x.size ≤ 3000) (ds : List UInt8) (hd : textsE (txtsL xs) = ds) :
    Calls Try.prog 21 #[.slice A n c] w (OwnRet w.heap.size w ds) := by
  have HX := Lib.hid hx
  have HN := Lib.hid hN
  have HS := Lib.hid hs
  have HD := Lib.hid hd
  clear hx hN hs hd
  go_enter Try.func21, Try.ntmps21
  go_wp2_with fail
  refine (appendTexts_own w.heap.size _ 0 [] ds A n c xs _ (World.ownsRow_nil _ _ _ _) (Nat.le_refl _) (by omega) HX.out (txt_low HX.out) HN.out hn HS.out HD.out).mono ?_
  rintro e w1 ⟨v1, M1, rfl, ho1, hb1⟩
  have HO := Lib.hid ho1
  have HB := Lib.hid hb1
  clear ho1 hb1
  go_wp2_with fail
  go_ret
  exact ⟨v1, M1, rfl, HO.out, HB.out⟩
theorem list_own (A : Option Addr) (n c : Nat) (xs : List ByteArray) (w : World) (hx : Txt w A xs) (hN : xs.length = n) (hn : n ≤ 3000) (hs : ∀ x ∈ xs, x.size ≤ 3000) (ds : List UInt8) (hd : enc n ++ textsE (txtsL xs) = ds) :
    Calls Try.prog 23 #[.slice A n c] w (OwnRet w.heap.size w ds) := by
  have HX := Lib.hid hx
  have HN := Lib.hid hN
  have HS := Lib.hid hs
  have HD := Lib.hid hd
  clear hx hN hs hd
  go_enter Try.func23, Try.ntmps23
  go_wp2_with fail
  refine (appendNumber_own w.heap.size _ 0 [] (enc n) n _ (World.ownsRow_nil _ _ _ _) (Nat.le_refl _) (by omega) (by omega) rfl).mono ?_
  rintro e w1 ⟨v1, M1, rfl, ho1, hb1⟩
  have hM : M1 ≤ 1000 := by
    have h1 := own_len ho1
    have := enc_six (n := n) (by omega)
    omega
  have HO := Lib.hid ho1
  have HB := Lib.hid hb1
  have hbase : w.heap.size ≤ w1.heap.size := hb1.size
  clear ho1 hb1
  go_wp2_with fail
  refine (appendTexts_own w.heap.size _ M1 (enc n) ds A n c xs _ HO.out hbase hM (HX.out.below HB.out) (txt_low HX.out) HN.out hn HS.out HD.out).mono ?_
  rintro e w2 ⟨v2, M2, rfl, ho2, hb2⟩
  have HO2 := Lib.hid ho2
  have HB2 := Lib.hid (HB.out.trans hb2)
  clear ho2 hb2
  go_wp2_with fail
  go_ret
  exact ⟨v2, M2, rfl, HO2.out, HB2.out⟩
end Go.Proofs.Ytgjjaalojelmhaa
