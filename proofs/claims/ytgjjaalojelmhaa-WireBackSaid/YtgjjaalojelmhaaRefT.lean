/-
  The contracts of the reference's functions Text and Take.
  Conditions: each contract's own.
-/
import Derived.Test.YtgjjaalojelmhaaRefR
namespace Go.Proofs.Ytgjjaalojelmhaa
open Go.RowKit
open Wire

theorem tout_none {bs : List UInt8} (h : ∀ v r, ¬ NumAt bs v r) : TextOut bs [] [] false := .inr ⟨rfl, fun s r => textAt_none h s r, rfl, rfl⟩
theorem tout_short {bs : List UInt8} {v : Nat} {r : List UInt8} (h : NumAt bs v r) (hv : r.length < v) : TextOut bs [] [] false := .inr ⟨rfl, fun s q ht => by
  have := ((textAt_num h s q).1 ht).1
  omega, rfl, rfl⟩
theorem tout_is {bs : List UInt8} {v : Nat} {r : List UInt8} (h : NumAt bs v r) (hv : v ≤ r.length) : TextOut bs (r.take v) (r.drop v) true := .inl ⟨rfl, (textAt_num h _ _).2 ⟨hv, rfl, rfl⟩⟩

set_option maxHeartbeats 1000000 in
theorem refText_any (S0 : Value) (bs : List UInt8) (w : World) (hS0 : BSl w S0 bs) (hn : bs.length ≤ 140737488355328) :
    Calls Try.prog 16 #[S0] w (TextRet w bs) := by
  have HS0 := Lib.hid hS0
  have HN := Lib.hid hn
  clear hS0 hn
  go_enter Try.func16, Try.ntmps16
  go_wp2_with fail
  refine (refNum_any S0 bs _ HS0.out HN.out).mono ?_
  rintro e w1 ⟨v, r, b, S, rfl, hno, hS, hb⟩
  have HB := Lib.hid hb
  clear hb
  rcases hno with ⟨rfl, hat⟩ | ⟨rfl, hno, rfl, rfl⟩
  · obtain ⟨A, n, c, rfl, hN, hc, hA, hx, hsp⟩ := hS
    have hv40 := hat.1
    have hr47 : n ≤ 140737488355328 := by
      have h1 := HN.out
      rw [hat.2, List.length_append] at h1
      omega
    by_cases hlt : n < v
    · have hd1 : decide ((n : Int) < (v : Int)) = true := by simp; omega
      have HR := Lib.hid (tout_short hat (by rw [hN]; exact hlt))
      clear hat hx hN hsp hA
      go_wp2_with fail
      go_ret3
      exact ⟨[], [], false, _, rfl, HR.out, bso_nil _ _, HB.out⟩
    · have hd1 : decide ((n : Int) < (v : Int)) = false := by simp; omega
      have HR := Lib.hid (tout_is hat (by rw [hN]; omega))
      have HX := Lib.hid hx
      have HNR := Lib.hid hN
      clear hat hx hN
      cases A with
      | none =>
        obtain rfl := hA rfl
        obtain rfl : n = 0 := by omega
        obtain rfl : v = 0 := by omega
        clear hA hsp
        have hcv : ∀ q, (convert 24 9 (.slice none 0 0)).run Try.prog (w1.drewN q) = .ok (.string ByteArray.empty) (w1.drewN q) := fun q => run_text_nil
        have hr0 : r = [] := List.length_eq_zero_iff.1 HNR.out
        subst hr0
        go_wp2_with fail
        go_quiet (fail)
        go_wp2_with fail
        go_ret3
        exact ⟨[], [], true, _, rfl, HR.out, bso_nil _ _, HB.out.trans ((quietBelow w1 _).mono HB.out.size)⟩
      | some ad =>
        obtain ⟨bk, o, hbo, hbk⟩ := hsp _ rfl
        cases hbo
        clear hA hsp
        have hcv : ∀ q, (convert 24 9 (.slice (some ⟨bk, o, none⟩) v c)).run Try.prog (w1.drewN q) = .ok (.string (ofL (r.take v))) (w1.drewN q) := fun q => run_text_of ((HX.out.below (quietBelow w1 q)).take v) (by rw [List.length_take, HNR.out]; omega)
        have hv0 : (0 : Int) ≤ (v : Int) := by omega
        have hvn : (v : Int) ≤ (c : Int) := by omega
        have hvm : (v : Int) ≤ (n : Int) := by omega
        by_cases hca : c = v
        · obtain rfl : n = c := by omega
          obtain rfl : n = v := by omega
          go_wp2_with fail
          go_quiet (fail)
          go_wp2_with fail
          go_ret3
          have hbq := quietBelow w1 nq
          refine ⟨r.take n, r.drop n, true, _, rfl, HR.out, ?_, HB.out.trans (hbq.mono HB.out.size)⟩
          rw [List.drop_of_length_le (by rw [HNR.out]; exact Nat.le_refl _)]
          exact ⟨_, 0, 0, rfl, rfl, Nat.le_refl _, (fun e => by cases e), byt_nil _ _, fun ad h => by cases h; exact ⟨bk, o, rfl, hbk⟩⟩
        · go_wp2_with fail
          go_quiet (fail)
          go_wp2_with fail
          go_ret3
          have hbq := quietBelow w1 nq
          exact ⟨r.take v, r.drop v, true, _, rfl, HR.out, ⟨_, _, _, rfl, by rw [List.length_drop, HNR.out], by omega, (fun e => by cases e), (HX.out.below hbq).drop v, fun ad h => by cases h; exact ⟨bk, _, rfl, hbk⟩⟩, HB.out.trans (hbq.mono HB.out.size)⟩
  · have HR := Lib.hid (tout_none hno)
    clear hno
    go_wp2_with fail
    go_ret3
    exact ⟨[], [], false, _, rfl, HR.out, bso_nil _ _, HB.out⟩
theorem txt_own0 (w : World) : (w.alloc (.cells #[] 9)).ownsRow w.heap.size 9 1 (.slice (some ⟨w.heap.size, 0, none⟩) 0 0) 0 (([] : List ByteArray).map Value.string) := World.ownsRow_lit w #[] 0 (Nat.le_refl _) (by unfold maxLen; omega) rfl
theorem textAt_len {b s r : List UInt8} (h : TextAt b s r) : r.length + 1 ≤ b.length := by
  have := enc_pos s.length
  rw [h.2, List.length_append, List.length_append]
  omega
set_option maxHeartbeats 1000000 in
theorem refTake_any (S0 : Value) (bs : List UInt8) (most : Int) (w : World) (hS0 : BSl w S0 bs) (hn : bs.length ≤ 5000000) :
    Calls Try.prog 18 #[S0, .int .i64 most] w (TakeRet w bs most) := by
  obtain ⟨i0, hi, hz0, hz1, hz2⟩ := info_parts infoStr
  have HS0 := Lib.hid hS0
  have HN := Lib.hid hn
  clear hS0 hn
  go_enter Try.func18, Try.ntmps18
  go_wp2_with fail
  refine (refNum_any S0 bs _ HS0.out (by have := HN.out; omega)).mono ?_
  rintro e w1 ⟨v, r, b, S, rfl, hno, hS, hb⟩
  have HB := Lib.hid hb
  clear hb
  rcases hno with ⟨rfl, hat⟩ | ⟨rfl, hno, rfl, rfl⟩
  · have H1 := Lib.hid hat
    have HS := Lib.hid hS.bsl
    have HRL : Hid (r.length ≤ 5000000) := by
      have h1 := HN.out
      rw [hat.2, List.length_append] at h1
      have : r.length ≤ 5000000 := by omega
      exact this
    have hv40 := hat.1
    by_cases hm : most < (v : Int)
    · have hd1 : decide (most < (v : Int)) = true := by simp; omega
      have HR : Hid (TakeOut bs most [] [] false) := take_many hat hm
      clear hat hS
      go_wp2_with fail
      go_ret3
      exact ⟨[], [], false, _, _, rfl, HR.out, tsl_nil _, bsl_nil _, HB.out⟩
    · have hd1 : decide (most < (v : Int)) = false := by simp; omega
      clear hat hS
      go_wp2_with fail
      have HBA := Lib.hid (HB.out.alloc HB.out.size (.cells #[] 9))
      have HSA := Lib.hid (HS.out.below (below_lit w1 (.cells #[] 9)))
      have HOA := Lib.hid (txt_own0 w1)
      have hbase1 : w1.heap.size ≤ (w1.alloc (.cells #[] 9)).heap.size := by simp
      have hw1 : w.heap.size ≤ w1.heap.size := HB.out.size
      generalize w1.alloc (.cells #[] 9) = wa at *
      generalize (Value.slice (some ⟨w1.heap.size, 0, none⟩) 0 0) = out0 at *
      go_loopw [8, 10, 11] (fun rs lst i wr => ∃ k : Nat, i = .int .i64 k ∧ k ≤ v ∧ ∃ l M r', l.length = k ∧ k + r'.length ≤ 5000000 ∧ Hid (TextsAt r l r') ∧ BSl wr rs r' ∧ wr.ownsRow w1.heap.size 9 1 lst M ((l.map ofL).map Value.string) ∧ Below w.heap.size w wr ∧ w1.heap.size ≤ wr.heap.size) (fun _ _ i _ => v - (intOf i).toNat)
      case atStart => exact ⟨0, rfl, Nat.zero_le _, [], 0, r, rfl, by have := HRL.out; omega, ⟨fun s hs => by simp at hs, by simp [textsE]⟩, HSA.out, HOA.out, HBA.out, hbase1⟩
      case round =>
        obtain ⟨k, rfl, hk, l, M, r', hlk, hkr, hta, hrs, ho, hbel, hbase⟩ := hrel
        have HO := Lib.hid ho
        have HBW := Lib.hid hbel
        have HRS := Lib.hid hrs
        have hMk : M = k := by
          have := ho.1
          simp at this
          omega
        have HLK := Lib.hid hlk
        clear ho hbel hlk hrs
        subst hMk
        by_cases hlt : M < v
        · have hln : (M : Int) < (v : Int) := by omega
          go_wp2_with fail
          refine (refText_any _ r' wr HRS.out (by omega)).mono ?_
          rintro e w2 ⟨s, q, b2, S2, rfl, hto, hS2, hb2⟩
          have HB2 := Lib.hid hb2
          have HB3 := Lib.hid (HBW.out.trans (hb2.mono HBW.out.size))
          have hbase2 : w1.heap.size ≤ w2.heap.size := Nat.le_trans hbase hb2.size
          have HO2 := Lib.hid (own_below HO.out hb2)
          clear hb2
          rcases hto with ⟨rfl, htx⟩ | ⟨rfl, hno, rfl, rfl⟩
          · have HTA : Hid (TextsAt r (l ++ [s]) q) := textsAt_next hta.out htx
            have hq := textAt_len htx
            have HS2 := Lib.hid hS2
            clear htx hS2
            go_wp2_with (at_builtin; refine wpList_append_own _ rfl _ _ 23 rfl w1.heap.size 9 i0 (.string ByteArray.empty) 1 16 Try.underlying23 hi hz0 hz1 hz2 rfl (by decide) _ M ((l.map ofL).map Value.string) rfl (own_alloc HO2.out _) _ 1 1 [_] rfl rfl (cell_one_new _ _ _) (str_oneCell _) ?c4 ?c5 ?c6 ?_)
            case c4 => unfold maxLen; omega
            case c5 => omega
            case c6 => simp; omega
            intro v' w3 hown hgrow _
            have HG := Lib.hid (below_lay (Below.refl w1.heap.size w2) hbase2 HO2.out hgrow)
            have HS3 := Lib.hid (HS2.out.grown HO.out hgrow)
            have HO3 : Hid (w3.ownsRow w1.heap.size 9 1 v' (M + 1) (((l ++ [s]).map ofL).map Value.string)) := by
              show w3.ownsRow w1.heap.size 9 1 v' (M + 1) (((l ++ [s]).map ofL).map Value.string)
              rw [List.map_append, List.map_append, List.map_map]
              exact hown
            have HLK2 : Hid ((l ++ [s]).length = M + 1) := by rw [List.length_append, HLK.out]; rfl
            have HB4 := Lib.hid (HB3.out.trans (HG.out.mono hw1))
            have hbase3 : w1.heap.size ≤ w3.heap.size := Nat.le_trans hbase2 HG.out.size
            have hq2 : M + 1 + q.length ≤ 5000000 := by omega
            clear hown hgrow HO HO2 HS2 HG HB2 HB3 HBW HRS
            go_wp2
            go_roundw
            case rel => exact ⟨M + 1, by go_num, by omega, _, _, q, HLK2.out, hq2, HTA, HS3.out, HO3.out, HB4.out, hbase3⟩
            case measure => simp [intOf]; omega
          · have HR : Hid (TakeOut bs most [] [] false) := take_stop H1.out hta.out (by rw [HLK.out]; exact hlt) hno
            clear hno hS2
            go_wp2_with fail
            go_ret3
            exact ⟨[], [], false, _, _, rfl, HR.out, tsl_nil _, bsl_nil _, HB3.out⟩
        · obtain rfl : M = v := by omega
          have HR : Hid (TakeOut bs most l r' true) := take_all H1.out hta.out HLK.out (by omega)
          go_wp2_with fail
          go_ret3
          exact ⟨l, r', true, _, _, rfl, HR.out, tsl_own HO.out, HRS.out, HBW.out⟩
  · have HR : Hid (TakeOut bs most [] [] false) := take_none most hno
    clear hno
    go_wp2_with fail
    go_ret3
    exact ⟨[], [], false, _, _, rfl, HR.out, tsl_nil _, bsl_nil _, HB.out⟩
end Go.Proofs.Ytgjjaalojelmhaa
