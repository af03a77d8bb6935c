/-
  The law WireAnswers, walked: whatever numbers, texts and bytes come in, it returns true, and nothing that was there turns.
  Conditions: what comes in lies in memory as told by 'NSl', 'TSl', 'BSl'; each has at most 2^47 bytes.
-/
import Derived.Test.YtgjjaalojelmhaaBackWalk
namespace Go.Proofs.Ytgjjaalojelmhaa
open Go.RowKit
open Wire

theorem nout_len {bs r : List UInt8} {v : Nat} {b : Bool} (h : NumOut bs v r b) : r.length ≤ bs.length := by
  rcases h with ⟨_, h⟩ | ⟨_, _, _, h⟩
  · rw [h.2, List.length_append]; omega
  · rw [h]; exact Nat.zero_le _
theorem tout_len {bs s r : List UInt8} {b : Bool} (h : TextOut bs s r b) : r.length ≤ bs.length := by
  rcases h with ⟨_, h⟩ | ⟨_, _, _, h⟩
  · rw [h.2, List.length_append, List.length_append]; omega
  · rw [h]; exact Nat.zero_le _
theorem textsE_count (l : List (List UInt8)) : l.length ≤ (textsE l).length := by
  induction l with
  | nil => exact Nat.zero_le _
  | cons s l ih =>
    have := enc_pos s.length
    rw [textsE, List.length_append, List.length_append, List.length_cons]
    omega
theorem kout_len {bs r : List UInt8} {m : Int} {l : List (List UInt8)} {b : Bool} (h : TakeOut bs m l r b) : r.length ≤ bs.length ∧ l.length ≤ bs.length := by
  rcases h with ⟨_, h, _⟩ | ⟨_, _, h1, h2⟩
  · have := textsE_count l
    rw [h.2.2, List.length_append, List.length_append]
    omega
  · rw [h1, h2]; exact ⟨Nat.zero_le _, Nat.zero_le _⟩
theorem numsOf_le (zs : List Int) : (numsOf zs).length ≤ 6 * zs.length := by
  induction zs with
  | nil => exact Nat.zero_le _
  | cons z zs ih =>
    unfold numsOf at ih ⊢
    by_cases h : (z :: zs).all numB = true
    · rw [if_pos h]
      rw [List.all_cons, Bool.and_eq_true] at h
      rw [if_pos h.2] at ih
      have h1 := numB_yes h.1
      have h2 := enc_six (n := z.toNat) (by omega)
      show (enc z.toNat ++ numsL zs).length ≤ _
      rw [List.length_append, List.length_cons]
      omega
    · rw [if_neg h]; exact Nat.zero_le _

theorem numsOf_no' {z : Int} (h : numB z = false) : numsOf [z] = [] := by
  have h1 : [z].all numB = false := by simp [h]
  unfold numsOf
  rw [h1]
  rfl

set_option maxRecDepth 100000 in
set_option maxHeartbeats 4000000 in
theorem wireAnswers_any (Z V B : Value) (zs : List Int) (xs : List ByteArray) (bs : List UInt8) (most n0 : Int) (w : World) (hZ : NSl w Z zs) (hV : TSl w V xs) (hB : BSl w B bs) (hlz : zs.length ≤ 140737488355328) (hlx : xs.length ≤ 140737488355328) (hsx : ∀ x ∈ xs, x.size ≤ 140737488355328) (hlb : bs.length ≤ 140737488355328) :
    Calls Try.prog 3 #[Z, V, B, .int .i64 most, .int .i64 n0] w (Ret w (.bool true)) := by
  obtain ⟨A, N, c, e0, hN, hc, hA, hx⟩ := hZ
  have HZ := Lib.hid (show NSl w (.slice A N c) zs from ⟨A, N, c, rfl, hN, hc, hA, hx⟩)
  subst e0
  have HN := Lib.hid hN
  have hn : N ≤ 140737488355328 := by rw [← hN]; exact hlz
  have HV := Lib.hid hV
  have HBH := Lib.hid hB
  have HSX := Lib.hid hsx
  clear hx hN hA hB hV hsx hc hlz
  go_enter Try.func3, Try.ntmps3
  go_wp2_with fail
  refine (alive_any w).mono ?_
  rintro e W ⟨rfl, hb⟩
  have HB := Lib.hid hb
  clear hb
  go_wp2_with fail
  refine (great_any _ _ xs bs _ (HV.out.below HB.out) (HBH.out.below HB.out) hlx HSX.out hlb).mono ?_
  rintro e W ⟨⟨b, rfl, hsm⟩, rfl⟩
  have HSM := Lib.hid hsm
  clear hsm
  cases b
  · by_cases hbig : 200 < N
    · have hd : decide ((200 : Int) < (N : Int)) = true := by simp; omega
      go_wp2_with fail
      go_ret
      exact ⟨rfl, HB.out⟩
    · have hd : decide ((200 : Int) < (N : Int)) = false := by simp; omega
      obtain ⟨hl2, hs2, hb2⟩ := HSM.out rfl
      have HS2 : Hid (∀ x ∈ xs, x.size ≤ 3000) := fun x hx => Nat.le_trans (hs2 x hx) (by omega)
      have HL2 : Hid (xs.length ≤ 3000) := Nat.le_trans hl2 (by omega)
      have HTE : Hid ((textsE (txtsL xs)).length ≤ 4012000) := Nat.le_trans (textsE_len hs2) (by omega)
      have HB2 := Lib.hid hb2
      have HZL : Hid (zs.length ≤ 200) := by
        have : zs.length ≤ 200 := by rw [HN.out]; omega
        exact this
      obtain ⟨ys, hys⟩ : ∃ ys, numsOf zs = ys := ⟨_, rfl⟩
      obtain ⟨ok, hok⟩ : ∃ ok, zs.all numB = ok := ⟨_, rfl⟩
      have HYL : Hid (ys.length ≤ 140737488355328) := by
        have h1 := numsOf_le zs
        rw [hys] at h1
        have h2 := HZL.out
        have : ys.length ≤ 140737488355328 := by omega
        exact this
      have HYS := Lib.hid hys
      have HOK := Lib.hid hok
      obtain ⟨v, r, nb, hno⟩ := numOut_ex bs
      obtain ⟨s, q, tb, hto⟩ := textOut_ex bs
      obtain ⟨l, p, kb, hko⟩ := takeOut_ex bs most
      have HRL : Hid (r.length ≤ 140737488355328) := Nat.le_trans (nout_len hno) (by omega)
      have HQL : Hid (q.length ≤ 140737488355328) := Nat.le_trans (tout_len hto) (by omega)
      have HPL : Hid (p.length ≤ 140737488355328) := Nat.le_trans (kout_len hko).1 (by omega)
      have HLL : Hid ((l.map ofL).length ≤ 140737488355328) := by
        have h1 := (kout_len hko).2
        have : (l.map ofL).length ≤ 140737488355328 := by rw [List.length_map]; omega
        exact this
      have HNO := Lib.hid hno
      have HTO := Lib.hid hto
      have HKO := Lib.hid hko
      have HBL : Hid (bs.length ≤ 1000000) := Nat.le_trans hb2 (by omega)
      have HB5 : Hid (bs.length ≤ 5000000) := Nat.le_trans hb2 (by omega)
      have HB7 : Hid (bs.length ≤ 140737488355328) := hlb
      obtain ⟨dt, hdt⟩ : ∃ dt, textsE (txtsL xs) = dt := ⟨_, rfl⟩
      obtain ⟨dl, hdl⟩ : ∃ dl, enc xs.length ++ textsE (txtsL xs) = dl := ⟨_, rfl⟩
      have HDT := Lib.hid hdt
      have HDL := Lib.hid hdl
      have HDTL : Hid (dt.length ≤ 140737488355328) := by
        have h := HTE.out
        rw [hdt] at h
        exact Nat.le_trans h (by omega)
      have HDLL : Hid (dl.length ≤ 140737488355328) := by
        have h := HTE.out
        have h3 : (enc xs.length).length ≤ 6 := enc_six (by omega)
        have : dl.length ≤ 140737488355328 := by
          rw [← hdl, List.length_append]
          omega
        exact this
      clear hs2 hl2 hb2 hys hok hno hto hko hlx hlb hdt hdl HSM HSX HTE hbig
      go_wp2_with fail
      refine (copyBytes_own _ bs _ (HBH.out.below HB.out) HB7.out).mono ?_
      rintro e W ⟨O, MO, rfl, ho, hb⟩
      replace HB := Lib.hid (HB.out.trans (hb.mono HB.out.size))
      clear hb
      have HO := Lib.hid (bsl_own ho)
      clear ho
      go_wp2_with fail
      refine (nums_v _ zs _ (HZ.out.below HB.out) HZL.out ys ok HYS.out HOK.out).mono ?_
      rintro e W ⟨X, MX, rfl, ho, hb⟩
      replace HO := Lib.hid (HO.out.below hb)
      replace HB := Lib.hid (HB.out.trans (hb.mono HB.out.size))
      clear hb
      have HX := Lib.hid (bsl_own ho)
      clear ho
      go_wp2_with fail
      refine (refNums_v _ zs _ (HZ.out.below HB.out) HZL.out ys ok HYS.out HOK.out).mono ?_
      rintro e W ⟨Y, rfl, hs, hb⟩
      replace HO := Lib.hid (HO.out.below hb)
      replace HX := Lib.hid (HX.out.below hb)
      replace HB := Lib.hid (HB.out.trans (hb.mono HB.out.size))
      clear hb
      have HY := Lib.hid hs
      clear hs
      go_wp2_with fail
      refine (num_v _ bs _ HO.out HBL.out v r nb HNO.out).mono ?_
      rintro e W ⟨R1, rfl, hs, hb⟩
      replace HO := Lib.hid (HO.out.below hb)
      replace HX := Lib.hid (HX.out.below hb)
      replace HY := Lib.hid (HY.out.below hb)
      replace HB := Lib.hid (HB.out.trans (hb.mono HB.out.size))
      clear hb
      have HR1 := Lib.hid hs
      clear hs
      go_wp2_with fail
      refine (refNum_v _ bs _ (HBH.out.below HB.out) HBL.out v r nb HNO.out).mono ?_
      rintro e W ⟨R2, rfl, hs, hb⟩
      replace HO := Lib.hid (HO.out.below hb)
      replace HX := Lib.hid (HX.out.below hb)
      replace HY := Lib.hid (HY.out.below hb)
      replace HR1 := Lib.hid (HR1.out.below hb)
      replace HB := Lib.hid (HB.out.trans (hb.mono HB.out.size))
      clear hb
      have HR2 := Lib.hid hs
      clear hs
      go_wp2_with fail
      refine (text_v _ bs _ HO.out HBL.out s q tb HTO.out).mono ?_
      rintro e W ⟨T1, rfl, hs, hb⟩
      replace HO := Lib.hid (HO.out.below hb)
      replace HX := Lib.hid (HX.out.below hb)
      replace HY := Lib.hid (HY.out.below hb)
      replace HR1 := Lib.hid (HR1.out.below hb)
      replace HR2 := Lib.hid (HR2.out.below hb)
      replace HB := Lib.hid (HB.out.trans (hb.mono HB.out.size))
      clear hb
      have HT1 := Lib.hid hs
      clear hs
      go_wp2_with fail
      refine (refText_v _ bs _ (HBH.out.below HB.out) HBL.out s q tb HTO.out).mono ?_
      rintro e W ⟨T2, rfl, hs, hb⟩
      replace HO := Lib.hid (HO.out.below hb)
      replace HX := Lib.hid (HX.out.below hb)
      replace HY := Lib.hid (HY.out.below hb)
      replace HR1 := Lib.hid (HR1.out.below hb)
      replace HR2 := Lib.hid (HR2.out.below hb)
      replace HT1 := Lib.hid (HT1.out.below hb)
      replace HB := Lib.hid (HB.out.trans (hb.mono HB.out.size))
      clear hb
      have HT2 := Lib.hid hs
      clear hs
      go_wp2_with fail
      refine (take_v _ bs most _ HO.out HB5.out l p kb HKO.out).mono ?_
      rintro e W ⟨P1, E1, rfl, hp, hs, hb⟩
      replace HO := Lib.hid (HO.out.below hb)
      replace HX := Lib.hid (HX.out.below hb)
      replace HY := Lib.hid (HY.out.below hb)
      replace HR1 := Lib.hid (HR1.out.below hb)
      replace HR2 := Lib.hid (HR2.out.below hb)
      replace HT1 := Lib.hid (HT1.out.below hb)
      replace HT2 := Lib.hid (HT2.out.below hb)
      replace HB := Lib.hid (HB.out.trans (hb.mono HB.out.size))
      clear hb
      have HP1 := Lib.hid hp
      have HE1 := Lib.hid hs
      clear hp
      clear hs
      go_wp2_with fail
      refine (refTake_v _ bs most _ (HBH.out.below HB.out) HB5.out l p kb HKO.out).mono ?_
      rintro e W ⟨P2, E2, rfl, hp, hs, hb⟩
      replace HO := Lib.hid (HO.out.below hb)
      replace HX := Lib.hid (HX.out.below hb)
      replace HY := Lib.hid (HY.out.below hb)
      replace HR1 := Lib.hid (HR1.out.below hb)
      replace HR2 := Lib.hid (HR2.out.below hb)
      replace HT1 := Lib.hid (HT1.out.below hb)
      replace HT2 := Lib.hid (HT2.out.below hb)
      replace HP1 := Lib.hid (HP1.out.below hb)
      replace HE1 := Lib.hid (HE1.out.below hb)
      replace HB := Lib.hid (HB.out.trans (hb.mono HB.out.size))
      clear hb
      have HP2 := Lib.hid hp
      have HE2 := Lib.hid hs
      clear hp
      clear hs
      obtain ⟨us, hus⟩ : ∃ us, numsOf [n0] = us := ⟨_, rfl⟩
      obtain ⟨right, hright⟩ : ∃ right, numB n0 = right := ⟨_, rfl⟩
      have HUS := Lib.hid hus
      have HRIGHT := Lib.hid hright
      clear hus hright
      go_wp2_with fail
      refine (refNums_v _ [n0] _ (nsl_lit W [n0] 1 rfl _ rfl) (by simp) us right HUS.out (by simp [HRIGHT.out])).mono ?_
      rintro e W ⟨U, rfl, hs, hb⟩
      replace hb := below_from hb
      replace HO := Lib.hid (HO.out.below hb)
      replace HX := Lib.hid (HX.out.below hb)
      replace HY := Lib.hid (HY.out.below hb)
      replace HR1 := Lib.hid (HR1.out.below hb)
      replace HR2 := Lib.hid (HR2.out.below hb)
      replace HT1 := Lib.hid (HT1.out.below hb)
      replace HT2 := Lib.hid (HT2.out.below hb)
      replace HP1 := Lib.hid (HP1.out.below hb)
      replace HE1 := Lib.hid (HE1.out.below hb)
      replace HP2 := Lib.hid (HP2.out.below hb)
      replace HE2 := Lib.hid (HE2.out.below hb)
      replace HB := Lib.hid (HB.out.trans (hb.mono HB.out.size))
      clear hb
      have HU := Lib.hid hs
      clear hs
      obtain ⟨AU, LU, cU, rfl, hLU, _, _, _⟩ := HU.out
      have HLU := Lib.hid hLU
      clear hLU HU
      cases right
      · have hno := numB_no HRIGHT.out
        obtain rfl : us = [] := by rw [← HUS.out]; exact numsOf_no' HRIGHT.out
        obtain rfl : 0 = LU := HLU.out
        go_wp2_with fail
        refine (size_no n0 _ hno).mono ?_
        rintro e W ⟨rfl, rfl⟩
        clear HUS HRIGHT HLU
        go_wp2_with fail
        refine (sameBytes_b _ _ _ _ _ HX.out HY.out HYL.out true (decide_eq_true rfl)).mono ?_
        rintro e W ⟨rfl, hb⟩
        clear HX HY
        replace HO := Lib.hid (HO.out.below hb)
        replace HR1 := Lib.hid (HR1.out.below hb)
        replace HR2 := Lib.hid (HR2.out.below hb)
        replace HT1 := Lib.hid (HT1.out.below hb)
        replace HT2 := Lib.hid (HT2.out.below hb)
        replace HP1 := Lib.hid (HP1.out.below hb)
        replace HE1 := Lib.hid (HE1.out.below hb)
        replace HP2 := Lib.hid (HP2.out.below hb)
        replace HE2 := Lib.hid (HE2.out.below hb)
        replace HB := Lib.hid (HB.out.trans (hb.mono HB.out.size))
        clear hb
        go_wp2_with fail
        refine (texts_v _ xs _ (HV.out.below HB.out) HL2.out HS2.out dt HDT.out).mono ?_
        rintro e W ⟨D1, M1, rfl, ho, hb⟩
        replace HO := Lib.hid (HO.out.below hb)
        replace HR1 := Lib.hid (HR1.out.below hb)
        replace HR2 := Lib.hid (HR2.out.below hb)
        replace HT1 := Lib.hid (HT1.out.below hb)
        replace HT2 := Lib.hid (HT2.out.below hb)
        replace HP1 := Lib.hid (HP1.out.below hb)
        replace HE1 := Lib.hid (HE1.out.below hb)
        replace HP2 := Lib.hid (HP2.out.below hb)
        replace HE2 := Lib.hid (HE2.out.below hb)
        replace HB := Lib.hid (HB.out.trans (hb.mono HB.out.size))
        clear hb
        have HD1 := Lib.hid (bsl_own ho)
        clear ho
        go_wp2_with fail
        refine (refTexts_v _ xs _ (HV.out.below HB.out) HL2.out HS2.out dt HDT.out).mono ?_
        rintro e W ⟨D2, M2, rfl, ho, hb⟩
        replace HO := Lib.hid (HO.out.below hb)
        replace HR1 := Lib.hid (HR1.out.below hb)
        replace HR2 := Lib.hid (HR2.out.below hb)
        replace HT1 := Lib.hid (HT1.out.below hb)
        replace HT2 := Lib.hid (HT2.out.below hb)
        replace HP1 := Lib.hid (HP1.out.below hb)
        replace HE1 := Lib.hid (HE1.out.below hb)
        replace HP2 := Lib.hid (HP2.out.below hb)
        replace HE2 := Lib.hid (HE2.out.below hb)
        replace HD1 := Lib.hid (HD1.out.below hb)
        replace HB := Lib.hid (HB.out.trans (hb.mono HB.out.size))
        clear hb
        have HD2 := Lib.hid (bsl_own ho)
        clear ho
        go_wp2_with fail
        refine (sameBytes_b _ _ _ _ _ HD1.out HD2.out HDTL.out true (decide_eq_true rfl)).mono ?_
        rintro e W ⟨rfl, hb⟩
        clear HD1 HD2
        replace HO := Lib.hid (HO.out.below hb)
        replace HR1 := Lib.hid (HR1.out.below hb)
        replace HR2 := Lib.hid (HR2.out.below hb)
        replace HT1 := Lib.hid (HT1.out.below hb)
        replace HT2 := Lib.hid (HT2.out.below hb)
        replace HP1 := Lib.hid (HP1.out.below hb)
        replace HE1 := Lib.hid (HE1.out.below hb)
        replace HP2 := Lib.hid (HP2.out.below hb)
        replace HE2 := Lib.hid (HE2.out.below hb)
        replace HB := Lib.hid (HB.out.trans (hb.mono HB.out.size))
        clear hb
        go_wp2_with fail
        refine (list_v _ xs _ (HV.out.below HB.out) HL2.out HS2.out dl HDL.out).mono ?_
        rintro e W ⟨D1, M1, rfl, ho, hb⟩
        replace HO := Lib.hid (HO.out.below hb)
        replace HR1 := Lib.hid (HR1.out.below hb)
        replace HR2 := Lib.hid (HR2.out.below hb)
        replace HT1 := Lib.hid (HT1.out.below hb)
        replace HT2 := Lib.hid (HT2.out.below hb)
        replace HP1 := Lib.hid (HP1.out.below hb)
        replace HE1 := Lib.hid (HE1.out.below hb)
        replace HP2 := Lib.hid (HP2.out.below hb)
        replace HE2 := Lib.hid (HE2.out.below hb)
        replace HB := Lib.hid (HB.out.trans (hb.mono HB.out.size))
        clear hb
        have HD1 := Lib.hid (bsl_own ho)
        clear ho
        go_wp2_with fail
        refine (refList_v _ xs _ (HV.out.below HB.out) HL2.out HS2.out dl HDL.out).mono ?_
        rintro e W ⟨D2, M2, rfl, ho, hb⟩
        replace HO := Lib.hid (HO.out.below hb)
        replace HR1 := Lib.hid (HR1.out.below hb)
        replace HR2 := Lib.hid (HR2.out.below hb)
        replace HT1 := Lib.hid (HT1.out.below hb)
        replace HT2 := Lib.hid (HT2.out.below hb)
        replace HP1 := Lib.hid (HP1.out.below hb)
        replace HE1 := Lib.hid (HE1.out.below hb)
        replace HP2 := Lib.hid (HP2.out.below hb)
        replace HE2 := Lib.hid (HE2.out.below hb)
        replace HD1 := Lib.hid (HD1.out.below hb)
        replace HB := Lib.hid (HB.out.trans (hb.mono HB.out.size))
        clear hb
        have HD2 := Lib.hid (bsl_own ho)
        clear ho
        go_wp2_with fail
        refine (sameBytes_b _ _ _ _ _ HD1.out HD2.out HDLL.out true (decide_eq_true rfl)).mono ?_
        rintro e W ⟨rfl, hb⟩
        clear HD1 HD2
        replace HO := Lib.hid (HO.out.below hb)
        replace HR1 := Lib.hid (HR1.out.below hb)
        replace HR2 := Lib.hid (HR2.out.below hb)
        replace HT1 := Lib.hid (HT1.out.below hb)
        replace HT2 := Lib.hid (HT2.out.below hb)
        replace HP1 := Lib.hid (HP1.out.below hb)
        replace HE1 := Lib.hid (HE1.out.below hb)
        replace HP2 := Lib.hid (HP2.out.below hb)
        replace HE2 := Lib.hid (HE2.out.below hb)
        replace HB := Lib.hid (HB.out.trans (hb.mono HB.out.size))
        clear hb
        go_wp2_with fail
        refine (sameBytes_b _ _ _ _ _ HR1.out HR2.out HRL.out true (decide_eq_true rfl)).mono ?_
        rintro e W ⟨rfl, hb⟩
        clear HR1 HR2
        replace HO := Lib.hid (HO.out.below hb)
        replace HT1 := Lib.hid (HT1.out.below hb)
        replace HT2 := Lib.hid (HT2.out.below hb)
        replace HP1 := Lib.hid (HP1.out.below hb)
        replace HE1 := Lib.hid (HE1.out.below hb)
        replace HP2 := Lib.hid (HP2.out.below hb)
        replace HE2 := Lib.hid (HE2.out.below hb)
        replace HB := Lib.hid (HB.out.trans (hb.mono HB.out.size))
        clear hb
        go_wp2_with fail
        refine (sameBytes_b _ _ _ _ _ HT1.out HT2.out HQL.out true (decide_eq_true rfl)).mono ?_
        rintro e W ⟨rfl, hb⟩
        clear HT1 HT2
        replace HO := Lib.hid (HO.out.below hb)
        replace HP1 := Lib.hid (HP1.out.below hb)
        replace HE1 := Lib.hid (HE1.out.below hb)
        replace HP2 := Lib.hid (HP2.out.below hb)
        replace HE2 := Lib.hid (HE2.out.below hb)
        replace HB := Lib.hid (HB.out.trans (hb.mono HB.out.size))
        clear hb
        go_wp2_with fail
        refine (sameTexts_b _ _ _ _ _ HP1.out HP2.out HLL.out true (decide_eq_true rfl)).mono ?_
        rintro e W ⟨rfl, hb⟩
        clear HP1 HP2
        replace HO := Lib.hid (HO.out.below hb)
        replace HE1 := Lib.hid (HE1.out.below hb)
        replace HE2 := Lib.hid (HE2.out.below hb)
        replace HB := Lib.hid (HB.out.trans (hb.mono HB.out.size))
        clear hb
        go_wp2_with fail
        refine (sameBytes_b _ _ _ _ _ HE1.out HE2.out HPL.out true (decide_eq_true rfl)).mono ?_
        rintro e W ⟨rfl, hb⟩
        clear HE1 HE2
        replace HO := Lib.hid (HO.out.below hb)
        replace HB := Lib.hid (HB.out.trans (hb.mono HB.out.size))
        clear hb
        go_wp2_with fail
        all_goals (
          refine (sameBytes_b _ _ _ _ _ HO.out (HBH.out.below HB.out) HB7.out true (decide_eq_true rfl)).mono ?_
          rintro e W ⟨rfl, hb⟩
          clear HO
          replace HB := Lib.hid (HB.out.trans (hb.mono HB.out.size))
          clear hb
          go_wp2_with fail
          go_ret
          exact ⟨rfl, HB.out⟩)
      · have hg := numB_yes HRIGHT.out
        obtain ⟨m, rfl⟩ := Int.eq_ofNat_of_zero_le hg.1
        have hm : m ≤ 1099511627776 := by omega
        have hue : us = enc m := by rw [← HUS.out]; exact nums_nat hm
        subst hue
        have hL6 : LU ≤ 6 := by rw [← HLU.out]; exact enc_six hm
        have hL1 : 0 < LU := by rw [← HLU.out]; exact enc_pos m
        clear hg
        go_wp2_with fail
        refine (size_num m _ hm LU HLU.out).mono ?_
        rintro e W ⟨rfl, rfl⟩
        clear HUS HRIGHT HLU
        go_wp2_with fail
        refine (sameBytes_b _ _ _ _ _ HX.out HY.out HYL.out true (decide_eq_true rfl)).mono ?_
        rintro e W ⟨rfl, hb⟩
        clear HX HY
        replace HO := Lib.hid (HO.out.below hb)
        replace HR1 := Lib.hid (HR1.out.below hb)
        replace HR2 := Lib.hid (HR2.out.below hb)
        replace HT1 := Lib.hid (HT1.out.below hb)
        replace HT2 := Lib.hid (HT2.out.below hb)
        replace HP1 := Lib.hid (HP1.out.below hb)
        replace HE1 := Lib.hid (HE1.out.below hb)
        replace HP2 := Lib.hid (HP2.out.below hb)
        replace HE2 := Lib.hid (HE2.out.below hb)
        replace HB := Lib.hid (HB.out.trans (hb.mono HB.out.size))
        clear hb
        go_wp2_with fail
        refine (texts_v _ xs _ (HV.out.below HB.out) HL2.out HS2.out dt HDT.out).mono ?_
        rintro e W ⟨D1, M1, rfl, ho, hb⟩
        replace HO := Lib.hid (HO.out.below hb)
        replace HR1 := Lib.hid (HR1.out.below hb)
        replace HR2 := Lib.hid (HR2.out.below hb)
        replace HT1 := Lib.hid (HT1.out.below hb)
        replace HT2 := Lib.hid (HT2.out.below hb)
        replace HP1 := Lib.hid (HP1.out.below hb)
        replace HE1 := Lib.hid (HE1.out.below hb)
        replace HP2 := Lib.hid (HP2.out.below hb)
        replace HE2 := Lib.hid (HE2.out.below hb)
        replace HB := Lib.hid (HB.out.trans (hb.mono HB.out.size))
        clear hb
        have HD1 := Lib.hid (bsl_own ho)
        clear ho
        go_wp2_with fail
        refine (refTexts_v _ xs _ (HV.out.below HB.out) HL2.out HS2.out dt HDT.out).mono ?_
        rintro e W ⟨D2, M2, rfl, ho, hb⟩
        replace HO := Lib.hid (HO.out.below hb)
        replace HR1 := Lib.hid (HR1.out.below hb)
        replace HR2 := Lib.hid (HR2.out.below hb)
        replace HT1 := Lib.hid (HT1.out.below hb)
        replace HT2 := Lib.hid (HT2.out.below hb)
        replace HP1 := Lib.hid (HP1.out.below hb)
        replace HE1 := Lib.hid (HE1.out.below hb)
        replace HP2 := Lib.hid (HP2.out.below hb)
        replace HE2 := Lib.hid (HE2.out.below hb)
        replace HD1 := Lib.hid (HD1.out.below hb)
        replace HB := Lib.hid (HB.out.trans (hb.mono HB.out.size))
        clear hb
        have HD2 := Lib.hid (bsl_own ho)
        clear ho
        go_wp2_with fail
        refine (sameBytes_b _ _ _ _ _ HD1.out HD2.out HDTL.out true (decide_eq_true rfl)).mono ?_
        rintro e W ⟨rfl, hb⟩
        clear HD1 HD2
        replace HO := Lib.hid (HO.out.below hb)
        replace HR1 := Lib.hid (HR1.out.below hb)
        replace HR2 := Lib.hid (HR2.out.below hb)
        replace HT1 := Lib.hid (HT1.out.below hb)
        replace HT2 := Lib.hid (HT2.out.below hb)
        replace HP1 := Lib.hid (HP1.out.below hb)
        replace HE1 := Lib.hid (HE1.out.below hb)
        replace HP2 := Lib.hid (HP2.out.below hb)
        replace HE2 := Lib.hid (HE2.out.below hb)
        replace HB := Lib.hid (HB.out.trans (hb.mono HB.out.size))
        clear hb
        go_wp2_with fail
        refine (list_v _ xs _ (HV.out.below HB.out) HL2.out HS2.out dl HDL.out).mono ?_
        rintro e W ⟨D1, M1, rfl, ho, hb⟩
        replace HO := Lib.hid (HO.out.below hb)
        replace HR1 := Lib.hid (HR1.out.below hb)
        replace HR2 := Lib.hid (HR2.out.below hb)
        replace HT1 := Lib.hid (HT1.out.below hb)
        replace HT2 := Lib.hid (HT2.out.below hb)
        replace HP1 := Lib.hid (HP1.out.below hb)
        replace HE1 := Lib.hid (HE1.out.below hb)
        replace HP2 := Lib.hid (HP2.out.below hb)
        replace HE2 := Lib.hid (HE2.out.below hb)
        replace HB := Lib.hid (HB.out.trans (hb.mono HB.out.size))
        clear hb
        have HD1 := Lib.hid (bsl_own ho)
        clear ho
        go_wp2_with fail
        refine (refList_v _ xs _ (HV.out.below HB.out) HL2.out HS2.out dl HDL.out).mono ?_
        rintro e W ⟨D2, M2, rfl, ho, hb⟩
        replace HO := Lib.hid (HO.out.below hb)
        replace HR1 := Lib.hid (HR1.out.below hb)
        replace HR2 := Lib.hid (HR2.out.below hb)
        replace HT1 := Lib.hid (HT1.out.below hb)
        replace HT2 := Lib.hid (HT2.out.below hb)
        replace HP1 := Lib.hid (HP1.out.below hb)
        replace HE1 := Lib.hid (HE1.out.below hb)
        replace HP2 := Lib.hid (HP2.out.below hb)
        replace HE2 := Lib.hid (HE2.out.below hb)
        replace HD1 := Lib.hid (HD1.out.below hb)
        replace HB := Lib.hid (HB.out.trans (hb.mono HB.out.size))
        clear hb
        have HD2 := Lib.hid (bsl_own ho)
        clear ho
        go_wp2_with fail
        refine (sameBytes_b _ _ _ _ _ HD1.out HD2.out HDLL.out true (decide_eq_true rfl)).mono ?_
        rintro e W ⟨rfl, hb⟩
        clear HD1 HD2
        replace HO := Lib.hid (HO.out.below hb)
        replace HR1 := Lib.hid (HR1.out.below hb)
        replace HR2 := Lib.hid (HR2.out.below hb)
        replace HT1 := Lib.hid (HT1.out.below hb)
        replace HT2 := Lib.hid (HT2.out.below hb)
        replace HP1 := Lib.hid (HP1.out.below hb)
        replace HE1 := Lib.hid (HE1.out.below hb)
        replace HP2 := Lib.hid (HP2.out.below hb)
        replace HE2 := Lib.hid (HE2.out.below hb)
        replace HB := Lib.hid (HB.out.trans (hb.mono HB.out.size))
        clear hb
        go_wp2_with fail
        refine (sameBytes_b _ _ _ _ _ HR1.out HR2.out HRL.out true (decide_eq_true rfl)).mono ?_
        rintro e W ⟨rfl, hb⟩
        clear HR1 HR2
        replace HO := Lib.hid (HO.out.below hb)
        replace HT1 := Lib.hid (HT1.out.below hb)
        replace HT2 := Lib.hid (HT2.out.below hb)
        replace HP1 := Lib.hid (HP1.out.below hb)
        replace HE1 := Lib.hid (HE1.out.below hb)
        replace HP2 := Lib.hid (HP2.out.below hb)
        replace HE2 := Lib.hid (HE2.out.below hb)
        replace HB := Lib.hid (HB.out.trans (hb.mono HB.out.size))
        clear hb
        go_wp2_with fail
        refine (sameBytes_b _ _ _ _ _ HT1.out HT2.out HQL.out true (decide_eq_true rfl)).mono ?_
        rintro e W ⟨rfl, hb⟩
        clear HT1 HT2
        replace HO := Lib.hid (HO.out.below hb)
        replace HP1 := Lib.hid (HP1.out.below hb)
        replace HE1 := Lib.hid (HE1.out.below hb)
        replace HP2 := Lib.hid (HP2.out.below hb)
        replace HE2 := Lib.hid (HE2.out.below hb)
        replace HB := Lib.hid (HB.out.trans (hb.mono HB.out.size))
        clear hb
        go_wp2_with fail
        refine (sameTexts_b _ _ _ _ _ HP1.out HP2.out HLL.out true (decide_eq_true rfl)).mono ?_
        rintro e W ⟨rfl, hb⟩
        clear HP1 HP2
        replace HO := Lib.hid (HO.out.below hb)
        replace HE1 := Lib.hid (HE1.out.below hb)
        replace HE2 := Lib.hid (HE2.out.below hb)
        replace HB := Lib.hid (HB.out.trans (hb.mono HB.out.size))
        clear hb
        go_wp2_with fail
        refine (sameBytes_b _ _ _ _ _ HE1.out HE2.out HPL.out true (decide_eq_true rfl)).mono ?_
        rintro e W ⟨rfl, hb⟩
        clear HE1 HE2
        replace HO := Lib.hid (HO.out.below hb)
        replace HB := Lib.hid (HB.out.trans (hb.mono HB.out.size))
        clear hb
        go_wp2_with fail
        all_goals (
          refine (sameBytes_b _ _ _ _ _ HO.out (HBH.out.below HB.out) HB7.out true (decide_eq_true rfl)).mono ?_
          rintro e W ⟨rfl, hb⟩
          clear HO
          replace HB := Lib.hid (HB.out.trans (hb.mono HB.out.size))
          clear hb
          go_wp2_with fail
          go_ret
          exact ⟨rfl, HB.out⟩)
  · go_wp2_with fail
    go_ret
    exact ⟨rfl, HB.out⟩
end Go.Proofs.Ytgjjaalojelmhaa
