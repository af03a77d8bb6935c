/-
  The laws' own check 'alive' of layer 2: it returns true, and nothing that was there turns.
  Conditions: none.
-/
import Derived.Test.YtgjjaalojelmhaaKit2
namespace Go.Proofs.Ytgjjaalojelmhaa
open Go.RowKit
open Wire

theorem enc300 : enc 300 = [172, 2] := by
  rw [enc_more (by omega), enc_small (by omega)]
  rfl
theorem enc1 : enc 1 = [1] := enc_small (by omega)
theorem enc2 : enc 2 = [2] := enc_small (by omega)
theorem enc0 : enc 0 = [0] := enc_small (by omega)
theorem al_nums : numsOf [300, 1] = [172, 2, 1] := by
  unfold numsOf
  rw [if_pos (by decide)]
  show enc 300 ++ (enc 1 ++ []) = _
  rw [enc300, enc1]
  rfl
theorem al_num : NumOut [172, 2, 1] 300 [1] true := .inl ⟨rfl, by omega, by rw [enc300]; rfl⟩
theorem al_texts : textsE (txtsL [⟨#[97, 98]⟩, ⟨#[99]⟩]) = [2, 97, 98, 1, 99] := by
  show enc 2 ++ ([97, 98] ++ (enc 1 ++ ([99] ++ []))) = _
  rw [enc2, enc1]
  rfl
theorem al_text : TextOut [2, 97, 98, 1, 99] [97, 98] [1, 99] true := .inl ⟨rfl, by decide, by
  show _ = enc 2 ++ _
  rw [enc2]
  rfl⟩
theorem al_list : enc 2 ++ textsE (txtsL [⟨#[120]⟩, ⟨#[]⟩]) = [2, 1, 120, 0] := by
  show enc 2 ++ (enc 1 ++ ([120] ++ (enc 0 ++ ([] ++ [])))) = _
  rw [enc2, enc1, enc0]
  rfl
theorem al_take : TakeOut [2, 1, 120, 0] 2 [[120], []] [] true := .inl ⟨rfl, ⟨by decide, (fun s hs => by
    simp at hs
    rcases hs with rfl | rfl <;> decide), by
  show _ = enc 2 ++ ((enc 1 ++ ([120] ++ (enc 0 ++ ([] ++ [])))) ++ [])
  rw [enc2, enc1, enc0]
  rfl⟩, by decide⟩

set_option maxRecDepth 100000 in
set_option maxHeartbeats 4000000 in
theorem alive_any (w : World) : Calls Try.prog 8 #[] w (Ret w (.bool true)) := by
  go_enter Try.func8, Try.ntmps8
  go_wp2_with fail
  refine (nums_v _ [300, 1] _ (nsl_lit w [300, 1] 2 rfl _ rfl) (by decide) _ _ al_nums rfl).mono ?_
  rintro e w1 ⟨b, M1, rfl, ho1, hb1⟩
  have HO1 := Lib.hid (bsl_own ho1)
  have HB1 := Lib.hid (below_from hb1)
  clear ho1 hb1
  go_wp2_with fail
  refine (num_v _ _ w1 HO1.out (by decide) _ _ _ al_num).mono ?_
  rintro e w2 ⟨rest, rfl, hr, hb2⟩
  have HR2 := Lib.hid hr
  have HO2 := Lib.hid (HO1.out.below hb2)
  have HB2 := Lib.hid (HB1.out.trans (hb2.mono HB1.out.size))
  clear hr hb2 HO1 HB1
  go_wp2_with fail
  refine (texts_v _ [⟨#[97, 98]⟩, ⟨#[99]⟩] _ (tsl_lit w2 [⟨#[97, 98]⟩, ⟨#[99]⟩] 2 rfl _ rfl) (by decide) (by decide) _ al_texts).mono ?_
  rintro e w3 ⟨t3, M3, rfl, ho3, hb3⟩
  have HT3 := Lib.hid (bsl_own ho3)
  have hb3' := below_from hb3
  have HR3 := Lib.hid (HR2.out.below hb3')
  have HO3 := Lib.hid (HO2.out.below hb3')
  have HB3 := Lib.hid (HB2.out.trans (hb3'.mono HB2.out.size))
  clear ho3 hb3 hb3' HR2 HO2 HB2
  go_wp2_with fail
  refine (text_v _ _ w3 HT3.out (by decide) _ _ _ al_text).mono ?_
  rintro e w4 ⟨more, rfl, hm, hb4⟩
  rw [show ofL [97, 98] = ⟨#[97, 98]⟩ from rfl]
  have HM4 := Lib.hid hm
  have HR4 := Lib.hid (HR3.out.below hb4)
  have HO4 := Lib.hid (HO3.out.below hb4)
  have HB4 := Lib.hid (HB3.out.trans (hb4.mono HB3.out.size))
  clear hm hb4 HT3 HR3 HO3 HB3
  go_wp2_with fail
  refine (list_v _ [⟨#[120]⟩, ⟨#[]⟩] _ (tsl_lit w4 [⟨#[120]⟩, ⟨#[]⟩] 2 rfl _ rfl) (by decide) (by decide) _ al_list).mono ?_
  rintro e w5 ⟨t5, M5, rfl, ho5, hb5⟩
  have HT5 := Lib.hid (bsl_own ho5)
  have hb5' := below_from hb5
  have HM5 := Lib.hid (HM4.out.below hb5')
  have HR5 := Lib.hid (HR4.out.below hb5')
  have HO5 := Lib.hid (HO4.out.below hb5')
  have HB5 := Lib.hid (HB4.out.trans (hb5'.mono HB4.out.size))
  clear ho5 hb5 hb5' HM4 HR4 HO4 HB4
  go_wp2_with fail
  refine (take_v _ _ 2 w5 HT5.out (by decide) _ _ _ al_take).mono ?_
  rintro e w6 ⟨l, en, rfl, hl, hen, hb6⟩
  have HL6 := Lib.hid hl
  have HE6 := Lib.hid hen
  have HM6 := Lib.hid (HM5.out.below hb6)
  have HR6 := Lib.hid (HR5.out.below hb6)
  have HO6 := Lib.hid (HO5.out.below hb6)
  have HB6 := Lib.hid (HB5.out.trans (hb6.mono HB5.out.size))
  clear hl hen hb6 HT5 HM5 HR5 HO5 HB5
  go_wp2_with fail
  refine (sameBytes_b _ _ [172, 2, 1] [172, 2, 1] _ (HO6.out.below (below_lit _ _)) (bsl_lit w6 [172, 2, 1] 3 rfl _ rfl) (by decide) true (by decide)).mono ?_
  rintro e w7 ⟨rfl, hb7⟩
  have hb7' := below_from hb7
  have HB7 := Lib.hid (HB6.out.trans (hb7'.mono HB6.out.size))
  have HL7 := Lib.hid (HL6.out.below hb7')
  have HE7 := Lib.hid (HE6.out.below hb7')
  have HM7 := Lib.hid (HM6.out.below hb7')
  have HR7 := Lib.hid (HR6.out.below hb7')
  clear hb7 hb7' HO6 HL6 HE6 HM6 HR6 HB6
  go_wp2_with fail
  refine (sameBytes_b _ _ [1] [1] _ (HR7.out.below (below_lit _ _)) (bsl_lit w7 [1] 1 rfl _ rfl) (by decide) true (by decide)).mono ?_
  rintro e w8 ⟨rfl, hb8⟩
  have hb8' := below_from hb8
  have HB8 := Lib.hid (HB7.out.trans (hb8'.mono HB7.out.size))
  have HL8 := Lib.hid (HL7.out.below hb8')
  have HE8 := Lib.hid (HE7.out.below hb8')
  have HM8 := Lib.hid (HM7.out.below hb8')
  clear hb8 hb8' HR7 HL7 HE7 HM7 HB7
  go_wp2_with fail
  refine (sameBytes_b _ _ [1, 99] [1, 99] _ (HM8.out.below (below_lit _ _)) (bsl_lit w8 [1, 99] 2 rfl _ rfl) (by decide) true (by decide)).mono ?_
  rintro e w9 ⟨rfl, hb9⟩
  have hb9' := below_from hb9
  have HB9 := Lib.hid (HB8.out.trans (hb9'.mono HB8.out.size))
  have HL9 := Lib.hid (HL8.out.below hb9')
  obtain ⟨Ae, ne, ce, rfl, hne, _, _, _⟩ := HE8.out.below hb9'
  obtain rfl : 0 = ne := hne
  clear hb9 hb9' HM8 HL8 HE8 HB8
  go_wp2_with fail
  refine (sameTexts_b _ _ ([[120], []].map ofL) [⟨#[120]⟩, ⟨#[]⟩] _ (HL9.out.below (below_lit _ _)) (tsl_lit w9 [⟨#[120]⟩, ⟨#[]⟩] 2 rfl _ rfl) (by decide) true (decide_eq_true rfl)).mono ?_
  rintro e w10 ⟨rfl, hb10⟩
  have HB10 := Lib.hid (HB9.out.trans ((below_from hb10).mono HB9.out.size))
  clear hb10 HL9 HB9
  go_wp2_with fail
  refine (size_num 300 _ (by omega) 2 (by rw [enc300]; rfl)).mono ?_
  rintro e w11 ⟨rfl, rfl⟩
  go_wp2_with fail
  go_ret
  exact ⟨rfl, HB10.out⟩
end Go.Proofs.Ytgjjaalojelmhaa
