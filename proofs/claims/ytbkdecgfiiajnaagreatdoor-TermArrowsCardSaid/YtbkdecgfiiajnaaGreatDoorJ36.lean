import Derived.Test.YtbkdecgfiiajnaaGreatDoorJ35
import Derived.Test.YtbkdecgfiiajnaaGreatDoorJ13
import Derived.Deep.DeepCutAuto
import Derived.Deep.RegionHeld3
/-
  The check 'alive' of layer 4's laws: terms that the document fixes are as it says.
  Conditions: name.Right's contract, with 'a' and 'b' right.
-/
namespace Go.Proofs.YtbkdecgfiiajnaaGreatDoor
open Go.RowKit
open Lvl
namespace Trm

set_option maxRecDepth 100000 in
set_option maxHeartbeats 8000000 in
theorem aliveT_is (RN : ByteArray → Bool) (hRa : RN ⟨#[97]⟩ = true) (hRb : RN ⟨#[98]⟩ = true) (w : World) (CN : NameC w RN) : Calls Tryz.prog 6 #[] w (Ret w (.bool true)) := by
  have HCN := Lib.hid CN
  have HRA := Lib.hid hRa
  have HRB := Lib.hid hRb
  clear CN hRa hRb
  go_enter Tryz.func6, Tryz.ntmps6
  go_wp2_with fail
  refine (var_is 0 _).mono ?_
  rintro e v1 ⟨l9, s9, he, ht, hb⟩
  obtain rfl : e = Ending.returned (.agg #[.int .i64 1, .int .i64 0, .string ⟨#[]⟩, l9, s9]) := he
  obtain ⟨⟨la1, ll1, lc1, rfl⟩, sa1, sl1, sc1, rfl⟩ := tmP_slices ht
  have HT1 := Lib.hid (tmP_weak (Q := fun _ => True) (fun _ _ => trivial) ht)
  have HL1 := Lib.hid hb
  clear ht hb
  go_wp2_with fail
  refine (u_ret _).mono ?_
  rintro e v2 ⟨rfl, hb⟩
  have HL2 := Lib.hid hb
  clear hb
  go_wp2_with fail
  refine (sort_is lu0 _ _ (lvV_leaf0 _ 2 0) (by decide)).mono ?_
  rintro e v3 ⟨l9, s9, he, ht, hb⟩
  obtain rfl : e = Ending.returned (.agg #[.int .i64 2, .int .i64 0, .string ⟨#[]⟩, l9, s9]) := he
  obtain ⟨⟨la3, ll3, lc3, rfl⟩, sa3, sl3, sc3, rfl⟩ := tmP_slices ht
  have HT3 := Lib.hid (tmP_weak (Q := fun _ => True) (fun _ _ => trivial) ht)
  have HL3 := Lib.hid hb
  clear ht hb
  go_wp2_with fail
  refine (var_is 0 _).mono ?_
  rintro e v4 ⟨l9, s9, he, ht, hb⟩
  obtain rfl : e = Ending.returned (.agg #[.int .i64 1, .int .i64 0, .string ⟨#[]⟩, l9, s9]) := he
  obtain ⟨⟨la4, ll4, lc4, rfl⟩, sa4, sl4, sc4, rfl⟩ := tmP_slices ht
  have HT4 := Lib.hid (tmP_weak (Q := fun _ => True) (fun _ _ => trivial) ht)
  have HL4 := Lib.hid hb
  clear ht hb
  go_wp2_with fail
  refine (lam_al ⟨_, _, rfl, tmP_below (by repeat (first | exact Below.refl _ _ | refine later_hid (by assumption) ?_ | refine later_alloc ?_ | refine later_drew ?_)) HT1.out⟩ (ts_two (tmP_below (by repeat (first | exact Below.refl _ _ | refine later_hid (by assumption) ?_ | refine later_alloc ?_ | refine later_drew ?_)) HT3.out) (tmP_below (by repeat (first | exact Below.refl _ _ | refine later_hid (by assumption) ?_ | refine later_alloc ?_ | refine later_drew ?_)) HT4.out) rfl rfl rfl rfl rfl rfl) (by decide)).mono ?_
  rintro e v5 ⟨l9, s9, he, ht, hb⟩
  obtain rfl : e = Ending.returned (.agg #[.int .i64 5, .int .i64 0, .string ⟨#[]⟩, l9, s9]) := he
  obtain ⟨⟨la5, ll5, lc5, rfl⟩, sa5, sl5, sc5, rfl⟩ := tmP_slices ht
  have HT5 := Lib.hid (tmP_weak (Q := fun _ => True) (fun _ _ => trivial) ht)
  have HL5 := Lib.hid hb
  clear ht hb
  go_upto_region 2 with fail
  have HL6 := Lib.hid (below_lit v5 (.cells #[.int .i64 5, .int .i64 0, .string ⟨#[]⟩, (.slice la5 ll5 lc5), (.slice sa5 sl5 sc5)] 25))
  have HR1 := Lib.hid (heap_alloc_new v5 (.cells #[.int .i64 5, .int .i64 0, .string ⟨#[]⟩, (.slice la5 ll5 lc5), (.slice sa5 sl5 sc5)] 25))
  have HZ1 := Lib.hid (show v5.heap.size < (v5.alloc (.cells #[.int .i64 5, .int .i64 0, .string ⟨#[]⟩, (.slice la5 ll5 lc5), (.slice sa5 sl5 sc5)] 25)).heap.size by simp)
  have HT6 := Lib.hid (tmP_below HL6.out HT5.out)
  generalize v5.alloc (.cells #[.int .i64 5, .int .i64 0, .string ⟨#[]⟩, (.slice la5 ll5 lc5), (.slice sa5 sl5 sc5)] 25) = W1 at *
  have HLW := Lib.hid (show Below w.heap.size w W1 from (by repeat (first | exact Below.refl _ _ | refine later_hid (by assumption) ?_ | refine later_alloc ?_ | refine later_drew ?_)))
  clear HL1 HL2 HL3 HL4 HL5 HL6 HT1 HT3 HT4 HT5
  generalize v5.heap.size = B1 at *
  have hk : Hid (∀ W', Below W1.heap.size W1 W' → W'.cell? ⟨B1, 0, none⟩ = some (.int .i64 5) ∧ W'.cell? ⟨B1, 1, none⟩ = some (.int .i64 0) ∧ W'.cell? ⟨B1, 2, none⟩ = some (.string ⟨#[]⟩) ∧ W'.cell? ⟨B1, 3, none⟩ = some (.slice la5 ll5 lc5) ∧ W'.cell? ⟨B1, 4, none⟩ = some (.slice sa5 sl5 sc5)) := fun W' h => by
    obtain ⟨c10, c11, c12, c13, c14⟩ := five_cells ((h.block B1 HZ1.out).trans HR1.out)
    exact ⟨c10, c11, c12, c13, c14⟩
  go_cut [2, 3] (fun s2 s3 wx => s3 = .bool true ∧ Cut5 W1 wx s2 5 0 ⟨#[]⟩ tx)
  case first =>
    refine wp_region_held_drew (S := fun W' => W'.cell? ⟨B1, 0, none⟩ = some (.int .i64 5) ∧ W'.cell? ⟨B1, 1, none⟩ = some (.int .i64 0) ∧ W'.cell? ⟨B1, 2, none⟩ = some (.string ⟨#[]⟩) ∧ W'.cell? ⟨B1, 3, none⟩ = some (.slice la5 ll5 lc5) ∧ W'.cell? ⟨B1, 4, none⟩ = some (.slice sa5 sl5 sc5)) (by kernel_rfl) (hk.out _ (Below.refl _ _).drew) (fun hHeld => ?_)
    have HLd : Hid (Below W1.heap.size W1 W1.drew) := (Below.refl _ _).drew
    generalize W1.drew = Wd at *
    refine take_in (i := 0) (v := ?_) rfl (by kernel_rfl) (by kernel_rfl) (by kernel_rfl) (fun _ _ _ h => h) (by rfl) ?_ hHeld ?_
    rotate_left
    · intro w hSw
      (try dsimp only at hSw)
      go_simp
      try with_reducible rfl
    try simp only [Act.put, List.setIfInBounds_toArray, List.set_cons_zero, List.set_cons_succ]
    refine fork_in (i := 1) (j := 7) rfl rfl (by kernel_rfl) (fun K hK => ?_) (fun K hK => ?_)
    · clear hHeld
      go_simp
      go_at_call 26
      refine (zero_ret _).mono ?_
      rintro e wA ⟨rfl, hb9⟩
      have HLwA := Lib.hid hb9
      clear hb9
      try (go_wp2_with fail)
      refine hK.out _ _ (hk.out _ (later_hid HLwA (later_hid HLd (Below.refl _ _)))) (fun hHeld => ?_)
      clear hK K
      try simp only [Act.put, List.setIfInBounds_toArray, List.set_cons_zero, List.set_cons_succ]
      refine fork_in (i := 2) (j := 7) rfl rfl (by kernel_rfl) (fun K hK => ?_) (fun K hK => ?_)
      · clear hHeld
        go_simp
        try (go_wp2_with fail)
        refine hK.out _ _ (hk.out _ (later_alloc (later_hid HLwA (later_hid HLd (Below.refl _ _))))) (fun hHeld => ?_)
        clear hK K
        try simp only [Act.put, List.setIfInBounds_toArray, List.set_cons_zero, List.set_cons_succ]
        refine fork_in (i := 3) (j := 7) rfl rfl (by kernel_rfl) (fun K hK => ?_) (fun K hK => ?_)
        · clear hHeld
          go_simp
          go_at_call 25
          refine (levels_al (tmV_tid (tmP_below (later_alloc (later_hid HLwA (later_hid HLd (Below.refl _ _)))) HT6.out)) (lv_one _) (HCN.out.below (later_alloc (later_hid HLwA (later_hid HLd HLW.out))))).mono ?_
          rintro e wB ⟨l9, s9, he, ht, hb9⟩
          obtain rfl : e = Ending.returned (.tuple #[.agg #[.int .i64 5, .int .i64 0, .string ⟨#[]⟩, l9, s9], .bool true]) := he
          obtain ⟨⟨la7, ll7, lc7, rfl⟩, sa7, sl7, sc7, rfl⟩ := tmP_slices ht
          have HT7 := Lib.hid ht
          have HLwB := Lib.hid hb9
          clear ht hb9
          try (go_wp2_with fail)
          refine hK.out _ _ (hk.out _ (later_hid HLwB (later_alloc (later_hid HLwA (later_hid HLd (Below.refl _ _)))))) (fun hHeld => ?_)
          clear hK K
          try simp only [Act.put, List.setIfInBounds_toArray, List.set_cons_zero, List.set_cons_succ]
          refine take_in (i := 4) (v := ?_) rfl (by kernel_rfl) (by kernel_rfl) (by kernel_rfl) (fun _ _ _ h => h) (by rfl) ?_ hHeld ?_
          rotate_left
          · intro w hSw
            (try dsimp only at hSw)
            go_simp
            try with_reducible rfl
          try simp only [Act.put, List.setIfInBounds_toArray, List.set_cons_zero, List.set_cons_succ]
          refine take_in (i := 5) (v := ?_) rfl (by kernel_rfl) (by kernel_rfl) (by kernel_rfl) (fun _ _ _ h => h) (by rfl) ?_ hHeld ?_
          rotate_left
          · intro w hSw
            (try dsimp only at hSw)
            go_simp
            try with_reducible rfl
          try simp only [Act.put, List.setIfInBounds_toArray, List.set_cons_zero, List.set_cons_succ]
          refine take_in (i := 6) (v := ?_) rfl (by kernel_rfl) (by kernel_rfl) (by kernel_rfl) (fun _ _ _ h => h) (by rfl) ?_ hHeld ?_
          rotate_left
          · intro w hSw
            (try dsimp only at hSw)
            go_simp
            try with_reducible rfl
          try simp only [Act.put, List.setIfInBounds_toArray, List.set_cons_zero, List.set_cons_succ]
          refine call_in (i := 7) rfl (by kernel_rfl) (fun K hK => ?_)
          clear hHeld
          go_simp
          try (go_wp2_with fail)
          refine hK.out _ _ (hk.out _ (later_alloc (later_hid HLwB (later_alloc (later_hid HLwA (later_hid HLd (Below.refl _ _))))))) (fun hHeld => ?_)
          clear hK K
          try simp only [Act.put, List.setIfInBounds_toArray, List.set_cons_zero, List.set_cons_succ]
          refine call_in (i := 8) rfl (by kernel_rfl) (fun K hK => ?_)
          clear hHeld
          go_simp
          try (go_wp2_with fail)
          refine hK.out _ _ (hk.out _ (later_alloc (later_hid HLwB (later_alloc (later_hid HLwA (later_hid HLd (Below.refl _ _))))))) (fun hHeld => ?_)
          clear hK K
          try simp only [Act.put, List.setIfInBounds_toArray, List.set_cons_zero, List.set_cons_succ]
          refine take_in (i := 9) (v := ?_) rfl (by kernel_rfl) (by kernel_rfl) (by kernel_rfl) (fun _ _ _ h => h) (by rfl) ?_ hHeld ?_
          rotate_left
          · intro w hSw
            (try dsimp only at hSw)
            go_simp
            try with_reducible rfl
          try simp only [Act.put, List.setIfInBounds_toArray, List.set_cons_zero, List.set_cons_succ]
          refine wpAnyH_done (by kernel_rfl) ?_ _
          go_wp2_with fail
          go_meet
          refine ⟨rfl, ?_⟩
          exact cut5_late HT7.out (later_hid HLwB (later_alloc (later_hid HLwA (later_hid HLd (Below.refl _ _)))))
        · clear hHeld
          go_simp
          try (go_wp2_with fail)
          have HX := Lib.hid (bx_now1 (W := W1) (O := (.cells #[.int .i64 0, .int .i64 0, .string ⟨#[]⟩, .slice none 0 0, .slice none 0 0] 25)) (w0 := wA) (O' := (.cells #[.int .i64 1, .int .i64 0, .slice none 0 0] 45)) (later_hid HLwA (later_hid HLd (Below.refl _ _))))
          refine hK.out _ _ (hk.out _ (later_alloc (later_alloc (later_hid HLwA (later_hid HLd (Below.refl _ _)))))) (fun hHeld => ?_)
          clear hK K
          try simp only [Act.put, List.setIfInBounds_toArray, List.set_cons_zero, List.set_cons_succ]
          refine call_in (i := 3) rfl (by kernel_rfl) (fun K hK => ?_)
          clear hHeld
          go_simp
          go_at_call 25
          refine (levels_al (tmV_tid (tmP_below (later_alloc (later_alloc (later_hid HLwA (later_hid HLd (Below.refl _ _))))) HT6.out)) (lv_one2 _ _) (HCN.out.below (later_alloc (later_alloc (later_hid HLwA (later_hid HLd HLW.out)))))).mono ?_
          rintro e wB ⟨l9, s9, he, ht, hb9⟩
          obtain rfl : e = Ending.returned (.tuple #[.agg #[.int .i64 5, .int .i64 0, .string ⟨#[]⟩, l9, s9], .bool true]) := he
          obtain ⟨⟨la7, ll7, lc7, rfl⟩, sa7, sl7, sc7, rfl⟩ := tmP_slices ht
          have HT7 := Lib.hid ht
          have HLwB := Lib.hid hb9
          have HQ := Lib.hid (((HX.out.keep (Below.refl _ _))).ahead hb9)
          clear ht hb9
          try (go_wp2_with fail)
          refine hK.out _ _ (hk.out _ (later_hid HLwB (later_alloc (later_alloc (later_hid HLwA (later_hid HLd (Below.refl _ _))))))) (fun hHeld => ?_)
          clear hK K
          try simp only [Act.put, List.setIfInBounds_toArray, List.set_cons_zero, List.set_cons_succ]
          refine take_in (i := 4) (v := ?_) rfl (by kernel_rfl) (by kernel_rfl) (by kernel_rfl) (fun _ _ _ h => h) (by rfl) ?_ hHeld ?_
          rotate_left
          · intro w hSw
            (try dsimp only at hSw)
            go_simp
            try with_reducible rfl
          try simp only [Act.put, List.setIfInBounds_toArray, List.set_cons_zero, List.set_cons_succ]
          refine take_in (i := 5) (v := ?_) rfl (by kernel_rfl) (by kernel_rfl) (by kernel_rfl) (fun _ _ _ h => h) (by rfl) ?_ hHeld ?_
          rotate_left
          · intro w hSw
            (try dsimp only at hSw)
            go_simp
            try with_reducible rfl
          try simp only [Act.put, List.setIfInBounds_toArray, List.set_cons_zero, List.set_cons_succ]
          refine take_in (i := 6) (v := ?_) rfl (by kernel_rfl) (by kernel_rfl) (by kernel_rfl) (fun _ _ _ h => h) (by rfl) ?_ hHeld ?_
          rotate_left
          · intro w hSw
            (try dsimp only at hSw)
            go_simp
            try with_reducible rfl
          try simp only [Act.put, List.setIfInBounds_toArray, List.set_cons_zero, List.set_cons_succ]
          have ze := five_cells HQ.out.1.1
          obtain ⟨ze0, ze1, ze2, ze3, ze4⟩ := ze
          have zg0 := frozen0 (p := 0) HQ.out.1.1
          have zg1 := frozen0 (p := 1) HQ.out.1.1
          have zg2 := frozen0 (p := 2) HQ.out.1.1
          have zg3 := frozen0 (p := 3) HQ.out.1.1
          have zg4 := frozen0 (p := 4) HQ.out.1.1
          refine call_in (i := 8) rfl (by kernel_rfl) (fun K hK => ?_)
          clear hHeld
          go_simp
          try (go_wp2_with fail)
          refine hK.out _ _ (hk.out _ (set5_below (later_hid HLwB (later_alloc (later_alloc (later_hid HLwA (later_hid HLd (Below.refl _ _)))))) _ 0 _ _ _ _ _ HQ.out.1.2.2)) (fun hHeld => ?_)
          clear hK K ze0 ze1 ze2 ze3 ze4 zg0 zg1 zg2 zg3 zg4
          try simp only [Act.put, List.setIfInBounds_toArray, List.set_cons_zero, List.set_cons_succ]
          refine take_in (i := 9) (v := ?_) rfl (by kernel_rfl) (by kernel_rfl) (by kernel_rfl) (fun _ _ _ h => h) (by rfl) ?_ hHeld ?_
          rotate_left
          · intro w hSw
            (try dsimp only at hSw)
            go_simp
            try with_reducible rfl
          try simp only [Act.put, List.setIfInBounds_toArray, List.set_cons_zero, List.set_cons_succ]
          refine wpAnyH_done (by kernel_rfl) ?_ _
          go_wp2_with fail
          go_meet
          refine ⟨rfl, ?_⟩
          exact cut5_early HQ.out HT7.out (later_hid HLwB (later_alloc (later_alloc (later_hid HLwA (later_hid HLd (Below.refl _ _))))))
      · clear hHeld
        go_simp
        try (go_wp2_with fail)
        have HX := Lib.hid (bx_now (W := W1) (O := (.cells #[.int .i64 0, .int .i64 0, .string ⟨#[]⟩, .slice none 0 0, .slice none 0 0] 25)) (w0 := wA) (later_hid HLwA (later_hid HLd (Below.refl _ _))))
        refine hK.out _ _ (hk.out _ (later_alloc (later_hid HLwA (later_hid HLd (Below.refl _ _))))) (fun hHeld => ?_)
        clear hK K
        try simp only [Act.put, List.setIfInBounds_toArray, List.set_cons_zero, List.set_cons_succ]
        refine call_in (i := 2) rfl (by kernel_rfl) (fun K hK => ?_)
        clear hHeld
        go_simp
        try (go_wp2_with fail)
        refine hK.out _ _ (hk.out _ (later_alloc (later_alloc (later_hid HLwA (later_hid HLd (Below.refl _ _)))))) (fun hHeld => ?_)
        clear hK K
        try simp only [Act.put, List.setIfInBounds_toArray, List.set_cons_zero, List.set_cons_succ]
        refine call_in (i := 3) rfl (by kernel_rfl) (fun K hK => ?_)
        clear hHeld
        go_simp
        go_at_call 25
        refine (levels_al (tmV_tid (tmP_below (later_alloc (later_alloc (later_hid HLwA (later_hid HLd (Below.refl _ _))))) HT6.out)) (lv_one1 _ _) (HCN.out.below (later_alloc (later_alloc (later_hid HLwA (later_hid HLd HLW.out)))))).mono ?_
        rintro e wB ⟨l9, s9, he, ht, hb9⟩
        obtain rfl : e = Ending.returned (.tuple #[.agg #[.int .i64 5, .int .i64 0, .string ⟨#[]⟩, l9, s9], .bool true]) := he
        obtain ⟨⟨la7, ll7, lc7, rfl⟩, sa7, sl7, sc7, rfl⟩ := tmP_slices ht
        have HT7 := Lib.hid ht
        have HLwB := Lib.hid hb9
        have HQ := Lib.hid (((HX.out.keep (later_alloc (Below.refl _ _)))).ahead hb9)
        clear ht hb9
        try (go_wp2_with fail)
        refine hK.out _ _ (hk.out _ (later_hid HLwB (later_alloc (later_alloc (later_hid HLwA (later_hid HLd (Below.refl _ _))))))) (fun hHeld => ?_)
        clear hK K
        try simp only [Act.put, List.setIfInBounds_toArray, List.set_cons_zero, List.set_cons_succ]
        refine take_in (i := 4) (v := ?_) rfl (by kernel_rfl) (by kernel_rfl) (by kernel_rfl) (fun _ _ _ h => h) (by rfl) ?_ hHeld ?_
        rotate_left
        · intro w hSw
          (try dsimp only at hSw)
          go_simp
          try with_reducible rfl
        try simp only [Act.put, List.setIfInBounds_toArray, List.set_cons_zero, List.set_cons_succ]
        refine take_in (i := 5) (v := ?_) rfl (by kernel_rfl) (by kernel_rfl) (by kernel_rfl) (fun _ _ _ h => h) (by rfl) ?_ hHeld ?_
        rotate_left
        · intro w hSw
          (try dsimp only at hSw)
          go_simp
          try with_reducible rfl
        try simp only [Act.put, List.setIfInBounds_toArray, List.set_cons_zero, List.set_cons_succ]
        refine take_in (i := 6) (v := ?_) rfl (by kernel_rfl) (by kernel_rfl) (by kernel_rfl) (fun _ _ _ h => h) (by rfl) ?_ hHeld ?_
        rotate_left
        · intro w hSw
          (try dsimp only at hSw)
          go_simp
          try with_reducible rfl
        try simp only [Act.put, List.setIfInBounds_toArray, List.set_cons_zero, List.set_cons_succ]
        have ze := five_cells HQ.out.1.1
        obtain ⟨ze0, ze1, ze2, ze3, ze4⟩ := ze
        have zg0 := frozen0 (p := 0) HQ.out.1.1
        have zg1 := frozen0 (p := 1) HQ.out.1.1
        have zg2 := frozen0 (p := 2) HQ.out.1.1
        have zg3 := frozen0 (p := 3) HQ.out.1.1
        have zg4 := frozen0 (p := 4) HQ.out.1.1
        refine call_in (i := 8) rfl (by kernel_rfl) (fun K hK => ?_)
        clear hHeld
        go_simp
        try (go_wp2_with fail)
        refine hK.out _ _ (hk.out _ (set5_below (later_hid HLwB (later_alloc (later_alloc (later_hid HLwA (later_hid HLd (Below.refl _ _)))))) _ 0 _ _ _ _ _ HQ.out.1.2.2)) (fun hHeld => ?_)
        clear hK K ze0 ze1 ze2 ze3 ze4 zg0 zg1 zg2 zg3 zg4
        try simp only [Act.put, List.setIfInBounds_toArray, List.set_cons_zero, List.set_cons_succ]
        refine take_in (i := 9) (v := ?_) rfl (by kernel_rfl) (by kernel_rfl) (by kernel_rfl) (fun _ _ _ h => h) (by rfl) ?_ hHeld ?_
        rotate_left
        · intro w hSw
          (try dsimp only at hSw)
          go_simp
          try with_reducible rfl
        try simp only [Act.put, List.setIfInBounds_toArray, List.set_cons_zero, List.set_cons_succ]
        refine wpAnyH_done (by kernel_rfl) ?_ _
        go_wp2_with fail
        go_meet
        refine ⟨rfl, ?_⟩
        exact cut5_early HQ.out HT7.out (later_hid HLwB (later_alloc (later_alloc (later_hid HLwA (later_hid HLd (Below.refl _ _))))))
    · clear hHeld
      go_simp
      try (go_wp2_with fail)
      have HX := Lib.hid (bx_now (W := W1) (O := (.cells #[.int .i64 0, .int .i64 0, .string ⟨#[]⟩, .slice none 0 0, .slice none 0 0] 25)) (w0 := Wd) (later_hid HLd (Below.refl _ _)))
      refine hK.out _ _ (hk.out _ (later_alloc (later_hid HLd (Below.refl _ _)))) (fun hHeld => ?_)
      clear hK K
      try simp only [Act.put, List.setIfInBounds_toArray, List.set_cons_zero, List.set_cons_succ]
      refine call_in (i := 1) rfl (by kernel_rfl) (fun K hK => ?_)
      clear hHeld
      go_simp
      go_at_call 26
      refine (zero_ret _).mono ?_
      rintro e wA ⟨rfl, hb9⟩
      have HLwA := Lib.hid hb9
      clear hb9
      try (go_wp2_with fail)
      refine hK.out _ _ (hk.out _ (later_hid HLwA (later_alloc (later_hid HLd (Below.refl _ _))))) (fun hHeld => ?_)
      clear hK K
      try simp only [Act.put, List.setIfInBounds_toArray, List.set_cons_zero, List.set_cons_succ]
      refine call_in (i := 2) rfl (by kernel_rfl) (fun K hK => ?_)
      clear hHeld
      go_simp
      try (go_wp2_with fail)
      refine hK.out _ _ (hk.out _ (later_alloc (later_hid HLwA (later_alloc (later_hid HLd (Below.refl _ _)))))) (fun hHeld => ?_)
      clear hK K
      try simp only [Act.put, List.setIfInBounds_toArray, List.set_cons_zero, List.set_cons_succ]
      refine call_in (i := 3) rfl (by kernel_rfl) (fun K hK => ?_)
      clear hHeld
      go_simp
      go_at_call 25
      refine (levels_al (tmV_tid (tmP_below (later_alloc (later_hid HLwA (later_alloc (later_hid HLd (Below.refl _ _))))) HT6.out)) (lv_one _) (HCN.out.below (later_alloc (later_hid HLwA (later_alloc (later_hid HLd HLW.out)))))).mono ?_
      rintro e wB ⟨l9, s9, he, ht, hb9⟩
      obtain rfl : e = Ending.returned (.tuple #[.agg #[.int .i64 5, .int .i64 0, .string ⟨#[]⟩, l9, s9], .bool true]) := he
      obtain ⟨⟨la7, ll7, lc7, rfl⟩, sa7, sl7, sc7, rfl⟩ := tmP_slices ht
      have HT7 := Lib.hid ht
      have HLwB := Lib.hid hb9
      have HQ := Lib.hid (((HX.out.keep (later_alloc (later_hid HLwA (Below.refl _ _))))).ahead hb9)
      clear ht hb9
      try (go_wp2_with fail)
      refine hK.out _ _ (hk.out _ (later_hid HLwB (later_alloc (later_hid HLwA (later_alloc (later_hid HLd (Below.refl _ _))))))) (fun hHeld => ?_)
      clear hK K
      try simp only [Act.put, List.setIfInBounds_toArray, List.set_cons_zero, List.set_cons_succ]
      refine take_in (i := 4) (v := ?_) rfl (by kernel_rfl) (by kernel_rfl) (by kernel_rfl) (fun _ _ _ h => h) (by rfl) ?_ hHeld ?_
      rotate_left
      · intro w hSw
        (try dsimp only at hSw)
        go_simp
        try with_reducible rfl
      try simp only [Act.put, List.setIfInBounds_toArray, List.set_cons_zero, List.set_cons_succ]
      refine take_in (i := 5) (v := ?_) rfl (by kernel_rfl) (by kernel_rfl) (by kernel_rfl) (fun _ _ _ h => h) (by rfl) ?_ hHeld ?_
      rotate_left
      · intro w hSw
        (try dsimp only at hSw)
        go_simp
        try with_reducible rfl
      try simp only [Act.put, List.setIfInBounds_toArray, List.set_cons_zero, List.set_cons_succ]
      refine take_in (i := 6) (v := ?_) rfl (by kernel_rfl) (by kernel_rfl) (by kernel_rfl) (fun _ _ _ h => h) (by rfl) ?_ hHeld ?_
      rotate_left
      · intro w hSw
        (try dsimp only at hSw)
        go_simp
        try with_reducible rfl
      try simp only [Act.put, List.setIfInBounds_toArray, List.set_cons_zero, List.set_cons_succ]
      have ze := five_cells HQ.out.1.1
      obtain ⟨ze0, ze1, ze2, ze3, ze4⟩ := ze
      have zg0 := frozen0 (p := 0) HQ.out.1.1
      have zg1 := frozen0 (p := 1) HQ.out.1.1
      have zg2 := frozen0 (p := 2) HQ.out.1.1
      have zg3 := frozen0 (p := 3) HQ.out.1.1
      have zg4 := frozen0 (p := 4) HQ.out.1.1
      refine call_in (i := 8) rfl (by kernel_rfl) (fun K hK => ?_)
      clear hHeld
      go_simp
      try (go_wp2_with fail)
      refine hK.out _ _ (hk.out _ (set5_below (later_hid HLwB (later_alloc (later_hid HLwA (later_alloc (later_hid HLd (Below.refl _ _)))))) _ 0 _ _ _ _ _ HQ.out.1.2.2)) (fun hHeld => ?_)
      clear hK K ze0 ze1 ze2 ze3 ze4 zg0 zg1 zg2 zg3 zg4
      try simp only [Act.put, List.setIfInBounds_toArray, List.set_cons_zero, List.set_cons_succ]
      refine take_in (i := 9) (v := ?_) rfl (by kernel_rfl) (by kernel_rfl) (by kernel_rfl) (fun _ _ _ h => h) (by rfl) ?_ hHeld ?_
      rotate_left
      · intro w hSw
        (try dsimp only at hSw)
        go_simp
        try with_reducible rfl
      try simp only [Act.put, List.setIfInBounds_toArray, List.set_cons_zero, List.set_cons_succ]
      refine wpAnyH_done (by kernel_rfl) ?_ _
      go_wp2_with fail
      go_meet
      refine ⟨rfl, ?_⟩
      exact cut5_early HQ.out HT7.out (later_hid HLwB (later_alloc (later_hid HLwA (later_alloc (later_hid HLd (Below.refl _ _))))))
  case rest =>
  obtain ⟨rfl, B2, la7, ll7, lc7, sa7, sl7, sc7, rfl, hz2, hr2, ht2, hl2⟩ := hcut
  have HR2 := Lib.hid hr2
  have HZ2 := Lib.hid hz2
  have HT7 := Lib.hid ht2
  have HR1' := Lib.hid ((hl2.block B1 HZ1.out).trans HR1.out)
  have HZ1' := Lib.hid (Nat.lt_of_lt_of_le HZ1.out hl2.size)
  have HT6' := Lib.hid (tmP_below hl2 HT6.out)
  have HLW2 := Lib.hid (HLW.out.trans (hl2.mono HLW.out.size))
  clear hr2 hz2 ht2 hl2 HR1 HZ1 HT6 HLW hk
  have HR1 := Lib.hid HR1'.out
  have HZ1 := Lib.hid HZ1'.out
  have HT6 := Lib.hid HT6'.out
  clear HR1' HZ1' HT6'
  generalize wc = W2 at *
  go_upto_region 3 with fail
  have hk : Hid (∀ W', Below W2.heap.size W2 W' → W'.cell? ⟨B1, 0, none⟩ = some (.int .i64 5) ∧ W'.cell? ⟨B1, 1, none⟩ = some (.int .i64 0) ∧ W'.cell? ⟨B1, 2, none⟩ = some (.string ⟨#[]⟩) ∧ W'.cell? ⟨B1, 3, none⟩ = some (.slice la5 ll5 lc5) ∧ W'.cell? ⟨B1, 4, none⟩ = some (.slice sa5 sl5 sc5)) := fun W' h => by
    obtain ⟨c10, c11, c12, c13, c14⟩ := five_cells ((h.block B1 HZ1.out).trans HR1.out)
    exact ⟨c10, c11, c12, c13, c14⟩
  go_cut [4, 5] (fun s4 s5 wx => Cut5 W2 wx s4 5 0 ⟨#[]⟩ tid ∧ ∃ A c, s5 = .slice A 2 c ∧ TsP wx (fun _ => True) A 0 [tca, tcbz])
  case first =>
    refine wp_region_held_drew (S := fun W' => W'.cell? ⟨B1, 0, none⟩ = some (.int .i64 5) ∧ W'.cell? ⟨B1, 1, none⟩ = some (.int .i64 0) ∧ W'.cell? ⟨B1, 2, none⟩ = some (.string ⟨#[]⟩) ∧ W'.cell? ⟨B1, 3, none⟩ = some (.slice la5 ll5 lc5) ∧ W'.cell? ⟨B1, 4, none⟩ = some (.slice sa5 sl5 sc5)) (by kernel_rfl) (hk.out _ (Below.refl _ _).drew) (fun hHeld => ?_)
    have HLd : Hid (Below W2.heap.size W2 W2.drew) := (Below.refl _ _).drew
    generalize W2.drew = Wd at *
    refine take_in (i := 0) (v := ?_) rfl (by kernel_rfl) (by kernel_rfl) (by kernel_rfl) (fun _ _ _ h => h) (by rfl) ?_ hHeld ?_
    rotate_left
    · intro w hSw
      (try dsimp only at hSw)
      go_simp
      try with_reducible rfl
    try simp only [Act.put, List.setIfInBounds_toArray, List.set_cons_zero, List.set_cons_succ]
    refine fork_in (i := 1) (j := 11) rfl rfl (by kernel_rfl) (fun K hK => ?_) (fun K hK => ?_)
    · clear hHeld
      go_simp
      go_at_call 27
      refine (const_is ⟨#[97]⟩ [] _ _ (fun _ => True) (lvP_nil _ _) (by decide) (by intro a ha; cases ha)).mono ?_
      rintro e wA ⟨l9, s9, he, ht, hb9⟩
      obtain rfl : e = Ending.returned (.agg #[.int .i64 3, .int .i64 0, .string ⟨#[97]⟩, l9, s9]) := he
      obtain ⟨⟨la8, ll8, lc8, rfl⟩, sa8, sl8, sc8, rfl⟩ := tmP_slices ht
      have HT8 := Lib.hid (tmP_weak (Q := fun _ => True) (fun _ _ => trivial) ht)
      have HLwA := Lib.hid hb9
      clear ht hb9
      try (go_wp2_with fail)
      refine hK.out _ _ (hk.out _ (later_hid HLwA (later_hid HLd (Below.refl _ _)))) (fun hHeld => ?_)
      clear hK K
      try simp only [Act.put, List.setIfInBounds_toArray, List.set_cons_zero, List.set_cons_succ]
      refine fork_in (i := 2) (j := 11) rfl rfl (by kernel_rfl) (fun K hK => ?_) (fun K hK => ?_)
      · clear hHeld
        go_simp
        go_at_call 26
        refine (zero_ret _).mono ?_
        rintro e wB ⟨rfl, hb9⟩
        have HLwB := Lib.hid hb9
        clear hb9
        try (go_wp2_with fail)
        refine hK.out _ _ (hk.out _ (later_hid HLwB (later_hid HLwA (later_hid HLd (Below.refl _ _))))) (fun hHeld => ?_)
        clear hK K
        try simp only [Act.put, List.setIfInBounds_toArray, List.set_cons_zero, List.set_cons_succ]
        refine fork_in (i := 3) (j := 11) rfl rfl (by kernel_rfl) (fun K hK => ?_) (fun K hK => ?_)
        · clear hHeld
          go_simp
          try (go_wp2_with fail)
          refine hK.out _ _ (hk.out _ (later_alloc (later_hid HLwB (later_hid HLwA (later_hid HLd (Below.refl _ _)))))) (fun hHeld => ?_)
          clear hK K
          try simp only [Act.put, List.setIfInBounds_toArray, List.set_cons_zero, List.set_cons_succ]
          refine fork_in (i := 4) (j := 11) rfl rfl (by kernel_rfl) (fun K hK => ?_) (fun K hK => ?_)
          · clear hHeld
            go_simp
            go_at_call 27
            refine (const_is ⟨#[98]⟩ [lz0] _ _ (fun _ => True) (lv_one _) (by decide) (by intro a ha; simp at ha; subst ha; decide)).mono ?_
            rintro e wC ⟨l9, s9, he, ht, hb9⟩
            obtain rfl : e = Ending.returned (.agg #[.int .i64 3, .int .i64 0, .string ⟨#[98]⟩, l9, s9]) := he
            obtain ⟨⟨la9, ll9, lc9, rfl⟩, sa9, sl9, sc9, rfl⟩ := tmP_slices ht
            have HT9 := Lib.hid (tmP_weak (Q := fun _ => True) (fun _ _ => trivial) ht)
            have HLwC := Lib.hid hb9
            clear ht hb9
            try (go_wp2_with fail)
            refine hK.out _ _ (hk.out _ (later_hid HLwC (later_alloc (later_hid HLwB (later_hid HLwA (later_hid HLd (Below.refl _ _))))))) (fun hHeld => ?_)
            clear hK K
            try simp only [Act.put, List.setIfInBounds_toArray, List.set_cons_zero, List.set_cons_succ]
            refine fork_in (i := 5) (j := 11) rfl rfl (by kernel_rfl) (fun K hK => ?_) (fun K hK => ?_)
            · clear hHeld
              go_simp
              try (go_wp2_with fail)
              refine hK.out _ _ (hk.out _ (later_alloc (later_hid HLwC (later_alloc (later_hid HLwB (later_hid HLwA (later_hid HLd (Below.refl _ _)))))))) (fun hHeld => ?_)
              clear hK K
              try simp only [Act.put, List.setIfInBounds_toArray, List.set_cons_zero, List.set_cons_succ]
              refine fork_in (i := 6) (j := 11) rfl rfl (by kernel_rfl) (fun K hK => ?_) (fun K hK => ?_)
              · clear hHeld
                go_simp
                go_at_call 15
                refine (app_al (tmV_tid (tmP_below (later_alloc (later_hid HLwC (later_alloc (later_hid HLwB (later_hid HLwA (later_hid HLd (Below.refl _ _))))))) HT6.out)) (ts_al (tmP_below (later_hid HLwC (later_alloc (later_hid HLwB (Below.refl _ _)))) HT8.out) (tmP_below (Below.refl _ _) HT9.out)) (by decide)).mono ?_
                rintro e wD ⟨l9, s9, he, ht, hb9⟩
                obtain rfl : e = Ending.returned (.agg #[.int .i64 4, .int .i64 0, .string ⟨#[]⟩, l9, s9]) := he
                obtain ⟨⟨la10, ll10, lc10, rfl⟩, sa10, sl10, sc10, rfl⟩ := tmP_slices ht
                have HT10 := Lib.hid (tmP_weak (Q := fun _ => True) (fun _ _ => trivial) ht)
                have HLwD := Lib.hid hb9
                clear ht hb9
                try (go_wp2_with fail)
                refine hK.out _ _ (hk.out _ (later_hid HLwD (later_alloc (later_hid HLwC (later_alloc (later_hid HLwB (later_hid HLwA (later_hid HLd (Below.refl _ _))))))))) (fun hHeld => ?_)
                clear hK K
                try simp only [Act.put, List.setIfInBounds_toArray, List.set_cons_zero, List.set_cons_succ]
                refine fork_in (i := 7) (j := 11) rfl rfl (by kernel_rfl) (fun K hK => ?_) (fun K hK => ?_)
                · clear hHeld
                  go_simp
                  go_at_call 18
                  refine (spine_al (tmV_tap (tmP_below (Below.refl _ _) HT10.out))).mono ?_
                  rintro e wE ⟨l9, s9, A11, c11, he, ht, hts, hb9⟩
                  obtain rfl : e = Ending.returned (.tuple #[.agg #[.int .i64 5, .int .i64 0, .string ⟨#[]⟩, l9, s9], .slice A11 2 c11]) := he
                  obtain ⟨⟨la11, ll11, lc11, rfl⟩, sa11, sl11, sc11, rfl⟩ := tmP_slices ht
                  have HT11 := Lib.hid ht
                  have HTS := Lib.hid hts
                  have HLwE := Lib.hid hb9
                  clear ht hts hb9
                  try (go_wp2_with fail)
                  refine hK.out _ _ (hk.out _ (later_hid HLwE (later_hid HLwD (later_alloc (later_hid HLwC (later_alloc (later_hid HLwB (later_hid HLwA (later_hid HLd (Below.refl _ _)))))))))) (fun hHeld => ?_)
                  clear hK K
                  try simp only [Act.put, List.setIfInBounds_toArray, List.set_cons_zero, List.set_cons_succ]
                  refine take_in (i := 8) (v := ?_) rfl (by kernel_rfl) (by kernel_rfl) (by kernel_rfl) (fun _ _ _ h => h) (by rfl) ?_ hHeld ?_
                  rotate_left
                  · intro w hSw
                    (try dsimp only at hSw)
                    go_simp
                    try with_reducible rfl
                  try simp only [Act.put, List.setIfInBounds_toArray, List.set_cons_zero, List.set_cons_succ]
                  refine take_in (i := 9) (v := ?_) rfl (by kernel_rfl) (by kernel_rfl) (by kernel_rfl) (fun _ _ _ h => h) (by rfl) ?_ hHeld ?_
                  rotate_left
                  · intro w hSw
                    (try dsimp only at hSw)
                    go_simp
                    try with_reducible rfl
                  try simp only [Act.put, List.setIfInBounds_toArray, List.set_cons_zero, List.set_cons_succ]
                  refine take_in (i := 10) (v := ?_) rfl (by kernel_rfl) (by kernel_rfl) (by kernel_rfl) (fun _ _ _ h => h) (by rfl) ?_ hHeld ?_
                  rotate_left
                  · intro w hSw
                    (try dsimp only at hSw)
                    go_simp
                    try with_reducible rfl
                  try simp only [Act.put, List.setIfInBounds_toArray, List.set_cons_zero, List.set_cons_succ]
                  refine call_in (i := 11) rfl (by kernel_rfl) (fun K hK => ?_)
                  clear hHeld
                  go_simp
                  try (go_wp2_with fail)
                  refine hK.out _ _ (hk.out _ (later_alloc (later_hid HLwE (later_hid HLwD (later_alloc (later_hid HLwC (later_alloc (later_hid HLwB (later_hid HLwA (later_hid HLd (Below.refl _ _))))))))))) (fun hHeld => ?_)
                  clear hK K
                  try simp only [Act.put, List.setIfInBounds_toArray, List.set_cons_zero, List.set_cons_succ]
                  refine call_in (i := 12) rfl (by kernel_rfl) (fun K hK => ?_)
                  clear hHeld
                  go_simp
                  try (go_wp2_with fail)
                  refine hK.out _ _ (hk.out _ (later_alloc (later_hid HLwE (later_hid HLwD (later_alloc (later_hid HLwC (later_alloc (later_hid HLwB (later_hid HLwA (later_hid HLd (Below.refl _ _))))))))))) (fun hHeld => ?_)
                  clear hK K
                  try simp only [Act.put, List.setIfInBounds_toArray, List.set_cons_zero, List.set_cons_succ]
                  refine take_in (i := 13) (v := ?_) rfl (by kernel_rfl) (by kernel_rfl) (by kernel_rfl) (fun _ _ _ h => h) (by rfl) ?_ hHeld ?_
                  rotate_left
                  · intro w hSw
                    (try dsimp only at hSw)
                    go_simp
                    try with_reducible rfl
                  try simp only [Act.put, List.setIfInBounds_toArray, List.set_cons_zero, List.set_cons_succ]
                  refine wpAnyH_done (by kernel_rfl) ?_ _
                  go_wp2_with fail
                  go_meet
                  refine ⟨?_, ?_⟩
                  · exact cut5_late HT11.out (later_hid HLwE (later_hid HLwD (later_alloc (later_hid HLwC (later_alloc (later_hid HLwB (later_hid HLwA (later_hid HLd (Below.refl _ _)))))))))
                  · exact cut5_row0 HTS.out
                · clear hHeld
                  go_simp
                  try (go_wp2_with fail)
                  have HX := Lib.hid (bx_now (W := W2) (O := (.cells #[.int .i64 0, .int .i64 0, .string ⟨#[]⟩, .slice none 0 0, .slice none 0 0] 25)) (w0 := wD) (later_hid HLwD (later_alloc (later_hid HLwC (later_alloc (later_hid HLwB (later_hid HLwA (later_hid HLd (Below.refl _ _)))))))))
                  refine hK.out _ _ (hk.out _ (later_alloc (later_hid HLwD (later_alloc (later_hid HLwC (later_alloc (later_hid HLwB (later_hid HLwA (later_hid HLd (Below.refl _ _)))))))))) (fun hHeld => ?_)
                  clear hK K
                  try simp only [Act.put, List.setIfInBounds_toArray, List.set_cons_zero, List.set_cons_succ]
                  refine call_in (i := 7) rfl (by kernel_rfl) (fun K hK => ?_)
                  clear hHeld
                  go_simp
                  go_at_call 18
                  refine (spine_al (tmV_tap (tmP_below (later_alloc (Below.refl _ _)) HT10.out))).mono ?_
                  rintro e wE ⟨l9, s9, A11, c11, he, ht, hts, hb9⟩
                  obtain rfl : e = Ending.returned (.tuple #[.agg #[.int .i64 5, .int .i64 0, .string ⟨#[]⟩, l9, s9], .slice A11 2 c11]) := he
                  obtain ⟨⟨la11, ll11, lc11, rfl⟩, sa11, sl11, sc11, rfl⟩ := tmP_slices ht
                  have HT11 := Lib.hid ht
                  have HTS := Lib.hid hts
                  have HLwE := Lib.hid hb9
                  have HQ := Lib.hid (((HX.out.keep (Below.refl _ _))).ahead hb9)
                  clear ht hts hb9
                  try (go_wp2_with fail)
                  refine hK.out _ _ (hk.out _ (later_hid HLwE (later_alloc (later_hid HLwD (later_alloc (later_hid HLwC (later_alloc (later_hid HLwB (later_hid HLwA (later_hid HLd (Below.refl _ _))))))))))) (fun hHeld => ?_)
                  clear hK K
                  try simp only [Act.put, List.setIfInBounds_toArray, List.set_cons_zero, List.set_cons_succ]
                  refine take_in (i := 8) (v := ?_) rfl (by kernel_rfl) (by kernel_rfl) (by kernel_rfl) (fun _ _ _ h => h) (by rfl) ?_ hHeld ?_
                  rotate_left
                  · intro w hSw
                    (try dsimp only at hSw)
                    go_simp
                    try with_reducible rfl
                  try simp only [Act.put, List.setIfInBounds_toArray, List.set_cons_zero, List.set_cons_succ]
                  refine take_in (i := 9) (v := ?_) rfl (by kernel_rfl) (by kernel_rfl) (by kernel_rfl) (fun _ _ _ h => h) (by rfl) ?_ hHeld ?_
                  rotate_left
                  · intro w hSw
                    (try dsimp only at hSw)
                    go_simp
                    try with_reducible rfl
                  try simp only [Act.put, List.setIfInBounds_toArray, List.set_cons_zero, List.set_cons_succ]
                  refine take_in (i := 10) (v := ?_) rfl (by kernel_rfl) (by kernel_rfl) (by kernel_rfl) (fun _ _ _ h => h) (by rfl) ?_ hHeld ?_
                  rotate_left
                  · intro w hSw
                    (try dsimp only at hSw)
                    go_simp
                    try with_reducible rfl
                  try simp only [Act.put, List.setIfInBounds_toArray, List.set_cons_zero, List.set_cons_succ]
                  have ze := five_cells HQ.out.1.1
                  obtain ⟨ze0, ze1, ze2, ze3, ze4⟩ := ze
                  have zg0 := frozen0 (p := 0) HQ.out.1.1
                  have zg1 := frozen0 (p := 1) HQ.out.1.1
                  have zg2 := frozen0 (p := 2) HQ.out.1.1
                  have zg3 := frozen0 (p := 3) HQ.out.1.1
                  have zg4 := frozen0 (p := 4) HQ.out.1.1
                  refine call_in (i := 12) rfl (by kernel_rfl) (fun K hK => ?_)
                  clear hHeld
                  go_simp
                  try (go_wp2_with fail)
                  refine hK.out _ _ (hk.out _ (set5_below (later_hid HLwE (later_alloc (later_hid HLwD (later_alloc (later_hid HLwC (later_alloc (later_hid HLwB (later_hid HLwA (later_hid HLd (Below.refl _ _)))))))))) _ 0 _ _ _ _ _ HQ.out.1.2.2)) (fun hHeld => ?_)
                  clear hK K ze0 ze1 ze2 ze3 ze4 zg0 zg1 zg2 zg3 zg4
                  try simp only [Act.put, List.setIfInBounds_toArray, List.set_cons_zero, List.set_cons_succ]
                  refine take_in (i := 13) (v := ?_) rfl (by kernel_rfl) (by kernel_rfl) (by kernel_rfl) (fun _ _ _ h => h) (by rfl) ?_ hHeld ?_
                  rotate_left
                  · intro w hSw
                    (try dsimp only at hSw)
                    go_simp
                    try with_reducible rfl
                  try simp only [Act.put, List.setIfInBounds_toArray, List.set_cons_zero, List.set_cons_succ]
                  refine wpAnyH_done (by kernel_rfl) ?_ _
                  go_wp2_with fail
                  go_meet
                  refine ⟨?_, ?_⟩
                  · exact cut5_early HQ.out HT11.out (later_hid HLwE (later_alloc (later_hid HLwD (later_alloc (later_hid HLwC (later_alloc (later_hid HLwB (later_hid HLwA (later_hid HLd (Below.refl _ _))))))))))
                  · exact cut5_row HQ.out HTS.out
              · clear hHeld
                go_simp
                try (go_wp2_with fail)
                have HX := Lib.hid (bx_now1 (W := W2) (O := (.cells #[.int .i64 0, .int .i64 0, .string ⟨#[]⟩, .slice none 0 0, .slice none 0 0] 25)) (w0 := wC) (O' := (.cells #[.int .i64 3, .int .i64 0, .string ⟨#[97]⟩, (.slice la8 ll8 lc8), (.slice sa8 sl8 sc8), .int .i64 3, .int .i64 0, .string ⟨#[98]⟩, (.slice la9 ll9 lc9), (.slice sa9 sl9 sc9)] 25)) (later_hid HLwC (later_alloc (later_hid HLwB (later_hid HLwA (later_hid HLd (Below.refl _ _)))))))
                refine hK.out _ _ (hk.out _ (later_alloc (later_alloc (later_hid HLwC (later_alloc (later_hid HLwB (later_hid HLwA (later_hid HLd (Below.refl _ _))))))))) (fun hHeld => ?_)
                clear hK K
                try simp only [Act.put, List.setIfInBounds_toArray, List.set_cons_zero, List.set_cons_succ]
                refine call_in (i := 6) rfl (by kernel_rfl) (fun K hK => ?_)
                clear hHeld
                go_simp
                go_at_call 15
                refine (app_al (tmV_tid (tmP_below (later_alloc (later_alloc (later_hid HLwC (later_alloc (later_hid HLwB (later_hid HLwA (later_hid HLd (Below.refl _ _)))))))) HT6.out)) (ts_al2 (tmP_below (later_hid HLwC (later_alloc (later_hid HLwB (Below.refl _ _)))) HT8.out) (tmP_below (Below.refl _ _) HT9.out)) (by decide)).mono ?_
                rintro e wD ⟨l9, s9, he, ht, hb9⟩
                obtain rfl : e = Ending.returned (.agg #[.int .i64 4, .int .i64 0, .string ⟨#[]⟩, l9, s9]) := he
                obtain ⟨⟨la10, ll10, lc10, rfl⟩, sa10, sl10, sc10, rfl⟩ := tmP_slices ht
                have HT10 := Lib.hid (tmP_weak (Q := fun _ => True) (fun _ _ => trivial) ht)
                have HLwD := Lib.hid hb9
                clear ht hb9
                try (go_wp2_with fail)
                refine hK.out _ _ (hk.out _ (later_hid HLwD (later_alloc (later_alloc (later_hid HLwC (later_alloc (later_hid HLwB (later_hid HLwA (later_hid HLd (Below.refl _ _)))))))))) (fun hHeld => ?_)
                clear hK K
                try simp only [Act.put, List.setIfInBounds_toArray, List.set_cons_zero, List.set_cons_succ]
                refine call_in (i := 7) rfl (by kernel_rfl) (fun K hK => ?_)
                clear hHeld
                go_simp
                go_at_call 18
                refine (spine_al (tmV_tap (tmP_below (Below.refl _ _) HT10.out))).mono ?_
                rintro e wE ⟨l9, s9, A11, c11, he, ht, hts, hb9⟩
                obtain rfl : e = Ending.returned (.tuple #[.agg #[.int .i64 5, .int .i64 0, .string ⟨#[]⟩, l9, s9], .slice A11 2 c11]) := he
                obtain ⟨⟨la11, ll11, lc11, rfl⟩, sa11, sl11, sc11, rfl⟩ := tmP_slices ht
                have HT11 := Lib.hid ht
                have HTS := Lib.hid hts
                have HLwE := Lib.hid hb9
                have HQ := Lib.hid (((HX.out.keep (later_hid HLwD (Below.refl _ _)))).ahead hb9)
                clear ht hts hb9
                try (go_wp2_with fail)
                refine hK.out _ _ (hk.out _ (later_hid HLwE (later_hid HLwD (later_alloc (later_alloc (later_hid HLwC (later_alloc (later_hid HLwB (later_hid HLwA (later_hid HLd (Below.refl _ _))))))))))) (fun hHeld => ?_)
                clear hK K
                try simp only [Act.put, List.setIfInBounds_toArray, List.set_cons_zero, List.set_cons_succ]
                refine take_in (i := 8) (v := ?_) rfl (by kernel_rfl) (by kernel_rfl) (by kernel_rfl) (fun _ _ _ h => h) (by rfl) ?_ hHeld ?_
                rotate_left
                · intro w hSw
                  (try dsimp only at hSw)
                  go_simp
                  try with_reducible rfl
                try simp only [Act.put, List.setIfInBounds_toArray, List.set_cons_zero, List.set_cons_succ]
                refine take_in (i := 9) (v := ?_) rfl (by kernel_rfl) (by kernel_rfl) (by kernel_rfl) (fun _ _ _ h => h) (by rfl) ?_ hHeld ?_
                rotate_left
                · intro w hSw
                  (try dsimp only at hSw)
                  go_simp
                  try with_reducible rfl
                try simp only [Act.put, List.setIfInBounds_toArray, List.set_cons_zero, List.set_cons_succ]
                refine take_in (i := 10) (v := ?_) rfl (by kernel_rfl) (by kernel_rfl) (by kernel_rfl) (fun _ _ _ h => h) (by rfl) ?_ hHeld ?_
                rotate_left
                · intro w hSw
                  (try dsimp only at hSw)
                  go_simp
                  try with_reducible rfl
                try simp only [Act.put, List.setIfInBounds_toArray, List.set_cons_zero, List.set_cons_succ]
                have ze := five_cells HQ.out.1.1
                obtain ⟨ze0, ze1, ze2, ze3, ze4⟩ := ze
                have zg0 := frozen0 (p := 0) HQ.out.1.1
                have zg1 := frozen0 (p := 1) HQ.out.1.1
                have zg2 := frozen0 (p := 2) HQ.out.1.1
                have zg3 := frozen0 (p := 3) HQ.out.1.1
                have zg4 := frozen0 (p := 4) HQ.out.1.1
                refine call_in (i := 12) rfl (by kernel_rfl) (fun K hK => ?_)
                clear hHeld
                go_simp
                try (go_wp2_with fail)
                refine hK.out _ _ (hk.out _ (set5_below (later_hid HLwE (later_hid HLwD (later_alloc (later_alloc (later_hid HLwC (later_alloc (later_hid HLwB (later_hid HLwA (later_hid HLd (Below.refl _ _)))))))))) _ 0 _ _ _ _ _ HQ.out.1.2.2)) (fun hHeld => ?_)
                clear hK K ze0 ze1 ze2 ze3 ze4 zg0 zg1 zg2 zg3 zg4
                try simp only [Act.put, List.setIfInBounds_toArray, List.set_cons_zero, List.set_cons_succ]
                refine take_in (i := 13) (v := ?_) rfl (by kernel_rfl) (by kernel_rfl) (by kernel_rfl) (fun _ _ _ h => h) (by rfl) ?_ hHeld ?_
                rotate_left
                · intro w hSw
                  (try dsimp only at hSw)
                  go_simp
                  try with_reducible rfl
                try simp only [Act.put, List.setIfInBounds_toArray, List.set_cons_zero, List.set_cons_succ]
                refine wpAnyH_done (by kernel_rfl) ?_ _
                go_wp2_with fail
                go_meet
                refine ⟨?_, ?_⟩
                · exact cut5_early HQ.out HT11.out (later_hid HLwE (later_hid HLwD (later_alloc (later_alloc (later_hid HLwC (later_alloc (later_hid HLwB (later_hid HLwA (later_hid HLd (Below.refl _ _))))))))))
                · exact cut5_row HQ.out HTS.out
            · clear hHeld
              go_simp
              try (go_wp2_with fail)
              have HX := Lib.hid (bx_now (W := W2) (O := (.cells #[.int .i64 0, .int .i64 0, .string ⟨#[]⟩, .slice none 0 0, .slice none 0 0] 25)) (w0 := wC) (later_hid HLwC (later_alloc (later_hid HLwB (later_hid HLwA (later_hid HLd (Below.refl _ _)))))))
              refine hK.out _ _ (hk.out _ (later_alloc (later_hid HLwC (later_alloc (later_hid HLwB (later_hid HLwA (later_hid HLd (Below.refl _ _)))))))) (fun hHeld => ?_)
              clear hK K
              try simp only [Act.put, List.setIfInBounds_toArray, List.set_cons_zero, List.set_cons_succ]
              refine call_in (i := 5) rfl (by kernel_rfl) (fun K hK => ?_)
              clear hHeld
              go_simp
              try (go_wp2_with fail)
              refine hK.out _ _ (hk.out _ (later_alloc (later_alloc (later_hid HLwC (later_alloc (later_hid HLwB (later_hid HLwA (later_hid HLd (Below.refl _ _))))))))) (fun hHeld => ?_)
              clear hK K
              try simp only [Act.put, List.setIfInBounds_toArray, List.set_cons_zero, List.set_cons_succ]
              refine call_in (i := 6) rfl (by kernel_rfl) (fun K hK => ?_)
              clear hHeld
              go_simp
              go_at_call 15
              refine (app_al (tmV_tid (tmP_below (later_alloc (later_alloc (later_hid HLwC (later_alloc (later_hid HLwB (later_hid HLwA (later_hid HLd (Below.refl _ _)))))))) HT6.out)) (ts_al1 (tmP_below (later_alloc (later_hid HLwC (later_alloc (later_hid HLwB (Below.refl _ _))))) HT8.out) (tmP_below (later_alloc (Below.refl _ _)) HT9.out)) (by decide)).mono ?_
              rintro e wD ⟨l9, s9, he, ht, hb9⟩
              obtain rfl : e = Ending.returned (.agg #[.int .i64 4, .int .i64 0, .string ⟨#[]⟩, l9, s9]) := he
              obtain ⟨⟨la10, ll10, lc10, rfl⟩, sa10, sl10, sc10, rfl⟩ := tmP_slices ht
              have HT10 := Lib.hid (tmP_weak (Q := fun _ => True) (fun _ _ => trivial) ht)
              have HLwD := Lib.hid hb9
              clear ht hb9
              try (go_wp2_with fail)
              refine hK.out _ _ (hk.out _ (later_hid HLwD (later_alloc (later_alloc (later_hid HLwC (later_alloc (later_hid HLwB (later_hid HLwA (later_hid HLd (Below.refl _ _)))))))))) (fun hHeld => ?_)
              clear hK K
              try simp only [Act.put, List.setIfInBounds_toArray, List.set_cons_zero, List.set_cons_succ]
              refine call_in (i := 7) rfl (by kernel_rfl) (fun K hK => ?_)
              clear hHeld
              go_simp
              go_at_call 18
              refine (spine_al (tmV_tap (tmP_below (Below.refl _ _) HT10.out))).mono ?_
              rintro e wE ⟨l9, s9, A11, c11, he, ht, hts, hb9⟩
              obtain rfl : e = Ending.returned (.tuple #[.agg #[.int .i64 5, .int .i64 0, .string ⟨#[]⟩, l9, s9], .slice A11 2 c11]) := he
              obtain ⟨⟨la11, ll11, lc11, rfl⟩, sa11, sl11, sc11, rfl⟩ := tmP_slices ht
              have HT11 := Lib.hid ht
              have HTS := Lib.hid hts
              have HLwE := Lib.hid hb9
              have HQ := Lib.hid (((HX.out.keep (later_hid HLwD (later_alloc (Below.refl _ _))))).ahead hb9)
              clear ht hts hb9
              try (go_wp2_with fail)
              refine hK.out _ _ (hk.out _ (later_hid HLwE (later_hid HLwD (later_alloc (later_alloc (later_hid HLwC (later_alloc (later_hid HLwB (later_hid HLwA (later_hid HLd (Below.refl _ _))))))))))) (fun hHeld => ?_)
              clear hK K
              try simp only [Act.put, List.setIfInBounds_toArray, List.set_cons_zero, List.set_cons_succ]
              refine take_in (i := 8) (v := ?_) rfl (by kernel_rfl) (by kernel_rfl) (by kernel_rfl) (fun _ _ _ h => h) (by rfl) ?_ hHeld ?_
              rotate_left
              · intro w hSw
                (try dsimp only at hSw)
                go_simp
                try with_reducible rfl
              try simp only [Act.put, List.setIfInBounds_toArray, List.set_cons_zero, List.set_cons_succ]
              refine take_in (i := 9) (v := ?_) rfl (by kernel_rfl) (by kernel_rfl) (by kernel_rfl) (fun _ _ _ h => h) (by rfl) ?_ hHeld ?_
              rotate_left
              · intro w hSw
                (try dsimp only at hSw)
                go_simp
                try with_reducible rfl
              try simp only [Act.put, List.setIfInBounds_toArray, List.set_cons_zero, List.set_cons_succ]
              refine take_in (i := 10) (v := ?_) rfl (by kernel_rfl) (by kernel_rfl) (by kernel_rfl) (fun _ _ _ h => h) (by rfl) ?_ hHeld ?_
              rotate_left
              · intro w hSw
                (try dsimp only at hSw)
                go_simp
                try with_reducible rfl
              try simp only [Act.put, List.setIfInBounds_toArray, List.set_cons_zero, List.set_cons_succ]
              have ze := five_cells HQ.out.1.1
              obtain ⟨ze0, ze1, ze2, ze3, ze4⟩ := ze
              have zg0 := frozen0 (p := 0) HQ.out.1.1
              have zg1 := frozen0 (p := 1) HQ.out.1.1
              have zg2 := frozen0 (p := 2) HQ.out.1.1
              have zg3 := frozen0 (p := 3) HQ.out.1.1
              have zg4 := frozen0 (p := 4) HQ.out.1.1
              refine call_in (i := 12) rfl (by kernel_rfl) (fun K hK => ?_)
              clear hHeld
              go_simp
              try (go_wp2_with fail)
              refine hK.out _ _ (hk.out _ (set5_below (later_hid HLwE (later_hid HLwD (later_alloc (later_alloc (later_hid HLwC (later_alloc (later_hid HLwB (later_hid HLwA (later_hid HLd (Below.refl _ _)))))))))) _ 0 _ _ _ _ _ HQ.out.1.2.2)) (fun hHeld => ?_)
              clear hK K ze0 ze1 ze2 ze3 ze4 zg0 zg1 zg2 zg3 zg4
              try simp only [Act.put, List.setIfInBounds_toArray, List.set_cons_zero, List.set_cons_succ]
              refine take_in (i := 13) (v := ?_) rfl (by kernel_rfl) (by kernel_rfl) (by kernel_rfl) (fun _ _ _ h => h) (by rfl) ?_ hHeld ?_
              rotate_left
              · intro w hSw
                (try dsimp only at hSw)
                go_simp
                try with_reducible rfl
              try simp only [Act.put, List.setIfInBounds_toArray, List.set_cons_zero, List.set_cons_succ]
              refine wpAnyH_done (by kernel_rfl) ?_ _
              go_wp2_with fail
              go_meet
              refine ⟨?_, ?_⟩
              · exact cut5_early HQ.out HT11.out (later_hid HLwE (later_hid HLwD (later_alloc (later_alloc (later_hid HLwC (later_alloc (later_hid HLwB (later_hid HLwA (later_hid HLd (Below.refl _ _))))))))))
              · exact cut5_row HQ.out HTS.out
          · clear hHeld
            go_simp
            try (go_wp2_with fail)
            have HX := Lib.hid (bx_now1 (W := W2) (O := (.cells #[.int .i64 0, .int .i64 0, .string ⟨#[]⟩, .slice none 0 0, .slice none 0 0] 25)) (w0 := wB) (O' := (.cells #[.int .i64 1, .int .i64 0, .slice none 0 0] 45)) (later_hid HLwB (later_hid HLwA (later_hid HLd (Below.refl _ _)))))
            refine hK.out _ _ (hk.out _ (later_alloc (later_alloc (later_hid HLwB (later_hid HLwA (later_hid HLd (Below.refl _ _))))))) (fun hHeld => ?_)
            clear hK K
            try simp only [Act.put, List.setIfInBounds_toArray, List.set_cons_zero, List.set_cons_succ]
            refine call_in (i := 4) rfl (by kernel_rfl) (fun K hK => ?_)
            clear hHeld
            go_simp
            go_at_call 27
            refine (const_is ⟨#[98]⟩ [lz0] _ _ (fun _ => True) (lv_one2 _ _) (by decide) (by intro a ha; simp at ha; subst ha; decide)).mono ?_
            rintro e wC ⟨l9, s9, he, ht, hb9⟩
            obtain rfl : e = Ending.returned (.agg #[.int .i64 3, .int .i64 0, .string ⟨#[98]⟩, l9, s9]) := he
            obtain ⟨⟨la9, ll9, lc9, rfl⟩, sa9, sl9, sc9, rfl⟩ := tmP_slices ht
            have HT9 := Lib.hid (tmP_weak (Q := fun _ => True) (fun _ _ => trivial) ht)
            have HLwC := Lib.hid hb9
            clear ht hb9
            try (go_wp2_with fail)
            refine hK.out _ _ (hk.out _ (later_hid HLwC (later_alloc (later_alloc (later_hid HLwB (later_hid HLwA (later_hid HLd (Below.refl _ _)))))))) (fun hHeld => ?_)
            clear hK K
            try simp only [Act.put, List.setIfInBounds_toArray, List.set_cons_zero, List.set_cons_succ]
            refine call_in (i := 5) rfl (by kernel_rfl) (fun K hK => ?_)
            clear hHeld
            go_simp
            try (go_wp2_with fail)
            refine hK.out _ _ (hk.out _ (later_alloc (later_hid HLwC (later_alloc (later_alloc (later_hid HLwB (later_hid HLwA (later_hid HLd (Below.refl _ _))))))))) (fun hHeld => ?_)
            clear hK K
            try simp only [Act.put, List.setIfInBounds_toArray, List.set_cons_zero, List.set_cons_succ]
            refine call_in (i := 6) rfl (by kernel_rfl) (fun K hK => ?_)
            clear hHeld
            go_simp
            go_at_call 15
            refine (app_al (tmV_tid (tmP_below (later_alloc (later_hid HLwC (later_alloc (later_alloc (later_hid HLwB (later_hid HLwA (later_hid HLd (Below.refl _ _)))))))) HT6.out)) (ts_al (tmP_below (later_hid HLwC (later_alloc (later_alloc (later_hid HLwB (Below.refl _ _))))) HT8.out) (tmP_below (Below.refl _ _) HT9.out)) (by decide)).mono ?_
            rintro e wD ⟨l9, s9, he, ht, hb9⟩
            obtain rfl : e = Ending.returned (.agg #[.int .i64 4, .int .i64 0, .string ⟨#[]⟩, l9, s9]) := he
            obtain ⟨⟨la10, ll10, lc10, rfl⟩, sa10, sl10, sc10, rfl⟩ := tmP_slices ht
            have HT10 := Lib.hid (tmP_weak (Q := fun _ => True) (fun _ _ => trivial) ht)
            have HLwD := Lib.hid hb9
            clear ht hb9
            try (go_wp2_with fail)
            refine hK.out _ _ (hk.out _ (later_hid HLwD (later_alloc (later_hid HLwC (later_alloc (later_alloc (later_hid HLwB (later_hid HLwA (later_hid HLd (Below.refl _ _)))))))))) (fun hHeld => ?_)
            clear hK K
            try simp only [Act.put, List.setIfInBounds_toArray, List.set_cons_zero, List.set_cons_succ]
            refine call_in (i := 7) rfl (by kernel_rfl) (fun K hK => ?_)
            clear hHeld
            go_simp
            go_at_call 18
            refine (spine_al (tmV_tap (tmP_below (Below.refl _ _) HT10.out))).mono ?_
            rintro e wE ⟨l9, s9, A11, c11, he, ht, hts, hb9⟩
            obtain rfl : e = Ending.returned (.tuple #[.agg #[.int .i64 5, .int .i64 0, .string ⟨#[]⟩, l9, s9], .slice A11 2 c11]) := he
            obtain ⟨⟨la11, ll11, lc11, rfl⟩, sa11, sl11, sc11, rfl⟩ := tmP_slices ht
            have HT11 := Lib.hid ht
            have HTS := Lib.hid hts
            have HLwE := Lib.hid hb9
            have HQ := Lib.hid (((HX.out.keep (later_hid HLwD (later_alloc (later_hid HLwC (Below.refl _ _)))))).ahead hb9)
            clear ht hts hb9
            try (go_wp2_with fail)
            refine hK.out _ _ (hk.out _ (later_hid HLwE (later_hid HLwD (later_alloc (later_hid HLwC (later_alloc (later_alloc (later_hid HLwB (later_hid HLwA (later_hid HLd (Below.refl _ _))))))))))) (fun hHeld => ?_)
            clear hK K
            try simp only [Act.put, List.setIfInBounds_toArray, List.set_cons_zero, List.set_cons_succ]
            refine take_in (i := 8) (v := ?_) rfl (by kernel_rfl) (by kernel_rfl) (by kernel_rfl) (fun _ _ _ h => h) (by rfl) ?_ hHeld ?_
            rotate_left
            · intro w hSw
              (try dsimp only at hSw)
              go_simp
              try with_reducible rfl
            try simp only [Act.put, List.setIfInBounds_toArray, List.set_cons_zero, List.set_cons_succ]
            refine take_in (i := 9) (v := ?_) rfl (by kernel_rfl) (by kernel_rfl) (by kernel_rfl) (fun _ _ _ h => h) (by rfl) ?_ hHeld ?_
            rotate_left
            · intro w hSw
              (try dsimp only at hSw)
              go_simp
              try with_reducible rfl
            try simp only [Act.put, List.setIfInBounds_toArray, List.set_cons_zero, List.set_cons_succ]
            refine take_in (i := 10) (v := ?_) rfl (by kernel_rfl) (by kernel_rfl) (by kernel_rfl) (fun _ _ _ h => h) (by rfl) ?_ hHeld ?_
            rotate_left
            · intro w hSw
              (try dsimp only at hSw)
              go_simp
              try with_reducible rfl
            try simp only [Act.put, List.setIfInBounds_toArray, List.set_cons_zero, List.set_cons_succ]
            have ze := five_cells HQ.out.1.1
            obtain ⟨ze0, ze1, ze2, ze3, ze4⟩ := ze
            have zg0 := frozen0 (p := 0) HQ.out.1.1
            have zg1 := frozen0 (p := 1) HQ.out.1.1
            have zg2 := frozen0 (p := 2) HQ.out.1.1
            have zg3 := frozen0 (p := 3) HQ.out.1.1
            have zg4 := frozen0 (p := 4) HQ.out.1.1
            refine call_in (i := 12) rfl (by kernel_rfl) (fun K hK => ?_)
            clear hHeld
            go_simp
            try (go_wp2_with fail)
            refine hK.out _ _ (hk.out _ (set5_below (later_hid HLwE (later_hid HLwD (later_alloc (later_hid HLwC (later_alloc (later_alloc (later_hid HLwB (later_hid HLwA (later_hid HLd (Below.refl _ _)))))))))) _ 0 _ _ _ _ _ HQ.out.1.2.2)) (fun hHeld => ?_)
            clear hK K ze0 ze1 ze2 ze3 ze4 zg0 zg1 zg2 zg3 zg4
            try simp only [Act.put, List.setIfInBounds_toArray, List.set_cons_zero, List.set_cons_succ]
            refine take_in (i := 13) (v := ?_) rfl (by kernel_rfl) (by kernel_rfl) (by kernel_rfl) (fun _ _ _ h => h) (by rfl) ?_ hHeld ?_
            rotate_left
            · intro w hSw
              (try dsimp only at hSw)
              go_simp
              try with_reducible rfl
            try simp only [Act.put, List.setIfInBounds_toArray, List.set_cons_zero, List.set_cons_succ]
            refine wpAnyH_done (by kernel_rfl) ?_ _
            go_wp2_with fail
            go_meet
            refine ⟨?_, ?_⟩
            · exact cut5_early HQ.out HT11.out (later_hid HLwE (later_hid HLwD (later_alloc (later_hid HLwC (later_alloc (later_alloc (later_hid HLwB (later_hid HLwA (later_hid HLd (Below.refl _ _))))))))))
            · exact cut5_row HQ.out HTS.out
        · clear hHeld
          go_simp
          try (go_wp2_with fail)
          have HX := Lib.hid (bx_now (W := W2) (O := (.cells #[.int .i64 0, .int .i64 0, .string ⟨#[]⟩, .slice none 0 0, .slice none 0 0] 25)) (w0 := wB) (later_hid HLwB (later_hid HLwA (later_hid HLd (Below.refl _ _)))))
          refine hK.out _ _ (hk.out _ (later_alloc (later_hid HLwB (later_hid HLwA (later_hid HLd (Below.refl _ _)))))) (fun hHeld => ?_)
          clear hK K
          try simp only [Act.put, List.setIfInBounds_toArray, List.set_cons_zero, List.set_cons_succ]
          refine call_in (i := 3) rfl (by kernel_rfl) (fun K hK => ?_)
          clear hHeld
          go_simp
          try (go_wp2_with fail)
          refine hK.out _ _ (hk.out _ (later_alloc (later_alloc (later_hid HLwB (later_hid HLwA (later_hid HLd (Below.refl _ _))))))) (fun hHeld => ?_)
          clear hK K
          try simp only [Act.put, List.setIfInBounds_toArray, List.set_cons_zero, List.set_cons_succ]
          refine call_in (i := 4) rfl (by kernel_rfl) (fun K hK => ?_)
          clear hHeld
          go_simp
          go_at_call 27
          refine (const_is ⟨#[98]⟩ [lz0] _ _ (fun _ => True) (lv_one1 _ _) (by decide) (by intro a ha; simp at ha; subst ha; decide)).mono ?_
          rintro e wC ⟨l9, s9, he, ht, hb9⟩
          obtain rfl : e = Ending.returned (.agg #[.int .i64 3, .int .i64 0, .string ⟨#[98]⟩, l9, s9]) := he
          obtain ⟨⟨la9, ll9, lc9, rfl⟩, sa9, sl9, sc9, rfl⟩ := tmP_slices ht
          have HT9 := Lib.hid (tmP_weak (Q := fun _ => True) (fun _ _ => trivial) ht)
          have HLwC := Lib.hid hb9
          clear ht hb9
          try (go_wp2_with fail)
          refine hK.out _ _ (hk.out _ (later_hid HLwC (later_alloc (later_alloc (later_hid HLwB (later_hid HLwA (later_hid HLd (Below.refl _ _)))))))) (fun hHeld => ?_)
          clear hK K
          try simp only [Act.put, List.setIfInBounds_toArray, List.set_cons_zero, List.set_cons_succ]
          refine call_in (i := 5) rfl (by kernel_rfl) (fun K hK => ?_)
          clear hHeld
          go_simp
          try (go_wp2_with fail)
          refine hK.out _ _ (hk.out _ (later_alloc (later_hid HLwC (later_alloc (later_alloc (later_hid HLwB (later_hid HLwA (later_hid HLd (Below.refl _ _))))))))) (fun hHeld => ?_)
          clear hK K
          try simp only [Act.put, List.setIfInBounds_toArray, List.set_cons_zero, List.set_cons_succ]
          refine call_in (i := 6) rfl (by kernel_rfl) (fun K hK => ?_)
          clear hHeld
          go_simp
          go_at_call 15
          refine (app_al (tmV_tid (tmP_below (later_alloc (later_hid HLwC (later_alloc (later_alloc (later_hid HLwB (later_hid HLwA (later_hid HLd (Below.refl _ _)))))))) HT6.out)) (ts_al (tmP_below (later_hid HLwC (later_alloc (later_alloc (later_hid HLwB (Below.refl _ _))))) HT8.out) (tmP_below (Below.refl _ _) HT9.out)) (by decide)).mono ?_
          rintro e wD ⟨l9, s9, he, ht, hb9⟩
          obtain rfl : e = Ending.returned (.agg #[.int .i64 4, .int .i64 0, .string ⟨#[]⟩, l9, s9]) := he
          obtain ⟨⟨la10, ll10, lc10, rfl⟩, sa10, sl10, sc10, rfl⟩ := tmP_slices ht
          have HT10 := Lib.hid (tmP_weak (Q := fun _ => True) (fun _ _ => trivial) ht)
          have HLwD := Lib.hid hb9
          clear ht hb9
          try (go_wp2_with fail)
          refine hK.out _ _ (hk.out _ (later_hid HLwD (later_alloc (later_hid HLwC (later_alloc (later_alloc (later_hid HLwB (later_hid HLwA (later_hid HLd (Below.refl _ _)))))))))) (fun hHeld => ?_)
          clear hK K
          try simp only [Act.put, List.setIfInBounds_toArray, List.set_cons_zero, List.set_cons_succ]
          refine call_in (i := 7) rfl (by kernel_rfl) (fun K hK => ?_)
          clear hHeld
          go_simp
          go_at_call 18
          refine (spine_al (tmV_tap (tmP_below (Below.refl _ _) HT10.out))).mono ?_
          rintro e wE ⟨l9, s9, A11, c11, he, ht, hts, hb9⟩
          obtain rfl : e = Ending.returned (.tuple #[.agg #[.int .i64 5, .int .i64 0, .string ⟨#[]⟩, l9, s9], .slice A11 2 c11]) := he
          obtain ⟨⟨la11, ll11, lc11, rfl⟩, sa11, sl11, sc11, rfl⟩ := tmP_slices ht
          have HT11 := Lib.hid ht
          have HTS := Lib.hid hts
          have HLwE := Lib.hid hb9
          have HQ := Lib.hid (((HX.out.keep (later_hid HLwD (later_alloc (later_hid HLwC (later_alloc (Below.refl _ _))))))).ahead hb9)
          clear ht hts hb9
          try (go_wp2_with fail)
          refine hK.out _ _ (hk.out _ (later_hid HLwE (later_hid HLwD (later_alloc (later_hid HLwC (later_alloc (later_alloc (later_hid HLwB (later_hid HLwA (later_hid HLd (Below.refl _ _))))))))))) (fun hHeld => ?_)
          clear hK K
          try simp only [Act.put, List.setIfInBounds_toArray, List.set_cons_zero, List.set_cons_succ]
          refine take_in (i := 8) (v := ?_) rfl (by kernel_rfl) (by kernel_rfl) (by kernel_rfl) (fun _ _ _ h => h) (by rfl) ?_ hHeld ?_
          rotate_left
          · intro w hSw
            (try dsimp only at hSw)
            go_simp
            try with_reducible rfl
          try simp only [Act.put, List.setIfInBounds_toArray, List.set_cons_zero, List.set_cons_succ]
          refine take_in (i := 9) (v := ?_) rfl (by kernel_rfl) (by kernel_rfl) (by kernel_rfl) (fun _ _ _ h => h) (by rfl) ?_ hHeld ?_
          rotate_left
          · intro w hSw
            (try dsimp only at hSw)
            go_simp
            try with_reducible rfl
          try simp only [Act.put, List.setIfInBounds_toArray, List.set_cons_zero, List.set_cons_succ]
          refine take_in (i := 10) (v := ?_) rfl (by kernel_rfl) (by kernel_rfl) (by kernel_rfl) (fun _ _ _ h => h) (by rfl) ?_ hHeld ?_
          rotate_left
          · intro w hSw
            (try dsimp only at hSw)
            go_simp
            try with_reducible rfl
          try simp only [Act.put, List.setIfInBounds_toArray, List.set_cons_zero, List.set_cons_succ]
          have ze := five_cells HQ.out.1.1
          obtain ⟨ze0, ze1, ze2, ze3, ze4⟩ := ze
          have zg0 := frozen0 (p := 0) HQ.out.1.1
          have zg1 := frozen0 (p := 1) HQ.out.1.1
          have zg2 := frozen0 (p := 2) HQ.out.1.1
          have zg3 := frozen0 (p := 3) HQ.out.1.1
          have zg4 := frozen0 (p := 4) HQ.out.1.1
          refine call_in (i := 12) rfl (by kernel_rfl) (fun K hK => ?_)
          clear hHeld
          go_simp
          try (go_wp2_with fail)
          refine hK.out _ _ (hk.out _ (set5_below (later_hid HLwE (later_hid HLwD (later_alloc (later_hid HLwC (later_alloc (later_alloc (later_hid HLwB (later_hid HLwA (later_hid HLd (Below.refl _ _)))))))))) _ 0 _ _ _ _ _ HQ.out.1.2.2)) (fun hHeld => ?_)
          clear hK K ze0 ze1 ze2 ze3 ze4 zg0 zg1 zg2 zg3 zg4
          try simp only [Act.put, List.setIfInBounds_toArray, List.set_cons_zero, List.set_cons_succ]
          refine take_in (i := 13) (v := ?_) rfl (by kernel_rfl) (by kernel_rfl) (by kernel_rfl) (fun _ _ _ h => h) (by rfl) ?_ hHeld ?_
          rotate_left
          · intro w hSw
            (try dsimp only at hSw)
            go_simp
            try with_reducible rfl
          try simp only [Act.put, List.setIfInBounds_toArray, List.set_cons_zero, List.set_cons_succ]
          refine wpAnyH_done (by kernel_rfl) ?_ _
          go_wp2_with fail
          go_meet
          refine ⟨?_, ?_⟩
          · exact cut5_early HQ.out HT11.out (later_hid HLwE (later_hid HLwD (later_alloc (later_hid HLwC (later_alloc (later_alloc (later_hid HLwB (later_hid HLwA (later_hid HLd (Below.refl _ _))))))))))
          · exact cut5_row HQ.out HTS.out
      · clear hHeld
        go_simp
        try (go_wp2_with fail)
        have HX := Lib.hid (bx_now (W := W2) (O := (.cells #[.int .i64 0, .int .i64 0, .string ⟨#[]⟩, .slice none 0 0, .slice none 0 0] 25)) (w0 := wA) (later_hid HLwA (later_hid HLd (Below.refl _ _))))
        refine hK.out _ _ (hk.out _ (later_alloc (later_hid HLwA (later_hid HLd (Below.refl _ _))))) (fun hHeld => ?_)
        clear hK K
        try simp only [Act.put, List.setIfInBounds_toArray, List.set_cons_zero, List.set_cons_succ]
        refine call_in (i := 2) rfl (by kernel_rfl) (fun K hK => ?_)
        clear hHeld
        go_simp
        go_at_call 26
        refine (zero_ret _).mono ?_
        rintro e wB ⟨rfl, hb9⟩
        have HLwB := Lib.hid hb9
        clear hb9
        try (go_wp2_with fail)
        refine hK.out _ _ (hk.out _ (later_hid HLwB (later_alloc (later_hid HLwA (later_hid HLd (Below.refl _ _)))))) (fun hHeld => ?_)
        clear hK K
        try simp only [Act.put, List.setIfInBounds_toArray, List.set_cons_zero, List.set_cons_succ]
        refine call_in (i := 3) rfl (by kernel_rfl) (fun K hK => ?_)
        clear hHeld
        go_simp
        try (go_wp2_with fail)
        refine hK.out _ _ (hk.out _ (later_alloc (later_hid HLwB (later_alloc (later_hid HLwA (later_hid HLd (Below.refl _ _))))))) (fun hHeld => ?_)
        clear hK K
        try simp only [Act.put, List.setIfInBounds_toArray, List.set_cons_zero, List.set_cons_succ]
        refine call_in (i := 4) rfl (by kernel_rfl) (fun K hK => ?_)
        clear hHeld
        go_simp
        go_at_call 27
        refine (const_is ⟨#[98]⟩ [lz0] _ _ (fun _ => True) (lv_one _) (by decide) (by intro a ha; simp at ha; subst ha; decide)).mono ?_
        rintro e wC ⟨l9, s9, he, ht, hb9⟩
        obtain rfl : e = Ending.returned (.agg #[.int .i64 3, .int .i64 0, .string ⟨#[98]⟩, l9, s9]) := he
        obtain ⟨⟨la9, ll9, lc9, rfl⟩, sa9, sl9, sc9, rfl⟩ := tmP_slices ht
        have HT9 := Lib.hid (tmP_weak (Q := fun _ => True) (fun _ _ => trivial) ht)
        have HLwC := Lib.hid hb9
        clear ht hb9
        try (go_wp2_with fail)
        refine hK.out _ _ (hk.out _ (later_hid HLwC (later_alloc (later_hid HLwB (later_alloc (later_hid HLwA (later_hid HLd (Below.refl _ _)))))))) (fun hHeld => ?_)
        clear hK K
        try simp only [Act.put, List.setIfInBounds_toArray, List.set_cons_zero, List.set_cons_succ]
        refine call_in (i := 5) rfl (by kernel_rfl) (fun K hK => ?_)
        clear hHeld
        go_simp
        try (go_wp2_with fail)
        refine hK.out _ _ (hk.out _ (later_alloc (later_hid HLwC (later_alloc (later_hid HLwB (later_alloc (later_hid HLwA (later_hid HLd (Below.refl _ _))))))))) (fun hHeld => ?_)
        clear hK K
        try simp only [Act.put, List.setIfInBounds_toArray, List.set_cons_zero, List.set_cons_succ]
        refine call_in (i := 6) rfl (by kernel_rfl) (fun K hK => ?_)
        clear hHeld
        go_simp
        go_at_call 15
        refine (app_al (tmV_tid (tmP_below (later_alloc (later_hid HLwC (later_alloc (later_hid HLwB (later_alloc (later_hid HLwA (later_hid HLd (Below.refl _ _)))))))) HT6.out)) (ts_al (tmP_below (later_hid HLwC (later_alloc (later_hid HLwB (later_alloc (Below.refl _ _))))) HT8.out) (tmP_below (Below.refl _ _) HT9.out)) (by decide)).mono ?_
        rintro e wD ⟨l9, s9, he, ht, hb9⟩
        obtain rfl : e = Ending.returned (.agg #[.int .i64 4, .int .i64 0, .string ⟨#[]⟩, l9, s9]) := he
        obtain ⟨⟨la10, ll10, lc10, rfl⟩, sa10, sl10, sc10, rfl⟩ := tmP_slices ht
        have HT10 := Lib.hid (tmP_weak (Q := fun _ => True) (fun _ _ => trivial) ht)
        have HLwD := Lib.hid hb9
        clear ht hb9
        try (go_wp2_with fail)
        refine hK.out _ _ (hk.out _ (later_hid HLwD (later_alloc (later_hid HLwC (later_alloc (later_hid HLwB (later_alloc (later_hid HLwA (later_hid HLd (Below.refl _ _)))))))))) (fun hHeld => ?_)
        clear hK K
        try simp only [Act.put, List.setIfInBounds_toArray, List.set_cons_zero, List.set_cons_succ]
        refine call_in (i := 7) rfl (by kernel_rfl) (fun K hK => ?_)
        clear hHeld
        go_simp
        go_at_call 18
        refine (spine_al (tmV_tap (tmP_below (Below.refl _ _) HT10.out))).mono ?_
        rintro e wE ⟨l9, s9, A11, c11, he, ht, hts, hb9⟩
        obtain rfl : e = Ending.returned (.tuple #[.agg #[.int .i64 5, .int .i64 0, .string ⟨#[]⟩, l9, s9], .slice A11 2 c11]) := he
        obtain ⟨⟨la11, ll11, lc11, rfl⟩, sa11, sl11, sc11, rfl⟩ := tmP_slices ht
        have HT11 := Lib.hid ht
        have HTS := Lib.hid hts
        have HLwE := Lib.hid hb9
        have HQ := Lib.hid (((HX.out.keep (later_hid HLwD (later_alloc (later_hid HLwC (later_alloc (later_hid HLwB (Below.refl _ _)))))))).ahead hb9)
        clear ht hts hb9
        try (go_wp2_with fail)
        refine hK.out _ _ (hk.out _ (later_hid HLwE (later_hid HLwD (later_alloc (later_hid HLwC (later_alloc (later_hid HLwB (later_alloc (later_hid HLwA (later_hid HLd (Below.refl _ _))))))))))) (fun hHeld => ?_)
        clear hK K
        try simp only [Act.put, List.setIfInBounds_toArray, List.set_cons_zero, List.set_cons_succ]
        refine take_in (i := 8) (v := ?_) rfl (by kernel_rfl) (by kernel_rfl) (by kernel_rfl) (fun _ _ _ h => h) (by rfl) ?_ hHeld ?_
        rotate_left
        · intro w hSw
          (try dsimp only at hSw)
          go_simp
          try with_reducible rfl
        try simp only [Act.put, List.setIfInBounds_toArray, List.set_cons_zero, List.set_cons_succ]
        refine take_in (i := 9) (v := ?_) rfl (by kernel_rfl) (by kernel_rfl) (by kernel_rfl) (fun _ _ _ h => h) (by rfl) ?_ hHeld ?_
        rotate_left
        · intro w hSw
          (try dsimp only at hSw)
          go_simp
          try with_reducible rfl
        try simp only [Act.put, List.setIfInBounds_toArray, List.set_cons_zero, List.set_cons_succ]
        refine take_in (i := 10) (v := ?_) rfl (by kernel_rfl) (by kernel_rfl) (by kernel_rfl) (fun _ _ _ h => h) (by rfl) ?_ hHeld ?_
        rotate_left
        · intro w hSw
          (try dsimp only at hSw)
          go_simp
          try with_reducible rfl
        try simp only [Act.put, List.setIfInBounds_toArray, List.set_cons_zero, List.set_cons_succ]
        have ze := five_cells HQ.out.1.1
        obtain ⟨ze0, ze1, ze2, ze3, ze4⟩ := ze
        have zg0 := frozen0 (p := 0) HQ.out.1.1
        have zg1 := frozen0 (p := 1) HQ.out.1.1
        have zg2 := frozen0 (p := 2) HQ.out.1.1
        have zg3 := frozen0 (p := 3) HQ.out.1.1
        have zg4 := frozen0 (p := 4) HQ.out.1.1
        refine call_in (i := 12) rfl (by kernel_rfl) (fun K hK => ?_)
        clear hHeld
        go_simp
        try (go_wp2_with fail)
        refine hK.out _ _ (hk.out _ (set5_below (later_hid HLwE (later_hid HLwD (later_alloc (later_hid HLwC (later_alloc (later_hid HLwB (later_alloc (later_hid HLwA (later_hid HLd (Below.refl _ _)))))))))) _ 0 _ _ _ _ _ HQ.out.1.2.2)) (fun hHeld => ?_)
        clear hK K ze0 ze1 ze2 ze3 ze4 zg0 zg1 zg2 zg3 zg4
        try simp only [Act.put, List.setIfInBounds_toArray, List.set_cons_zero, List.set_cons_succ]
        refine take_in (i := 13) (v := ?_) rfl (by kernel_rfl) (by kernel_rfl) (by kernel_rfl) (fun _ _ _ h => h) (by rfl) ?_ hHeld ?_
        rotate_left
        · intro w hSw
          (try dsimp only at hSw)
          go_simp
          try with_reducible rfl
        try simp only [Act.put, List.setIfInBounds_toArray, List.set_cons_zero, List.set_cons_succ]
        refine wpAnyH_done (by kernel_rfl) ?_ _
        go_wp2_with fail
        go_meet
        refine ⟨?_, ?_⟩
        · exact cut5_early HQ.out HT11.out (later_hid HLwE (later_hid HLwD (later_alloc (later_hid HLwC (later_alloc (later_hid HLwB (later_alloc (later_hid HLwA (later_hid HLd (Below.refl _ _))))))))))
        · exact cut5_row HQ.out HTS.out
    · clear hHeld
      go_simp
      try (go_wp2_with fail)
      have HX := Lib.hid (bx_now (W := W2) (O := (.cells #[.int .i64 0, .int .i64 0, .string ⟨#[]⟩, .slice none 0 0, .slice none 0 0] 25)) (w0 := Wd) (later_hid HLd (Below.refl _ _)))
      refine hK.out _ _ (hk.out _ (later_alloc (later_hid HLd (Below.refl _ _)))) (fun hHeld => ?_)
      clear hK K
      try simp only [Act.put, List.setIfInBounds_toArray, List.set_cons_zero, List.set_cons_succ]
      refine call_in (i := 1) rfl (by kernel_rfl) (fun K hK => ?_)
      clear hHeld
      go_simp
      go_at_call 27
      refine (const_is ⟨#[97]⟩ [] _ _ (fun _ => True) (lvP_nil _ _) (by decide) (by intro a ha; cases ha)).mono ?_
      rintro e wA ⟨l9, s9, he, ht, hb9⟩
      obtain rfl : e = Ending.returned (.agg #[.int .i64 3, .int .i64 0, .string ⟨#[97]⟩, l9, s9]) := he
      obtain ⟨⟨la8, ll8, lc8, rfl⟩, sa8, sl8, sc8, rfl⟩ := tmP_slices ht
      have HT8 := Lib.hid (tmP_weak (Q := fun _ => True) (fun _ _ => trivial) ht)
      have HLwA := Lib.hid hb9
      clear ht hb9
      try (go_wp2_with fail)
      refine hK.out _ _ (hk.out _ (later_hid HLwA (later_alloc (later_hid HLd (Below.refl _ _))))) (fun hHeld => ?_)
      clear hK K
      try simp only [Act.put, List.setIfInBounds_toArray, List.set_cons_zero, List.set_cons_succ]
      refine call_in (i := 2) rfl (by kernel_rfl) (fun K hK => ?_)
      clear hHeld
      go_simp
      go_at_call 26
      refine (zero_ret _).mono ?_
      rintro e wB ⟨rfl, hb9⟩
      have HLwB := Lib.hid hb9
      clear hb9
      try (go_wp2_with fail)
      refine hK.out _ _ (hk.out _ (later_hid HLwB (later_hid HLwA (later_alloc (later_hid HLd (Below.refl _ _)))))) (fun hHeld => ?_)
      clear hK K
      try simp only [Act.put, List.setIfInBounds_toArray, List.set_cons_zero, List.set_cons_succ]
      refine call_in (i := 3) rfl (by kernel_rfl) (fun K hK => ?_)
      clear hHeld
      go_simp
      try (go_wp2_with fail)
      refine hK.out _ _ (hk.out _ (later_alloc (later_hid HLwB (later_hid HLwA (later_alloc (later_hid HLd (Below.refl _ _))))))) (fun hHeld => ?_)
      clear hK K
      try simp only [Act.put, List.setIfInBounds_toArray, List.set_cons_zero, List.set_cons_succ]
      refine call_in (i := 4) rfl (by kernel_rfl) (fun K hK => ?_)
      clear hHeld
      go_simp
      go_at_call 27
      refine (const_is ⟨#[98]⟩ [lz0] _ _ (fun _ => True) (lv_one _) (by decide) (by intro a ha; simp at ha; subst ha; decide)).mono ?_
      rintro e wC ⟨l9, s9, he, ht, hb9⟩
      obtain rfl : e = Ending.returned (.agg #[.int .i64 3, .int .i64 0, .string ⟨#[98]⟩, l9, s9]) := he
      obtain ⟨⟨la9, ll9, lc9, rfl⟩, sa9, sl9, sc9, rfl⟩ := tmP_slices ht
      have HT9 := Lib.hid (tmP_weak (Q := fun _ => True) (fun _ _ => trivial) ht)
      have HLwC := Lib.hid hb9
      clear ht hb9
      try (go_wp2_with fail)
      refine hK.out _ _ (hk.out _ (later_hid HLwC (later_alloc (later_hid HLwB (later_hid HLwA (later_alloc (later_hid HLd (Below.refl _ _)))))))) (fun hHeld => ?_)
      clear hK K
      try simp only [Act.put, List.setIfInBounds_toArray, List.set_cons_zero, List.set_cons_succ]
      refine call_in (i := 5) rfl (by kernel_rfl) (fun K hK => ?_)
      clear hHeld
      go_simp
      try (go_wp2_with fail)
      refine hK.out _ _ (hk.out _ (later_alloc (later_hid HLwC (later_alloc (later_hid HLwB (later_hid HLwA (later_alloc (later_hid HLd (Below.refl _ _))))))))) (fun hHeld => ?_)
      clear hK K
      try simp only [Act.put, List.setIfInBounds_toArray, List.set_cons_zero, List.set_cons_succ]
      refine call_in (i := 6) rfl (by kernel_rfl) (fun K hK => ?_)
      clear hHeld
      go_simp
      go_at_call 15
      refine (app_al (tmV_tid (tmP_below (later_alloc (later_hid HLwC (later_alloc (later_hid HLwB (later_hid HLwA (later_alloc (later_hid HLd (Below.refl _ _)))))))) HT6.out)) (ts_al (tmP_below (later_hid HLwC (later_alloc (later_hid HLwB (Below.refl _ _)))) HT8.out) (tmP_below (Below.refl _ _) HT9.out)) (by decide)).mono ?_
      rintro e wD ⟨l9, s9, he, ht, hb9⟩
      obtain rfl : e = Ending.returned (.agg #[.int .i64 4, .int .i64 0, .string ⟨#[]⟩, l9, s9]) := he
      obtain ⟨⟨la10, ll10, lc10, rfl⟩, sa10, sl10, sc10, rfl⟩ := tmP_slices ht
      have HT10 := Lib.hid (tmP_weak (Q := fun _ => True) (fun _ _ => trivial) ht)
      have HLwD := Lib.hid hb9
      clear ht hb9
      try (go_wp2_with fail)
      refine hK.out _ _ (hk.out _ (later_hid HLwD (later_alloc (later_hid HLwC (later_alloc (later_hid HLwB (later_hid HLwA (later_alloc (later_hid HLd (Below.refl _ _)))))))))) (fun hHeld => ?_)
      clear hK K
      try simp only [Act.put, List.setIfInBounds_toArray, List.set_cons_zero, List.set_cons_succ]
      refine call_in (i := 7) rfl (by kernel_rfl) (fun K hK => ?_)
      clear hHeld
      go_simp
      go_at_call 18
      refine (spine_al (tmV_tap (tmP_below (Below.refl _ _) HT10.out))).mono ?_
      rintro e wE ⟨l9, s9, A11, c11, he, ht, hts, hb9⟩
      obtain rfl : e = Ending.returned (.tuple #[.agg #[.int .i64 5, .int .i64 0, .string ⟨#[]⟩, l9, s9], .slice A11 2 c11]) := he
      obtain ⟨⟨la11, ll11, lc11, rfl⟩, sa11, sl11, sc11, rfl⟩ := tmP_slices ht
      have HT11 := Lib.hid ht
      have HTS := Lib.hid hts
      have HLwE := Lib.hid hb9
      have HQ := Lib.hid (((HX.out.keep (later_hid HLwD (later_alloc (later_hid HLwC (later_alloc (later_hid HLwB (later_hid HLwA (Below.refl _ _))))))))).ahead hb9)
      clear ht hts hb9
      try (go_wp2_with fail)
      refine hK.out _ _ (hk.out _ (later_hid HLwE (later_hid HLwD (later_alloc (later_hid HLwC (later_alloc (later_hid HLwB (later_hid HLwA (later_alloc (later_hid HLd (Below.refl _ _))))))))))) (fun hHeld => ?_)
      clear hK K
      try simp only [Act.put, List.setIfInBounds_toArray, List.set_cons_zero, List.set_cons_succ]
      refine take_in (i := 8) (v := ?_) rfl (by kernel_rfl) (by kernel_rfl) (by kernel_rfl) (fun _ _ _ h => h) (by rfl) ?_ hHeld ?_
      rotate_left
      · intro w hSw
        (try dsimp only at hSw)
        go_simp
        try with_reducible rfl
      try simp only [Act.put, List.setIfInBounds_toArray, List.set_cons_zero, List.set_cons_succ]
      refine take_in (i := 9) (v := ?_) rfl (by kernel_rfl) (by kernel_rfl) (by kernel_rfl) (fun _ _ _ h => h) (by rfl) ?_ hHeld ?_
      rotate_left
      · intro w hSw
        (try dsimp only at hSw)
        go_simp
        try with_reducible rfl
      try simp only [Act.put, List.setIfInBounds_toArray, List.set_cons_zero, List.set_cons_succ]
      refine take_in (i := 10) (v := ?_) rfl (by kernel_rfl) (by kernel_rfl) (by kernel_rfl) (fun _ _ _ h => h) (by rfl) ?_ hHeld ?_
      rotate_left
      · intro w hSw
        (try dsimp only at hSw)
        go_simp
        try with_reducible rfl
      try simp only [Act.put, List.setIfInBounds_toArray, List.set_cons_zero, List.set_cons_succ]
      have ze := five_cells HQ.out.1.1
      obtain ⟨ze0, ze1, ze2, ze3, ze4⟩ := ze
      have zg0 := frozen0 (p := 0) HQ.out.1.1
      have zg1 := frozen0 (p := 1) HQ.out.1.1
      have zg2 := frozen0 (p := 2) HQ.out.1.1
      have zg3 := frozen0 (p := 3) HQ.out.1.1
      have zg4 := frozen0 (p := 4) HQ.out.1.1
      refine call_in (i := 12) rfl (by kernel_rfl) (fun K hK => ?_)
      clear hHeld
      go_simp
      try (go_wp2_with fail)
      refine hK.out _ _ (hk.out _ (set5_below (later_hid HLwE (later_hid HLwD (later_alloc (later_hid HLwC (later_alloc (later_hid HLwB (later_hid HLwA (later_alloc (later_hid HLd (Below.refl _ _)))))))))) _ 0 _ _ _ _ _ HQ.out.1.2.2)) (fun hHeld => ?_)
      clear hK K ze0 ze1 ze2 ze3 ze4 zg0 zg1 zg2 zg3 zg4
      try simp only [Act.put, List.setIfInBounds_toArray, List.set_cons_zero, List.set_cons_succ]
      refine take_in (i := 13) (v := ?_) rfl (by kernel_rfl) (by kernel_rfl) (by kernel_rfl) (fun _ _ _ h => h) (by rfl) ?_ hHeld ?_
      rotate_left
      · intro w hSw
        (try dsimp only at hSw)
        go_simp
        try with_reducible rfl
      try simp only [Act.put, List.setIfInBounds_toArray, List.set_cons_zero, List.set_cons_succ]
      refine wpAnyH_done (by kernel_rfl) ?_ _
      go_wp2_with fail
      go_meet
      refine ⟨?_, ?_⟩
      · exact cut5_early HQ.out HT11.out (later_hid HLwE (later_hid HLwD (later_alloc (later_hid HLwC (later_alloc (later_hid HLwB (later_hid HLwA (later_alloc (later_hid HLd (Below.refl _ _))))))))))
      · exact cut5_row HQ.out HTS.out
  case rest =>
  obtain ⟨⟨B4, la11, ll11, lc11, sa11, sl11, sc11, rfl, hz4, hr4, ht4, hl4⟩, A5, c5, rfl, hts5⟩ := hcut
  have HR4 := Lib.hid hr4
  have HZ4 := Lib.hid hz4
  have HT11 := Lib.hid ht4
  have HTS := Lib.hid hts5
  have HR1' := Lib.hid ((hl4.block B1 HZ1.out).trans HR1.out)
  have HZ1' := Lib.hid (Nat.lt_of_lt_of_le HZ1.out hl4.size)
  have HT6' := Lib.hid (tmP_below hl4 HT6.out)
  have HR2' := Lib.hid ((hl4.block B2 HZ2.out).trans HR2.out)
  have HZ2' := Lib.hid (Nat.lt_of_lt_of_le HZ2.out hl4.size)
  have HT7' := Lib.hid (tmP_below hl4 HT7.out)
  have HLW3 := Lib.hid (HLW2.out.trans (hl4.mono HLW2.out.size))
  clear hr4 hz4 ht4 hts5 hl4 HR1 HZ1 HT6 HR2 HZ2 HT7 HLW2 hk
  have HR1 := Lib.hid HR1'.out
  have HZ1 := Lib.hid HZ1'.out
  have HT6 := Lib.hid HT6'.out
  have HR2 := Lib.hid HR2'.out
  have HZ2 := Lib.hid HZ2'.out
  have HT7 := Lib.hid HT7'.out
  clear HR1' HZ1' HT6' HR2' HZ2' HT7'
  generalize wc = W3 at *
  have hk1 : Hid (∀ W', Below W3.heap.size W3 W' → W'.cell? ⟨B1, 0, none⟩ = some (.int .i64 5) ∧ W'.cell? ⟨B1, 1, none⟩ = some (.int .i64 0) ∧ W'.cell? ⟨B1, 2, none⟩ = some (.string ⟨#[]⟩) ∧ W'.cell? ⟨B1, 3, none⟩ = some (.slice la5 ll5 lc5) ∧ W'.cell? ⟨B1, 4, none⟩ = some (.slice sa5 sl5 sc5)) := fun W' h => by
    obtain ⟨c10, c11, c12, c13, c14⟩ := five_cells ((h.block B1 HZ1.out).trans HR1.out)
    exact ⟨c10, c11, c12, c13, c14⟩
  have hk2 : Hid (∀ W', Below W3.heap.size W3 W' → W'.cell? ⟨B2, 0, none⟩ = some (.int .i64 5) ∧ W'.cell? ⟨B2, 1, none⟩ = some (.int .i64 0) ∧ W'.cell? ⟨B2, 2, none⟩ = some (.string ⟨#[]⟩) ∧ W'.cell? ⟨B2, 3, none⟩ = some (.slice la7 ll7 lc7) ∧ W'.cell? ⟨B2, 4, none⟩ = some (.slice sa7 sl7 sc7)) := fun W' h => by
    obtain ⟨c20, c21, c22, c23, c24⟩ := five_cells ((h.block B2 HZ2.out).trans HR2.out)
    exact ⟨c20, c21, c22, c23, c24⟩
  have hk4 : Hid (∀ W', Below W3.heap.size W3 W' → W'.cell? ⟨B4, 0, none⟩ = some (.int .i64 5) ∧ W'.cell? ⟨B4, 1, none⟩ = some (.int .i64 0) ∧ W'.cell? ⟨B4, 2, none⟩ = some (.string ⟨#[]⟩) ∧ W'.cell? ⟨B4, 3, none⟩ = some (.slice la11 ll11 lc11) ∧ W'.cell? ⟨B4, 4, none⟩ = some (.slice sa11 sl11 sc11)) := fun W' h => by
    obtain ⟨c40, c41, c42, c43, c44⟩ := five_cells ((h.block B4 HZ4.out).trans HR4.out)
    exact ⟨c40, c41, c42, c43, c44⟩
  clear HR1 HZ1 HR2 HZ2 HR4 HZ4
  go_wp2_with fail
  refine (var_is 0 _).mono ?_
  rintro e v21 ⟨l9, s9, he, ht, hb⟩
  obtain rfl : e = Ending.returned (.agg #[.int .i64 1, .int .i64 0, .string ⟨#[]⟩, l9, s9]) := he
  obtain ⟨⟨la21, ll21, lc21, rfl⟩, sa21, sl21, sc21, rfl⟩ := tmP_slices ht
  have HT21 := Lib.hid (tmP_weak (Q := fun _ => True) (fun _ _ => trivial) ht)
  have HL21 := Lib.hid hb
  clear ht hb
  go_wp2_with fail
  refine (var_is 0 _).mono ?_
  rintro e v22 ⟨l9, s9, he, ht, hb⟩
  obtain rfl : e = Ending.returned (.agg #[.int .i64 1, .int .i64 0, .string ⟨#[]⟩, l9, s9]) := he
  obtain ⟨⟨la22, ll22, lc22, rfl⟩, sa22, sl22, sc22, rfl⟩ := tmP_slices ht
  have HT22 := Lib.hid (tmP_weak (Q := fun _ => True) (fun _ _ => trivial) ht)
  have HL22 := Lib.hid hb
  clear ht hb
  go_wp2_with fail
  refine (zero_ret _).mono ?_
  rintro e v23 ⟨rfl, hb⟩
  have HL23 := Lib.hid hb
  clear hb
  go_wp2_with fail
  refine (sort_is lz0 _ _ (lvV_leaf0 _ 1 0) (by decide)).mono ?_
  rintro e v24 ⟨l9, s9, he, ht, hb⟩
  obtain rfl : e = Ending.returned (.agg #[.int .i64 2, .int .i64 0, .string ⟨#[]⟩, l9, s9]) := he
  obtain ⟨⟨la24, ll24, lc24, rfl⟩, sa24, sl24, sc24, rfl⟩ := tmP_slices ht
  have HT24 := Lib.hid (tmP_weak (Q := fun _ => True) (fun _ _ => trivial) ht)
  have HL24 := Lib.hid hb
  clear ht hb
  go_wp2_with fail
  refine (arrow_al ⟨_, _, rfl, tmP_below (by repeat (first | exact Below.refl _ _ | refine later_hid (by assumption) ?_ | refine later_alloc ?_ | refine later_drew ?_)) HT21.out⟩ (ts_two (tmP_below (by repeat (first | exact Below.refl _ _ | refine later_hid (by assumption) ?_ | refine later_alloc ?_ | refine later_drew ?_)) HT22.out) (tmP_below (by repeat (first | exact Below.refl _ _ | refine later_hid (by assumption) ?_ | refine later_alloc ?_ | refine later_drew ?_)) HT24.out) rfl rfl rfl rfl rfl rfl) (HCN.out.below (by repeat (first | exact Below.refl _ _ | refine later_hid (by assumption) ?_ | refine later_alloc ?_ | refine later_drew ?_)))).mono ?_
  rintro e v25 ⟨l9, s9, he, ht, hb⟩
  obtain rfl : e = Ending.returned (.tuple #[.agg #[.int .i64 6, .int .i64 0, .string ⟨#[]⟩, l9, s9], .bool true]) := he
  have HT25 := Lib.hid (tmP_weak (Q := fun _ => True) (fun _ _ => trivial) ht)
  have HL25 := Lib.hid hb
  clear hb
  unfold tar at ht
  rw [TmP] at ht
  obtain ⟨hl25, A25, n25, c25, rfl, hn25, _, _, _, hts25⟩ := ht
  obtain rfl : n25 = 2 := hn25.symm
  obtain ⟨la25, ll25, lc25, rfl⟩ := lvP_slice hl25
  obtain ⟨b25, o25, l26, s26, rfl, hb25, _, _, _, _, _, k26, ht26⟩ := tsP_get hts25 1 (by simp)
  have k26 : v25.cell? ⟨b25, o25 + 1 * 5 + 4, none⟩ = some s26 := k26
  have ht26 : TmP v25 _ tar1 l26 s26 := ht26
  unfold tar1 at ht26
  rw [TmP] at ht26
  obtain ⟨_, A26, n26, c26, rfl, hn26, _, _, _, hts26⟩ := ht26
  obtain rfl : n26 = 2 := hn26.symm
  obtain ⟨b26, o26, l27, s27, rfl, hb26, _, _, k27, _⟩ := tsP_get hts26 1 (by simp)
  have k27 : v25.cell? ⟨b26, o26 + 1 * 5 + 1, none⟩ = some (.int .i64 2) := k27
  have HK26 := Lib.hid k26
  have HK27 := Lib.hid k27
  have HB25 := Lib.hid hb25
  have HB26 := Lib.hid hb26
  clear hl25 hn25 hts25 hb25 k26 hn26 hts26 hb26 k27
  obtain ⟨b5, o5, l28, s28, hA5, hb5, _, _, _, k28, _⟩ := tsP_get HTS.out 0 (by simp)
  subst hA5
  have k28 : W3.cell? ⟨b5, o5 + 0 * 5 + 2, none⟩ = some (.string ⟨#[97]⟩) := k28
  have HK28 := Lib.hid k28
  have HB5 := Lib.hid hb5
  clear k28 hb5
  have hcc : Hid (∀ W', Below v25.heap.size v25 W' → W'.cell? ⟨b25, o25 + 5 + 4, none⟩ = some (.slice (some ⟨b26, o26, none⟩) 2 c26) ∧ W'.cell? ⟨b26, o26 + 5 + 1, none⟩ = some (.int .i64 2)) := fun W' h => ⟨(h.cell (p := ⟨b25, _, none⟩) HB25.out).trans HK26.out, (h.cell (p := ⟨b26, _, none⟩) HB26.out).trans HK27.out⟩
  have hcd : Hid (∀ W', Below W3.heap.size W3 W' → W'.cell? ⟨b5, o5 + 2, none⟩ = some (.string ⟨#[97]⟩)) := fun W' h => by
    have := (h.cell (p := ⟨b5, _, none⟩) HB5.out).trans HK28.out
    rwa [Nat.zero_mul, Nat.add_zero] at this
  clear HK26 HK27 HK28 HB25 HB26 HB5
  have HR6 := Lib.hid (heap_alloc_new v25 (.cells #[.int .i64 6, .int .i64 0, .string ⟨#[]⟩, .slice la25 ll25 lc25, .slice (some ⟨b25, o25, none⟩) 2 c25] 25))
  have hk6 : Hid (∀ W', Below (v25.alloc (.cells #[.int .i64 6, .int .i64 0, .string ⟨#[]⟩, .slice la25 ll25 lc25, .slice (some ⟨b25, o25, none⟩) 2 c25] 25)).heap.size (v25.alloc (.cells #[.int .i64 6, .int .i64 0, .string ⟨#[]⟩, .slice la25 ll25 lc25, .slice (some ⟨b25, o25, none⟩) 2 c25] 25)) W' → W'.cell? ⟨v25.heap.size, 4, none⟩ = some (.slice (some ⟨b25, o25, none⟩) 2 c25)) := fun W' h => (five_cells ((h.block v25.heap.size (by simp)).trans HR6.out)).2.2.2.2
  obtain ⟨a0, a1, a2, a3, a4⟩ := hk1.out (v25.alloc (.cells #[.int .i64 6, .int .i64 0, .string ⟨#[]⟩, .slice la25 ll25 lc25, .slice (some ⟨b25, o25, none⟩) 2 c25] 25)) (by repeat (first | exact Below.refl _ _ | refine later_hid (by assumption) ?_ | refine later_alloc ?_ | refine later_drew ?_))
  go_wp2_with fail
  have HL26 := Lib.hid (below_lit v25 (.cells #[.int .i64 6, .int .i64 0, .string ⟨#[]⟩, .slice la25 ll25 lc25, .slice (some ⟨b25, o25, none⟩) 2 c25] 25))
  refine (right_is RN tid _ _ ⟨_, _, rfl, tmP_below (by repeat (first | exact Below.refl _ _ | refine later_hid (by assumption) ?_ | refine later_alloc ?_ | refine later_drew ?_)) HT6.out⟩ (by rw [al_n6]; decide) (al_nm (by simp)) (HCN.out.below (by repeat (first | exact Below.refl _ _ | refine later_hid (by assumption) ?_ | refine later_alloc ?_ | refine later_drew ?_))) 1 0 true (al_r1 RN)).mono ?_
  rintro e v31 ⟨rfl, hb⟩
  have HL31 := Lib.hid hb
  clear hb
  clear a0 a1 a2 a3 a4
  obtain ⟨a0, a1, a2, a3, a4⟩ := hk1.out v31 (by repeat (first | exact Below.refl _ _ | refine later_hid (by assumption) ?_ | refine later_alloc ?_ | refine later_drew ?_))
  go_wp2_with fail
  refine (right_is RN tid _ _ ⟨_, _, rfl, tmP_below (by repeat (first | exact Below.refl _ _ | refine later_hid (by assumption) ?_ | refine later_alloc ?_ | refine later_drew ?_)) HT6.out⟩ (by rw [al_n6]; decide) (al_nm (by simp)) (HCN.out.below (by repeat (first | exact Below.refl _ _ | refine later_hid (by assumption) ?_ | refine later_alloc ?_ | refine later_drew ?_))) 0 0 false (al_r0 RN)).mono ?_
  rintro e v32 ⟨rfl, hb⟩
  have HL32 := Lib.hid hb
  clear hb
  clear a0 a1 a2 a3 a4
  obtain ⟨b0, b1, b2, b3, b4⟩ := hk2.out v32 (by repeat (first | exact Below.refl _ _ | refine later_hid (by assumption) ?_ | refine later_alloc ?_ | refine later_drew ?_))
  go_wp2_with fail
  refine (right_is RN tx _ _ ⟨_, _, rfl, tmP_below (by repeat (first | exact Below.refl _ _ | refine later_hid (by assumption) ?_ | refine later_alloc ?_ | refine later_drew ?_)) HT7.out⟩ (by rw [al_x6]; decide) (al_nm (by simp)) (HCN.out.below (by repeat (first | exact Below.refl _ _ | refine later_hid (by assumption) ?_ | refine later_alloc ?_ | refine later_drew ?_))) 0 0 true (al_rx RN)).mono ?_
  rintro e v33 ⟨rfl, hb⟩
  have HL33 := Lib.hid hb
  clear hb
  clear b0 b1 b2 b3 b4
  obtain ⟨a0, a1, a2, a3, a4⟩ := hk1.out v33 (by repeat (first | exact Below.refl _ _ | refine later_hid (by assumption) ?_ | refine later_alloc ?_ | refine later_drew ?_))
  go_wp2_with fail
  refine (tnodes_is tid _ _ ⟨_, _, rfl, tmP_below (by repeat (first | exact Below.refl _ _ | refine later_hid (by assumption) ?_ | refine later_alloc ?_ | refine later_drew ?_)) HT6.out⟩ (by rw [al_n6]; decide) 6 (by rw [al_n6]; rfl)).mono ?_
  rintro e v34 ⟨rfl, hb⟩
  have HL34 := Lib.hid hb
  clear hb
  clear a0 a1 a2 a3 a4
  go_wp2_with fail
  refine (var_is 2 _).mono ?_
  rintro e v35 ⟨l9, s9, he, ht, hb⟩
  obtain rfl : e = Ending.returned (.agg #[.int .i64 1, .int .i64 2, .string ⟨#[]⟩, l9, s9]) := he
  obtain ⟨⟨la35, ll35, lc35, rfl⟩, sa35, sl35, sc35, rfl⟩ := tmP_slices ht
  have HT35 := Lib.hid (tmP_weak (Q := fun _ => True) (fun _ _ => trivial) ht)
  have HL35 := Lib.hid hb
  clear ht hb
  go_wp2_with fail
  refine (loose_is RN tv2 _ _ ⟨_, _, rfl, tmP_below (by repeat (first | exact Below.refl _ _ | refine later_hid (by assumption) ?_ | refine later_alloc ?_ | refine later_drew ?_)) HT35.out⟩ (by rw [show tnodes tv2 = 1 from al_nv 2]; decide) (al_nm (by simp)) (HCN.out.below (by repeat (first | exact Below.refl _ _ | refine later_hid (by assumption) ?_ | refine later_alloc ?_ | refine later_drew ?_))) 3 (al_loose RN)).mono ?_
  rintro e v36 ⟨rfl, hb⟩
  have HL36 := Lib.hid hb
  clear hb
  obtain ⟨a0, a1, a2, a3, a4⟩ := hk1.out v36 (by repeat (first | exact Below.refl _ _ | refine later_hid (by assumption) ?_ | refine later_alloc ?_ | refine later_drew ?_))
  obtain ⟨d0, d1, d2, d3, d4⟩ := hk4.out v36 (by repeat (first | exact Below.refl _ _ | refine later_hid (by assumption) ?_ | refine later_alloc ?_ | refine later_drew ?_))
  go_wp2_with fail
  refine (tsame_is tid _ _ _ ⟨_, _, rfl, tmP_below (by repeat (first | exact Below.refl _ _ | refine later_hid (by assumption) ?_ | refine later_alloc ?_ | refine later_drew ?_)) HT11.out⟩ ⟨_, _, rfl, tmP_below (by repeat (first | exact Below.refl _ _ | refine later_hid (by assumption) ?_ | refine later_alloc ?_ | refine later_drew ?_)) HT6.out⟩ (by rw [al_n6]; decide)).mono ?_
  rintro e v37 ⟨rfl, hb⟩
  have HL37 := Lib.hid hb
  clear hb
  clear a0 a1 a2 a3 a4
  clear d0 d1 d2 d3 d4
  have k5 := hcd.out v37 (by repeat (first | exact Below.refl _ _ | refine later_hid (by assumption) ?_ | refine later_alloc ?_ | refine later_drew ?_))
  obtain ⟨k6, k7⟩ := hcc.out v37 (by repeat (first | exact Below.refl _ _ | refine later_hid (by assumption) ?_ | refine later_alloc ?_ | refine later_drew ?_))
  have k8 := hk6.out v37 (by repeat (first | exact Below.refl _ _ | refine later_hid (by assumption) ?_ | refine later_alloc ?_ | refine later_drew ?_))
  go_wp2_with fail
  clear k5 k6 k7 k8
  refine (const_is ⟨#[98]⟩ [] _ _ (fun _ => True) (lvP_nil _ _) (by decide) (by intro a ha; cases ha)).mono ?_
  rintro e v41 ⟨l9, s9, he, ht, hb⟩
  obtain rfl : e = Ending.returned (.agg #[.int .i64 3, .int .i64 0, .string ⟨#[98]⟩, l9, s9]) := he
  obtain ⟨⟨la41, ll41, lc41, rfl⟩, sa41, sl41, sc41, rfl⟩ := tmP_slices ht
  have HT41 := Lib.hid (tmP_weak (Q := fun _ => True) (fun _ _ => trivial) ht)
  have HL41 := Lib.hid hb
  clear ht hb
  go_wp2_with fail
  refine (const_is ⟨#[97]⟩ [] _ _ (fun _ => True) (lvP_nil _ _) (by decide) (by intro a ha; cases ha)).mono ?_
  rintro e v42 ⟨l9, s9, he, ht, hb⟩
  obtain rfl : e = Ending.returned (.agg #[.int .i64 3, .int .i64 0, .string ⟨#[97]⟩, l9, s9]) := he
  obtain ⟨⟨la42, ll42, lc42, rfl⟩, sa42, sl42, sc42, rfl⟩ := tmP_slices ht
  have HT42 := Lib.hid (tmP_weak (Q := fun _ => True) (fun _ _ => trivial) ht)
  have HL42 := Lib.hid hb
  clear ht hb
  go_wp2_with fail
  refine (app_al2 ⟨_, _, rfl, tmP_below (by repeat (first | exact Below.refl _ _ | refine later_hid (by assumption) ?_ | refine later_alloc ?_ | refine later_drew ?_)) HT41.out⟩ (ts_one (tmP_below (by repeat (first | exact Below.refl _ _ | refine later_hid (by assumption) ?_ | refine later_alloc ?_ | refine later_drew ?_)) HT42.out) rfl rfl rfl) (by decide)).mono ?_
  rintro e v43 ⟨l9, s9, he, ht, hb⟩
  obtain rfl : e = Ending.returned (.agg #[.int .i64 4, .int .i64 0, .string ⟨#[]⟩, l9, s9]) := he
  obtain ⟨⟨la43, ll43, lc43, rfl⟩, sa43, sl43, sc43, rfl⟩ := tmP_slices ht
  have HT43 := Lib.hid (tmP_weak (Q := fun _ => True) (fun _ _ => trivial) ht)
  have HL43 := Lib.hid hb
  clear ht hb
  go_wp2_with fail
  refine (consts_al ⟨_, _, rfl, tmP_below (by repeat (first | exact Below.refl _ _ | refine later_hid (by assumption) ?_ | refine later_alloc ?_ | refine later_drew ?_)) HT43.out⟩ (HCN.out.below (by repeat (first | exact Below.refl _ _ | refine later_hid (by assumption) ?_ | refine later_alloc ?_ | refine later_drew ?_))) HRA.out HRB.out).mono ?_
  rintro e v44 ⟨A44, n44, c44, rfl, hn44, _, _, hx44, hb⟩
  obtain rfl : n44 = 2 := hn44.symm
  have HX44 := Lib.hid hx44
  have HL44 := Lib.hid hb
  clear hb hx44 hn44
  go_wp2_with fail
  refine (same_al v44 HX44.out).mono ?_
  rintro e v45 ⟨rfl, hb⟩
  have HL45 := Lib.hid hb
  clear hb
  go_wp2_with fail
  refine (zero_ret _).mono ?_
  rintro e v46 ⟨rfl, hb⟩
  have HL46 := Lib.hid hb
  clear hb
  go_wp2_with fail
  refine (sort_is lz0 _ _ (lvV_leaf0 _ 1 0) (by decide)).mono ?_
  rintro e v47 ⟨l9, s9, he, ht, hb⟩
  obtain rfl : e = Ending.returned (.agg #[.int .i64 2, .int .i64 0, .string ⟨#[]⟩, l9, s9]) := he
  obtain ⟨⟨la47, ll47, lc47, rfl⟩, sa47, sl47, sc47, rfl⟩ := tmP_slices ht
  have HT47 := Lib.hid (tmP_weak (Q := fun _ => True) (fun _ _ => trivial) ht)
  have HL47 := Lib.hid hb
  clear ht hb
  go_wp2_with fail
  refine (var_is 0 _).mono ?_
  rintro e v48 ⟨l9, s9, he, ht, hb⟩
  obtain rfl : e = Ending.returned (.agg #[.int .i64 1, .int .i64 0, .string ⟨#[]⟩, l9, s9]) := he
  obtain ⟨⟨la48, ll48, lc48, rfl⟩, sa48, sl48, sc48, rfl⟩ := tmP_slices ht
  have HT48 := Lib.hid (tmP_weak (Q := fun _ => True) (fun _ _ => trivial) ht)
  have HL48 := Lib.hid hb
  clear ht hb
  go_wp2_with fail
  refine (var_is 1 _).mono ?_
  rintro e v49 ⟨l9, s9, he, ht, hb⟩
  obtain rfl : e = Ending.returned (.agg #[.int .i64 1, .int .i64 1, .string ⟨#[]⟩, l9, s9]) := he
  obtain ⟨⟨la49, ll49, lc49, rfl⟩, sa49, sl49, sc49, rfl⟩ := tmP_slices ht
  have HT49 := Lib.hid (tmP_weak (Q := fun _ => True) (fun _ _ => trivial) ht)
  have HL49 := Lib.hid hb
  clear ht hb
  go_wp2_with fail
  refine (let_al ⟨_, _, rfl, tmP_below (by repeat (first | exact Below.refl _ _ | refine later_hid (by assumption) ?_ | refine later_alloc ?_ | refine later_drew ?_)) HT47.out⟩ ⟨_, _, rfl, tmP_below (by repeat (first | exact Below.refl _ _ | refine later_hid (by assumption) ?_ | refine later_alloc ?_ | refine later_drew ?_)) HT48.out⟩ ⟨_, _, rfl, tmP_below (by repeat (first | exact Below.refl _ _ | refine later_hid (by assumption) ?_ | refine later_alloc ?_ | refine later_drew ?_)) HT49.out⟩).mono ?_
  rintro e v50 ⟨l9, s9, he, ht, hb⟩
  obtain rfl : e = Ending.returned (.agg #[.int .i64 7, .int .i64 0, .string ⟨#[]⟩, l9, s9]) := he
  obtain ⟨⟨la50, ll50, lc50, rfl⟩, sa50, sl50, sc50, rfl⟩ := tmP_slices ht
  have HT50 := Lib.hid (tmP_weak (Q := fun _ => True) (fun _ _ => trivial) ht)
  have HL50 := Lib.hid hb
  clear ht hb
  go_wp2_with fail
  refine (right_is RN tlet _ _ ⟨_, _, rfl, tmP_below (by repeat (first | exact Below.refl _ _ | refine later_hid (by assumption) ?_ | refine later_alloc ?_ | refine later_drew ?_)) HT50.out⟩ al_nlet (al_nm (by simp)) (HCN.out.below (by repeat (first | exact Below.refl _ _ | refine later_hid (by assumption) ?_ | refine later_alloc ?_ | refine later_drew ?_))) 0 1 true (al_rlet RN)).mono ?_
  rintro e v51 ⟨rfl, hb⟩
  have HL51 := Lib.hid hb
  clear hb
  go_wp2_with fail
  refine (var_is 0 _).mono ?_
  rintro e v52 ⟨l9, s9, he, ht, hb⟩
  obtain rfl : e = Ending.returned (.agg #[.int .i64 1, .int .i64 0, .string ⟨#[]⟩, l9, s9]) := he
  obtain ⟨⟨la52, ll52, lc52, rfl⟩, sa52, sl52, sc52, rfl⟩ := tmP_slices ht
  have HT52 := Lib.hid (tmP_weak (Q := fun _ => True) (fun _ _ => trivial) ht)
  have HL52 := Lib.hid hb
  clear ht hb
  go_wp2_with fail
  refine (zero_ret _).mono ?_
  rintro e v53 ⟨rfl, hb⟩
  have HL53 := Lib.hid hb
  clear hb
  go_wp2_with fail
  refine (sort_is lz0 _ _ (lvV_leaf0 _ 1 0) (by decide)).mono ?_
  rintro e v54 ⟨l9, s9, he, ht, hb⟩
  obtain rfl : e = Ending.returned (.agg #[.int .i64 2, .int .i64 0, .string ⟨#[]⟩, l9, s9]) := he
  obtain ⟨⟨la54, ll54, lc54, rfl⟩, sa54, sl54, sc54, rfl⟩ := tmP_slices ht
  have HT54 := Lib.hid (tmP_weak (Q := fun _ => True) (fun _ _ => trivial) ht)
  have HL54 := Lib.hid hb
  clear ht hb
  go_wp2_with fail
  have hfd : ∀ (l s : Value) (w : World), (Instr.field 25 (.agg #[.int .i64 6, .int .i64 0, .string ⟨#[]⟩, l, s]) 0).run Tryz.prog w = .ok (.int .i64 6) w := fun _ _ _ => by kernel_rfl
  refine (pi_al ⟨_, _, rfl, tmP_below (by repeat (first | exact Below.refl _ _ | refine later_hid (by assumption) ?_ | refine later_alloc ?_ | refine later_drew ?_)) HT52.out⟩ (ts_one (tmP_below (by repeat (first | exact Below.refl _ _ | refine later_hid (by assumption) ?_ | refine later_alloc ?_ | refine later_drew ?_)) HT54.out) rfl rfl rfl) (by decide)).mono ?_
  rintro e v55 ⟨l9, s9, he, ht, hb⟩
  obtain rfl : e = Ending.returned (.agg #[.int .i64 6, .int .i64 0, .string ⟨#[]⟩, l9, s9]) := he
  obtain ⟨⟨la55, ll55, lc55, rfl⟩, sa55, sl55, sc55, rfl⟩ := tmP_slices ht
  have HT55 := Lib.hid (tmP_weak (Q := fun _ => True) (fun _ _ => trivial) ht)
  have HL55 := Lib.hid hb
  clear ht hb
  go_wp2_with fail
  go_ret
  exact ⟨rfl, (by repeat (first | exact Below.refl _ _ | refine later_hid (by assumption) ?_ | refine later_alloc ?_ | refine later_drew ?_))⟩
end Trm
end Go.Proofs.YtbkdecgfiiajnaaGreatDoor
