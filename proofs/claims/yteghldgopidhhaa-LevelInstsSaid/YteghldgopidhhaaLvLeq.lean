/-
  The contract of the reference's function Leq: is a level at most another one, whatever the parameters' numbers are.
  Conditions: the levels lie in memory as told by 'LvV'.
-/
import Derived.Test.YteghldgopidhhaaLvVal
import Derived.Deep.RegionHeld3
namespace Go.Proofs.Yteghldgopidhhaa
open Go.RowKit
open Lvl

theorem val_congr {m : Nat} {f g : Nat → Nat} (h : ∀ i, i < m → f i = g i) : ∀ (x : L), Ok m x → val f x = val g x
  | .num _, _ => rfl
  | .par i, hi => h i hi
  | .succ a, ha => by simp only [val]; rw [val_congr h a ha]
  | .max a b, hab => by simp only [val]; rw [val_congr h a hab.1, val_congr h b hab.2]
  | .imax a b, hab => by simp only [val]; rw [val_congr h a hab.1, val_congr h b hab.2]
/-- The three numbers. -/
def st : Nat → Int
  | 0 => 0
  | 1 => 1
  | _ => 1000
def T (x y : L) (i j k m : Nat) : Prop := val (parF [st i, st j, st k, st m]) x ≤ val (parF [st i, st j, st k, st m]) y
theorem st_of {n : Nat} (h : n = 0 ∨ n = 1 ∨ n = 1000) : ∃ i, i < 3 ∧ st i = (n : Int) := by
  rcases h with rfl | rfl | rfl
  · exact ⟨0, by omega, rfl⟩
  · exact ⟨1, by omega, rfl⟩
  · exact ⟨2, by omega, rfl⟩
theorem T_all {x y : L} (hx : Ok 4 x) (hy : Ok 4 y) (ny : size y ≤ 500) (h : ∀ i, i < 3 → ∀ j, j < 3 → ∀ k, k < 3 → ∀ m, m < 3 → T x y i j k m) : Lvl.Leq x y := by
  refine leq_small hx hy ny fun f hf => ?_
  obtain ⟨i, hi, ei⟩ := st_of (hf 0)
  obtain ⟨j, hj, ej⟩ := st_of (hf 1)
  obtain ⟨k, hk, ek⟩ := st_of (hf 2)
  obtain ⟨m, hm, em⟩ := st_of (hf 3)
  have ht := h i hi j hj k hk m hm
  have e : ∀ p, p < 4 → parF [st i, st j, st k, st m] p = f p := by
    intro p hp
    have h0 := hf p
    rw [ei, ej, ek, em]
    match p, hp, h0 with
    | 0, _, h0 => show min ((f 0 : Nat) : Int).toNat 1048576 = f 0; omega
    | 1, _, h0 => show min ((f 1 : Nat) : Int).toNat 1048576 = f 1; omega
    | 2, _, h0 => show min ((f 2 : Nat) : Int).toNat 1048576 = f 2; omega
    | 3, _, h0 => show min ((f 3 : Nat) : Int).toNat 1048576 = f 3; omega
  unfold T at ht
  rw [val_congr e x hx, val_congr e y hy] at ht
  exact ht
theorem T_not {x y : L} {i j k m : Nat} (h : ¬ T x y i j k m) : ¬ Lvl.Leq x y := fun hl => h (hl _)

theorem steps_is (w : World) : Calls Try.prog 30 #[] w fun e w' => ∃ g, e = .returned (.slice (some ⟨g, 0, none⟩) 3 3) ∧ (∀ i, i < 3 → w'.cell? ⟨g, i, none⟩ = some (.int .i64 (st i))) ∧ g < w'.heap.size ∧ Below w.heap.size w w' := by
  go_enter Try.func30, Try.ntmps30
  go_wp2_with fail
  go_ret
  obtain ⟨h0, h1, h2⟩ := box_cells w (.int .i64 0) (.int .i64 1) (.int .i64 1000) 3
  refine ⟨w.heap.size, rfl, fun i hi => ?_, by simp, below_lit w _⟩
  match i, hi with
  | 0, _ => exact h0
  | 1, _ => exact h1
  | 2, _ => exact h2

theorem upto {n : Nat} {Q : Nat → Prop} (h : ∀ i, i < n → Q i) (hn : Q n) : ∀ i, i < n + 1 → Q i := fun i hi => by
  rcases Nat.lt_or_ge i n with h1 | h1
  · exact h i h1
  · have : i = n := by omega
    rw [this]; exact hn

set_option maxRecDepth 100000 in
set_option maxHeartbeats 4000000 in
theorem refLeq_yes (t u : Lv) (v v' : Value) (x y : L) (w : World) (hv : LvV w t v) (hv' : LvV w u v') (hr : rightB 4 t = true) (hr' : rightB 4 u = true) (hx : IsL 4 t x) (hy : IsL 4 u y) (b : Bool) (hb : b = true ↔ Lvl.Leq x y) :
    Calls Try.prog 11 #[v, v'] w (Ret w (.bool b)) := by
  obtain ⟨s, rfl, hs⟩ := hv
  obtain ⟨s', rfl, hs'⟩ := hv'
  have HVT := Lib.hid (show LvV w t _ from ⟨s, rfl, hs⟩)
  have HVU := Lib.hid (show LvV w u _ from ⟨s', rfl, hs'⟩)
  have HR := Lib.hid hr
  have HR' := Lib.hid hr'
  have HX := Lib.hid hx
  have HY := Lib.hid hy
  have HBB := Lib.hid hb
  have hsx : size x ≤ 64 := by rw [← isL_nodes hx]; exact (rightB_is hr).1
  have hsy : size y ≤ 64 := by rw [← isL_nodes hy]; exact (rightB_is hr').1
  generalize kindOf t = k1 at *
  generalize numOf t = n1 at *
  generalize kindOf u = k2 at *
  generalize numOf u = n2 at *
  clear hs hs' hr hr' hx hy hb
  go_enter Try.func11, Try.ntmps11
  go_wp2_with fail
  have HB0 := Lib.hid (below_lit w (.cells #[.int .i64 k1, .int .i64 n1, s] 24))
  obtain ⟨a0, a1, a2⟩ := box_cells w (.int .i64 k1) (.int .i64 n1) s 24
  have hz0 : (w.alloc (.cells #[.int .i64 k1, .int .i64 n1, s] 24)).heap.size = w.heap.size + 1 := by simp
  generalize w.alloc (.cells #[.int .i64 k1, .int .i64 n1, s] 24) = W0 at *
  have HB1 := Lib.hid (below_lit W0 (.cells #[.int .i64 k2, .int .i64 n2, s'] 24))
  obtain ⟨b0, b1, b2⟩ := box_cells W0 (.int .i64 k2) (.int .i64 n2) s' 24
  have hz1 : (W0.alloc (.cells #[.int .i64 k2, .int .i64 n2, s'] 24)).heap.size = w.heap.size + 2 := by simp [hz0]
  rw [hz0] at b0 b1 b2
  generalize W0.alloc (.cells #[.int .i64 k2, .int .i64 n2, s'] 24) = W at *
  have HCE : Hid (∀ W', Below W.heap.size W W' → W'.cell? ⟨w.heap.size, 0, none⟩ = some (.int .i64 k1) ∧ W'.cell? ⟨w.heap.size, 1, none⟩ = some (.int .i64 n1) ∧ W'.cell? ⟨w.heap.size, 2, none⟩ = some s ∧ W'.cell? ⟨w.heap.size + 1, 0, none⟩ = some (.int .i64 k2) ∧ W'.cell? ⟨w.heap.size + 1, 1, none⟩ = some (.int .i64 n2) ∧ W'.cell? ⟨w.heap.size + 1, 2, none⟩ = some s') := fun W' hb => by
    have l0 : w.heap.size < W0.heap.size := by omega
    have l1 : w.heap.size < W.heap.size := by omega
    have l2 : w.heap.size + 1 < W.heap.size := by omega
    exact ⟨(hb.cell (p := ⟨_, 0, none⟩) l1).trans ((HB1.out.cell (p := ⟨_, 0, none⟩) l0).trans a0), (hb.cell (p := ⟨_, 1, none⟩) l1).trans ((HB1.out.cell (p := ⟨_, 1, none⟩) l0).trans a1), (hb.cell (p := ⟨_, 2, none⟩) l1).trans ((HB1.out.cell (p := ⟨_, 2, none⟩) l0).trans a2),
      (hb.cell (p := ⟨_, 0, none⟩) l2).trans b0, (hb.cell (p := ⟨_, 1, none⟩) l2).trans b1, (hb.cell (p := ⟨_, 2, none⟩) l2).trans b2⟩
  have HB := Lib.hid (HB0.out.trans (HB1.out.mono HB0.out.size))
  clear a0 a1 a2 b0 b1 b2 hz0 hz1 HB0 HB1
  refine (refRight_any t _ 4 _ (HVT.out.below HB.out) true HR.out).mono ?_
  rintro e w2 ⟨rfl, hb2⟩
  have HW2 := Lib.hid hb2
  obtain ⟨c0, c1, c2, c3, c4, c5⟩ := HCE.out w2 hb2
  clear hb2
  go_wp2_with fail
  refine (refRight_any u _ 4 _ (HVU.out.below (HB.out.trans (HW2.out.mono HB.out.size))) true HR'.out).mono ?_
  rintro e w3 ⟨rfl, hb3⟩
  have HW3 := Lib.hid (HW2.out.trans (hb3.mono HW2.out.size))
  clear hb3 c0 c1 c2 c3 c4 c5 HW2
  go_wp2_with fail
  refine (steps_is w3).mono ?_
  rintro e w4 ⟨g, rfl, hg, hgl, hb4⟩
  have HW4 := Lib.hid (HW3.out.trans (hb4.mono HW3.out.size))
  have HG := Lib.hid hg
  clear hb4 hg HW3
  go_wp2_with fail
  go_loopw [6] (fun i wr => ∃ n0 : Nat, n0 ≤ 3 ∧ i = .int .i64 n0 ∧ Hid (∀ i, i < n0 → ∀ j, j < 3 → ∀ k, k < 3 → ∀ m, m < 3 → T x y i j k m) ∧ Below w4.heap.size w4 wr) (fun i _ => 3 - (intOf i).toNat)
  case atStart => exact ⟨0, by omega, rfl, fun _ h => absurd h (Nat.not_lt_zero _), Below.refl _ _⟩
  case round =>
    obtain ⟨i1, hi1, rfl, hT1, hbw⟩ := hrel
    have HV1 := Lib.hid hbw
    clear hbw
    by_cases hlt1 : i1 < 3
    · have hln1 : decide ((i1 : Int) < 3) = true := by simp; omega
      go_wp2_with fail
      go_loopw [7] (fun i wr => ∃ n0 : Nat, n0 ≤ 3 ∧ i = .int .i64 n0 ∧ Hid (∀ j, j < n0 → ∀ k, k < 3 → ∀ m, m < 3 → T x y i1 j k m) ∧ Below w4.heap.size w4 wr) (fun i _ => 3 - (intOf i).toNat)
      case atStart => exact ⟨0, by omega, rfl, fun _ h => absurd h (Nat.not_lt_zero _), HV1.out⟩
      case round =>
        obtain ⟨i2, hi2, rfl, hT2, hbw⟩ := hrel
        have HV2 := Lib.hid hbw
        clear hbw
        by_cases hlt2 : i2 < 3
        · have hln2 : decide ((i2 : Int) < 3) = true := by simp; omega
          go_wp2_with fail
          go_loopw [8] (fun i wr => ∃ n0 : Nat, n0 ≤ 3 ∧ i = .int .i64 n0 ∧ Hid (∀ k, k < n0 → ∀ m, m < 3 → T x y i1 i2 k m) ∧ Below w4.heap.size w4 wr) (fun i _ => 3 - (intOf i).toNat)
          case atStart => exact ⟨0, by omega, rfl, fun _ h => absurd h (Nat.not_lt_zero _), HV2.out⟩
          case round =>
            obtain ⟨i3, hi3, rfl, hT3, hbw⟩ := hrel
            have HV3 := Lib.hid hbw
            clear hbw
            by_cases hlt3 : i3 < 3
            · have hln3 : decide ((i3 : Int) < 3) = true := by simp; omega
              go_wp2_with fail
              go_loopw [9] (fun i wr => ∃ n0 : Nat, n0 ≤ 3 ∧ i = .int .i64 n0 ∧ Hid (∀ m, m < n0 → T x y i1 i2 i3 m) ∧ Below w4.heap.size w4 wr) (fun i _ => 3 - (intOf i).toNat)
              case atStart => exact ⟨0, by omega, rfl, fun _ h => absurd h (Nat.not_lt_zero _), HV3.out⟩
              case round =>
                obtain ⟨i4, hi4, rfl, hT4, hbw⟩ := hrel
                have HV4 := Lib.hid hbw
                clear hbw
                by_cases hlt4 : i4 < 3
                · have hln4 : decide ((i4 : Int) < 3) = true := by simp; omega
                  go_wp2_with fail
                  have hk4 : Hid (∀ W', Below wr.heap.size wr W' → W'.cell? ⟨g, i1, none⟩ = some (.int .i64 (st i1)) ∧ W'.cell? ⟨g, i2, none⟩ = some (.int .i64 (st i2)) ∧ W'.cell? ⟨g, i3, none⟩ = some (.int .i64 (st i3)) ∧ W'.cell? ⟨g, i4, none⟩ = some (.int .i64 (st i4))) := fun W' hb => by
                    have hgw : g < wr.heap.size := Nat.lt_of_lt_of_le hgl HV4.out.size
                    exact ⟨(hb.cell (p := ⟨g, i1, none⟩) hgw).trans ((HV4.out.cell (p := ⟨g, i1, none⟩) hgl).trans (HG.out i1 hlt1)), (hb.cell (p := ⟨g, i2, none⟩) hgw).trans ((HV4.out.cell (p := ⟨g, i2, none⟩) hgl).trans (HG.out i2 hlt2)), (hb.cell (p := ⟨g, i3, none⟩) hgw).trans ((HV4.out.cell (p := ⟨g, i3, none⟩) hgl).trans (HG.out i3 hlt3)), (hb.cell (p := ⟨g, i4, none⟩) hgw).trans ((HV4.out.cell (p := ⟨g, i4, none⟩) hgl).trans (HG.out i4 hlt4))⟩
                  have q1 : (0 : Int) ≤ (i1 : Int) ∧ (i1 : Int) < 3 := by omega
                  have q2 : (0 : Int) ≤ (i2 : Int) ∧ (i2 : Int) < 3 := by omega
                  have q3 : (0 : Int) ≤ (i3 : Int) ∧ (i3 : Int) < 3 := by omega
                  have q4 : (0 : Int) ≤ (i4 : Int) ∧ (i4 : Int) < 3 := by omega
                  go_region_held3 (fun W' => W'.cell? ⟨g, i1, none⟩ = some (.int .i64 (st i1)) ∧ W'.cell? ⟨g, i2, none⟩ = some (.int .i64 (st i2)) ∧ W'.cell? ⟨g, i3, none⟩ = some (.int .i64 (st i3)) ∧ W'.cell? ⟨g, i4, none⟩ = some (.int .i64 (st i4))) (first | exact hk4.out _ ((Below.refl _ _).drew) | exact hk4.out _ (((Below.refl _ _).drew).alloc (Nat.le_refl _) _)) (first | fail)
                  have HN5 := Lib.hid ((nsl_lit wr [st i1, st i2, st i3, st i4] 4 rfl #[.int .i64 (st i1), .int .i64 (st i2), .int .i64 (st i3), .int .i64 (st i4)] rfl).below ((Below.refl _ _).drew))
                  have HB5 := Lib.hid ((((Below.refl wr.heap.size wr).alloc (Nat.le_refl _) (.cells #[.int .i64 (st i1), .int .i64 (st i2), .int .i64 (st i3), .int .i64 (st i4)] 3))).drew)
                  generalize (wr.alloc (.cells #[.int .i64 (st i1), .int .i64 (st i2), .int .i64 (st i3), .int .i64 (st i4)] 3)).drew = W5 at *
                  have HV5 := Lib.hid (HV4.out.trans (HB5.out.mono HV4.out.size))
                  have HW5 := Lib.hid (HW4.out.trans (HV5.out.mono HW4.out.size))
                  have HLT := Lib.hid (HVT.out.below (HB.out.trans (HW5.out.mono HB.out.size)))
                  have HLU := Lib.hid (HVU.out.below (HB.out.trans (HW5.out.mono HB.out.size)))
                  have hk6 : Hid (∀ W', Below W5.heap.size W5 W' → W'.cell? ⟨w.heap.size, 0, none⟩ = some (.int .i64 k1) ∧ W'.cell? ⟨w.heap.size, 1, none⟩ = some (.int .i64 n1) ∧ W'.cell? ⟨w.heap.size, 2, none⟩ = some s ∧ W'.cell? ⟨w.heap.size + 1, 0, none⟩ = some (.int .i64 k2) ∧ W'.cell? ⟨w.heap.size + 1, 1, none⟩ = some (.int .i64 n2) ∧ W'.cell? ⟨w.heap.size + 1, 2, none⟩ = some s') := fun W' hb => HCE.out W' (HW5.out.trans (hb.mono HW5.out.size))
                  have hvx := val_le (parF_le [st i1, st i2, st i3, st i4]) (by omega) x (isL_ok (m := 4) HX.out)
                  have hvy := val_le (parF_le [st i1, st i2, st i3, st i4]) (by omega) y (isL_ok (m := 4) HY.out)
                  obtain ⟨X, hX⟩ : ∃ X, val (parF [st i1, st i2, st i3, st i4]) x = X := ⟨_, rfl⟩
                  obtain ⟨Y, hY⟩ : ∃ Y, val (parF [st i1, st i2, st i3, st i4]) y = Y := ⟨_, rfl⟩
                  rw [hX] at hvx
                  rw [hY] at hvy
                  have CX : Hid (∀ v w', LvV w' t v → NSl w' (.slice (some ⟨wr.heap.size, 0, none⟩) 4 4) [st i1, st i2, st i3, st i4] → Calls Try.prog 31 #[v, .slice (some ⟨wr.heap.size, 0, none⟩) 4 4] w' (Ret w' (.int .i64 X))) := fun v w' h1 h2 => by
                    have := refValue_is [st i1, st i2, st i3, st i4] _ (m := 4) HX.out v w' h1 h2 (by simp) (by omega)
                    rwa [hX] at this
                  have CY : Hid (∀ v w', LvV w' u v → NSl w' (.slice (some ⟨wr.heap.size, 0, none⟩) 4 4) [st i1, st i2, st i3, st i4] → Calls Try.prog 31 #[v, .slice (some ⟨wr.heap.size, 0, none⟩) 4 4] w' (Ret w' (.int .i64 Y))) := fun v w' h1 h2 => by
                    have := refValue_is [st i1, st i2, st i3, st i4] _ (m := 4) HY.out v w' h1 h2 (by simp) (by omega)
                    rwa [hY] at this
                  have HTX : Hid (T x y i1 i2 i3 i4 ↔ X ≤ Y) := by
                    show T x y i1 i2 i3 i4 ↔ X ≤ Y
                    unfold T
                    rw [hX, hY]
                  clear hX hY
                  have f1 : ∀ W', Below W5.drew.heap.size W5.drew W' → Below W5.heap.size W5 W' := fun W' hb => (Below.refl _ _).drew.trans hb
                  have F1 := Lib.hid f1
                  clear f1
                  by_cases hle : X ≤ Y
                  · have hd : decide ((Y : Int) < (X : Int)) = false := by simp; omega
                    have HTT : Hid (T x y i1 i2 i3 i4) := HTX.out.2 hle
                    go_wp2_with fail
                    go_region_held3 (fun W' => W'.cell? ⟨w.heap.size, 0, none⟩ = some (.int .i64 k1) ∧ W'.cell? ⟨w.heap.size, 1, none⟩ = some (.int .i64 n1) ∧ W'.cell? ⟨w.heap.size, 2, none⟩ = some s ∧ W'.cell? ⟨w.heap.size + 1, 0, none⟩ = some (.int .i64 k2) ∧ W'.cell? ⟨w.heap.size + 1, 1, none⟩ = some (.int .i64 n2) ∧ W'.cell? ⟨w.heap.size + 1, 2, none⟩ = some s') (first | exact hk6.out _ ((Below.refl _ _).drew) | exact hk6.out _ (F1.out _ hbA) | exact hk6.out _ (F1.out _ hbB) | exact hk6.out _ (F1.out _ (hbA.trans (hbB.mono hbA.size))) | exact hk6.out _ (F1.out _ (hbB.trans (hbA.mono hbB.size)))) (first | (go_at_call 31; refine (CX.out _ _ ?_ ?_).mono ?_; (first | exact HLT.out.below ((Below.refl _ _).drew) | exact HLT.out.below (F1.out _ hbB)); (first | exact HN5.out.below ((Below.refl _ _).drew) | exact HN5.out.below (F1.out _ hbB)); rintro e wA ⟨rfl, hbA⟩) | (go_at_call 31; refine (CY.out _ _ ?_ ?_).mono ?_; (first | exact HLU.out.below ((Below.refl _ _).drew) | exact HLU.out.below (F1.out _ hbA)); (first | exact HN5.out.below ((Below.refl _ _).drew) | exact HN5.out.below (F1.out _ hbA)); rintro e wB ⟨rfl, hbB⟩))
                    have HE := Lib.hid (HV5.out.trans ((F1.out _ (hbA.trans (hbB.mono hbA.size))).mono HV5.out.size))
                    clear hbA hbB
                    go_wp2_with fail
                    go_roundw
                    case rel => exact ⟨i4 + 1, by omega, by go_num, upto hT4.out HTT.out, HE.out⟩
                    case measure => simp [intOf]; omega
                  · have hd : decide ((Y : Int) < (X : Int)) = true := by simp; omega
                    have HF : Hid (b = false) := by
                      have h1 : ¬ Lvl.Leq x y := T_not (fun h => hle (HTX.out.1 h))
                      cases hb : b
                      · rfl
                      · exact absurd (HBB.out.1 hb) h1
                    go_wp2_with fail
                    go_region_held3 (fun W' => W'.cell? ⟨w.heap.size, 0, none⟩ = some (.int .i64 k1) ∧ W'.cell? ⟨w.heap.size, 1, none⟩ = some (.int .i64 n1) ∧ W'.cell? ⟨w.heap.size, 2, none⟩ = some s ∧ W'.cell? ⟨w.heap.size + 1, 0, none⟩ = some (.int .i64 k2) ∧ W'.cell? ⟨w.heap.size + 1, 1, none⟩ = some (.int .i64 n2) ∧ W'.cell? ⟨w.heap.size + 1, 2, none⟩ = some s') (first | exact hk6.out _ ((Below.refl _ _).drew) | exact hk6.out _ (F1.out _ hbA) | exact hk6.out _ (F1.out _ hbB) | exact hk6.out _ (F1.out _ (hbA.trans (hbB.mono hbA.size))) | exact hk6.out _ (F1.out _ (hbB.trans (hbA.mono hbB.size)))) (first | (go_at_call 31; refine (CX.out _ _ ?_ ?_).mono ?_; (first | exact HLT.out.below ((Below.refl _ _).drew) | exact HLT.out.below (F1.out _ hbB)); (first | exact HN5.out.below ((Below.refl _ _).drew) | exact HN5.out.below (F1.out _ hbB)); rintro e wA ⟨rfl, hbA⟩) | (go_at_call 31; refine (CY.out _ _ ?_ ?_).mono ?_; (first | exact HLU.out.below ((Below.refl _ _).drew) | exact HLU.out.below (F1.out _ hbA)); (first | exact HN5.out.below ((Below.refl _ _).drew) | exact HN5.out.below (F1.out _ hbA)); rintro e wB ⟨rfl, hbB⟩))
                    have HE := Lib.hid (HV5.out.trans ((F1.out _ (hbA.trans (hbB.mono hbA.size))).mono HV5.out.size))
                    clear hbA hbB
                    go_wp2_with fail
                    go_ret
                    exact ⟨by rw [HF.out]; rfl, HB.out.trans ((HW4.out.trans (HE.out.mono HW4.out.size)).mono HB.out.size)⟩
                · obtain rfl : i4 = 3 := by omega

                  go_wp2_with fail
                  go_roundw
                  case rel => exact ⟨i3 + 1, by omega, by go_num, upto hT3.out hT4.out, HV4.out⟩
                  case measure => simp [intOf]; omega
            · obtain rfl : i3 = 3 := by omega

              go_wp2_with fail
              go_roundw
              case rel => exact ⟨i2 + 1, by omega, by go_num, upto hT2.out hT3.out, HV3.out⟩
              case measure => simp [intOf]; omega
        · obtain rfl : i2 = 3 := by omega

          go_wp2_with fail
          go_roundw
          case rel => exact ⟨i1 + 1, by omega, by go_num, upto hT1.out hT2.out, HV2.out⟩
          case measure => simp [intOf]; omega
    · obtain rfl : i1 = 3 := by omega
      have HF : Hid (b = true) := HBB.out.2 (T_all (isL_ok (m := 4) HX.out) (isL_ok (m := 4) HY.out) (by omega) hT1.out)
      go_wp2_with fail
      go_ret
      exact ⟨by rw [HF.out]; rfl, HB.out.trans ((HW4.out.trans (HV1.out.mono HW4.out.size)).mono HB.out.size)⟩
end Go.Proofs.Yteghldgopidhhaa
