/-
  The law LevelInsts, walked: whatever comes in, it returns true, and nothing that was there turns.
  Conditions: the levels, the row of levels and the slice of numbers lie in memory as told by 'LvV', 'LvL', 'NSl'; the laws' own check 'alive' returns true.
-/
import Derived.Test.YteghldgopidhhaaLvPInst
import Derived.Test.YteghldgopidhhaaLvPVal
import Derived.Test.YteghldgopidhhaaLvGreat
import Derived.Test.YteghldgopidhhaaLvSame
import Derived.Test.YteghldgopidhhaaLvHeld
import Derived.Deep.DeepCutAuto
namespace Go.Proofs.Yteghldgopidhhaa
open Go.RowKit
open Lvl

theorem infoInt : (Try.prog.info? 3).map (fun i => (i.zero, i.size, i.bytes)) = some (some (.int .i64 0), 1, 8) := by kernel_rfl
theorem nsl_owned {w : World} {base : Nat} {v : Value} {n : Nat} {Rs : List Nat} (h : w.ownsRow base 3 1 v n (Rs.map (fun R : Nat => Value.int .i64 (R : Int)))) : NSl w v (Rs.map (fun R : Nat => (R : Int))) := by
  have hn := h.1
  rw [List.length_map, Nat.mul_one] at hn
  have hh := h
  rcases h.2 with ⟨rfl, rfl⟩ | ⟨g, cap, cur, rfl, h2, h3, h4, h5, h6, h7⟩
  · obtain rfl : Rs = [] := List.length_eq_zero_iff.1 hn
    exact ⟨none, 0, 0, rfl, rfl, Nat.le_refl _, fun _ => rfl, nts_nil _ _⟩
  · refine ⟨some ⟨g, 0, none⟩, n, cap, rfl, by rw [List.length_map, hn], h4, (fun e => by cases e), fun _ => ⟨g, 0, rfl, ?_, fun j z hj => ?_⟩⟩
    · rcases Nat.lt_or_ge g w.heap.size with h | h
      · exact h
      · rw [Array.getElem?_eq_none h] at h3
        cases h3
    · obtain ⟨hlt, rfl⟩ := List.getElem?_eq_some_iff.1 hj
      rw [Nat.zero_add, World.ownsRow.cellAt hh j (by rw [List.length_map] at hlt; omega)]
      rw [List.length_map] at hlt
      simp [hlt]
theorem rows_ex (zs : List Int) : ∀ bs : List Lv, ∃ Rs : List Nat, Rs.length = bs.length ∧ ∀ x, x < bs.length → ValIs (bs.getD x (.mk 0 0 [])) zs (Rs.getD x 0)
  | [] => ⟨[], rfl, fun _ h => by cases h⟩
  | b :: bs => by
    obtain ⟨R, hR⟩ := valIs_ex b zs
    obtain ⟨Rs, h1, h2⟩ := rows_ex zs bs
    refine ⟨R :: Rs, by simp [h1], fun x hx => ?_⟩
    cases x with
    | zero => simpa using hR
    | succ x => simpa using h2 x (by simp at hx; omega)
theorem inst_val {bs : List Lv} {zs : List Int} {Rs : List Nat} (hlen : Rs.length = bs.length) (hall : ∀ b ∈ bs, rightB 4 b = true)
    (hv : ∀ x, x < bs.length → ValIs (bs.getD x (.mk 0 0 [])) zs (Rs.getD x 0)) (hb : ∀ x, x < bs.length → Rs.getD x 0 ≤ 1048576) :
    ∀ {t : Lv} {x : L}, IsL (bs.length : Int) t x → ∃ y, IsL 4 (instF bs t) y ∧ val (parF zs) y = val (parF (Rs.map (fun R : Nat => (R : Int)))) x := by
  intro t x h
  induction h with
  | num n h => exact ⟨.num n, by rw [instF, if_neg (by decide), instL]; exact .num n h, by rw [val, val]⟩
  | par i h =>
    have hi : i < bs.length := by omega
    rw [instF, if_pos rfl, Int.toNat_natCast]
    have hr := hv i hi
    have hR := hb i hi
    have hgd : bs.getD i (.mk 2 i []) = bs.getD i (.mk 0 0 []) := by simp [hi]
    rw [hgd]
    have hmem : bs.getD i (.mk 0 0 []) ∈ bs := by simp [hi]
    rcases hr with ⟨e, _⟩ | ⟨_, y, hy, hyv⟩
    · rw [hall _ hmem] at e
      cases e
    · refine ⟨y, hy, ?_⟩
      rw [← hyv, val, parF]
      have hi' : i < Rs.length := by omega
      have e1 : (Rs.map (fun R : Nat => (R : Int)))[i]? = some ((Rs.getD i 0 : Nat) : Int) := by simp [hi']
      rw [e1]
      show _ = min (Int.toNat ((Rs.getD i 0 : Nat) : Int)) 1048576
      rw [Int.toNat_natCast]
      omega
  | succ _ ih =>
    obtain ⟨y, hy, e⟩ := ih
    exact ⟨.succ y, by rw [instF, if_neg (by decide), instL, instL]; exact .succ hy, by rw [val, val, e]⟩
  | max _ _ ih1 ih2 =>
    obtain ⟨y, hy, e⟩ := ih1
    obtain ⟨y', hy', e'⟩ := ih2
    exact ⟨.max y y', by rw [instF, if_neg (by decide), instL, instL, instL]; exact .max hy hy', by rw [val, val, e, e']⟩
  | imax _ _ ih1 ih2 =>
    obtain ⟨y, hy, e⟩ := ih1
    obtain ⟨y', hy', e'⟩ := ih2
    exact ⟨.imax y y', by rw [instF, if_neg (by decide), instL, instL, instL]; exact .imax hy hy', by rw [val, val, e, e']⟩
theorem insts_facts {bs : List Lv} {t : Lv} {zs : List Int} {Rs : List Nat} (hlen : Rs.length = bs.length) (hv : ∀ x, x < bs.length → ValIs (bs.getD x (.mk 0 0 [])) zs (Rs.getD x 0)) (hb : ∀ x, x < bs.length → Rs.getD x 0 ≤ 1048576) (hok : instB bs t = true) :
    nodes (instR bs t) ≤ 64 ∧ ∃ R, ValIs (instR bs t) zs R ∧ ValIs t (Rs.map (fun R : Nat => (R : Int))) R := by
  have hr : instR bs t = instF bs t := by unfold instR; rw [if_pos hok]
  have hk := hok
  unfold instB at hk
  rw [Bool.and_eq_true, Bool.and_eq_true, List.all_eq_true] at hk
  obtain ⟨h1, h2, h3⟩ := hk
  have h3 := of_decide_eq_true h3
  have h11 := h1
  unfold rightB at h11
  rw [Bool.and_eq_true, Bool.and_eq_true, Bool.and_eq_true] at h11
  obtain ⟨⟨⟨_, hle⟩, hnt⟩, hokb⟩ := h11
  have hle := of_decide_eq_true hle
  have hnt := of_decide_eq_true hnt
  obtain ⟨x, hx⟩ := okB_is t hokb
  obtain ⟨y, hy, e⟩ := inst_val hlen h2 hv hb hx
  have hx4 := isL_mono hx hle
  have r1 : ∀ {u : Lv} {z : L}, IsL 4 u z → nodes u ≤ 64 → rightB 4 u = true := fun h hn => by unfold rightB; simp [okB_of h, hn]
  rw [hr]
  exact ⟨h3, _, .inr ⟨r1 hy h3, y, hy, rfl⟩, .inr ⟨r1 hx4 hnt, x, hx4, e⟩⟩

set_option maxRecDepth 100000 in
set_option maxHeartbeats 4000000 in
theorem levelInsts_any (AL : ∀ w, Calls Try.prog 8 #[] w (Ret w (.bool true))) (t : Lv) (bs : List Lv) (vt Vb S : Value) (zs : List Int) (w : World) (hv1 : LvV w t vt) (hvb : LvL w Vb bs) (hS : NSl w S zs) (hl : zs.length ≤ 140737488355328) :
    Calls Try.prog 4 #[vt, Vb, S] w (Ret w (.bool true)) := by
  obtain ⟨i0, hi0, hz0, hz1', hz2'⟩ := info_parts infoLv
  obtain ⟨i9, hi, hy0, hy1, hy2⟩ := info_parts infoInt
  have HAL := Lib.hid AL
  have HS0 := Lib.hid hS
  obtain ⟨A, m, cp, rfl, hN, hc, hA, hx⟩ := hS
  have HL := Lib.hid hl
  have hm7 : m ≤ 140737488355328 := by rw [← hN]; exact hl
  have HVB0 := Lib.hid hvb
  unfold LvL at hvb
  rw [LvS] at hvb
  obtain ⟨Ab, lb, cb, rfl, hlb, hlc, hl7b, hAb, hls⟩ := hvb
  have HLB := Lib.hid hlb
  have HLS0 := Lib.hid hls
  clear AL hx hA hN hl hlb hls hAb
  obtain ⟨g1, hg1⟩ : ∃ g, decide (300 < nodes t) = g := ⟨_, rfl⟩
  have HG1 := Lib.hid hg1
  obtain ⟨Rs, hRs, hRv⟩ := rows_ex zs bs
  have HRS := Lib.hid hRs
  have HRV := Lib.hid hRv
  obtain ⟨ok, hok⟩ : ∃ b, instB bs t = b := ⟨_, rfl⟩
  have HOK := Lib.hid hok
  clear hg1 hRs hRv hok
  obtain ⟨s1, rfl, hs1⟩ := hv1
  have HV1 := Lib.hid (show LvV w t _ from ⟨s1, rfl, hs1⟩)
  generalize kindOf t = k1 at *
  generalize numOf t = n1 at *
  clear hs1
  go_enter Try.func4, Try.ntmps4
  go_wp2_with fail
  have hz1 : (w.alloc (.cells #[.int .i64 k1, .int .i64 n1, s1] 24)).heap.size = w.heap.size + 1 := by simp
  have hr1 : (w.alloc (.cells #[.int .i64 k1, .int .i64 n1, s1] 24)).heap[w.heap.size]? = some (.cells #[.int .i64 k1, .int .i64 n1, s1] 24) := by
    have := heap_alloc_new w (.cells #[.int .i64 k1, .int .i64 n1, s1] 24)
    exact this
  have HB := Lib.hid (below_lit w (.cells #[.int .i64 k1, .int .i64 n1, s1] 24))
  have HR0 := Lib.hid (hr1)
  have HZ0 := Lib.hid (show w.heap.size < (w.alloc (.cells #[.int .i64 k1, .int .i64 n1, s1] 24)).heap.size by rw [hz1]; omega)
  clear hr1
  generalize (w.alloc (.cells #[.int .i64 k1, .int .i64 n1, s1] 24)) = W at *
  clear hz1
  have hk : Hid (∀ W', Below W.heap.size W W' → W'.cell? ⟨w.heap.size, 0, none⟩ = some (.int .i64 k1) ∧ W'.cell? ⟨w.heap.size, 1, none⟩ = some (.int .i64 n1) ∧ W'.cell? ⟨w.heap.size, 2, none⟩ = some (s1)) := fun W' h => by
    have p0 := (h.block (w.heap.size) HZ0.out).trans HR0.out
    exact ⟨cell_of_row _ _ 0 _ 24 (0, 0) p0, cell_of_row _ _ 1 _ 24 (0, 0) p0, cell_of_row _ _ 2 _ 24 (0, 0) p0⟩
  have HC0 := Lib.hid (Below.refl W.heap.size W)
  have HS := Lib.hid (HS0.out.below HB.out)
  have HW1 := Lib.hid (HV1.out.below HB.out)
  have HVB := Lib.hid (HVB0.out.below HB.out)
  have HLS := Lib.hid (lsV_below HB.out _ _ _ HLS0.out)
  clear HR0 HZ0 HS0 HV1 HVB0 HLS0
  refine (HAL.out W).mono ?_
  rintro e v1 ⟨rfl, hb⟩
  have HC1 := Lib.hid (HC0.out.trans (hb.mono HC0.out.size))
  clear hb
  obtain ⟨m1, m2, m3⟩ := hk.out v1 HC1.out
  go_wp2_with fail
  cases g1
  case true =>
    refine (great_is t _ _ (HW1.out.below HC1.out) true HG1.out).mono ?_
    rintro e v2 ⟨rfl, hb⟩
    have HC2 := Lib.hid (HC1.out.trans (hb.mono HC1.out.size))
    clear hb
    clear m1 m2 m3
    obtain ⟨m1, m2, m3⟩ := hk.out v2 HC2.out
    go_wp2_with fail
    go_ret
    exact ⟨rfl, HB.out.trans (HC2.out.mono HB.out.size)⟩
  by_cases h8 : 8 < lb
  · have hd8 : decide ((8 : Int) < (lb : Int)) = true := by simp; omega
    refine (great_is t _ _ (HW1.out.below HC1.out) false HG1.out).mono ?_
    rintro e v2 ⟨rfl, hb⟩
    have HC2 := Lib.hid (HC1.out.trans (hb.mono HC1.out.size))
    clear hb
    clear m1 m2 m3
    obtain ⟨m1, m2, m3⟩ := hk.out v2 HC2.out
    go_wp2_with fail
    go_ret
    exact ⟨rfl, HB.out.trans (HC2.out.mono HB.out.size)⟩
  have hd8 : decide ((8 : Int) < (lb : Int)) = false := by simp; omega
  by_cases hm : 50 < m
  · have hd : decide ((50 : Int) < (m : Int)) = true := by simp; omega
    refine (great_is t _ _ (HW1.out.below HC1.out) false HG1.out).mono ?_
    rintro e v2 ⟨rfl, hb⟩
    have HC2 := Lib.hid (HC1.out.trans (hb.mono HC1.out.size))
    clear hb
    clear m1 m2 m3
    obtain ⟨m1, m2, m3⟩ := hk.out v2 HC2.out
    go_wp2_with fail
    go_ret
    exact ⟨rfl, HB.out.trans (HC2.out.mono HB.out.size)⟩
  have hd : decide ((50 : Int) < (m : Int)) = false := by simp; omega
  have HMT : Hid (nodes t ≤ 300) := by
    have h9 := of_decide_eq_false HG1.out
    have : nodes t ≤ 300 := by omega
    exact this
  refine (great_is t _ _ (HW1.out.below HC1.out) false HG1.out).mono ?_
  rintro e v2 ⟨rfl, hb⟩
  have HC2 := Lib.hid (HC1.out.trans (hb.mono HC1.out.size))
  clear hb
  clear m1 m2 m3
  obtain ⟨m1, m2, m3⟩ := hk.out v2 HC2.out
  go_wp2_with fail
  have HO0 : Hid ((v2.alloc (.cells #[] 3)).ownsRow v2.heap.size 3 1 (.slice (some ⟨v2.heap.size, 0, none⟩) 0 0) 0 ((Rs.take 0).map (fun R : Nat => Value.int .i64 (R : Int)))) := World.ownsRow_lit v2 #[] 0 (Nat.le_refl _) (by unfold maxLen; omega) rfl
  go_loopw [7, 8] (fun V i wr => ∃ j : Nat, j ≤ lb ∧ i = .int .i64 j ∧ Hid (∀ x, x < j → Rs.getD x 0 ≤ 1048576 ∧ nodes (bs.getD x (.mk 0 0 [])) ≤ 300) ∧ wr.ownsRow v2.heap.size 3 1 V j ((Rs.take j).map (fun R : Nat => Value.int .i64 (R : Int))) ∧ Below v2.heap.size v2 wr) (fun _ i _ => lb - (intOf i).toNat)
  case atStart => exact ⟨0, Nat.zero_le _, rfl, (fun x h => by cases h), HO0.out, below_lit v2 (.cells #[] 3)⟩
  case round =>
    obtain ⟨j, hj, rfl, hal, ho, hb⟩ := hrel
    have HO := Lib.hid ho
    have HBW := Lib.hid hb
    have HCW := Lib.hid (HC2.out.trans (hb.mono HC2.out.size))
    clear ho hb m1 m2 m3
    by_cases hlt : j < lb
    · have hln : decide ((j : Int) < (lb : Int)) = true := by simp; omega
      have hx1 : j < bs.length := by rw [HLB.out]; exact hlt
      obtain ⟨b, o, s, rfl, hbs, hc0, hc1, hc2, hls⟩ := lsV_get (lsV_below HCW.out _ _ _ HLS.out) j hx1
      have HLJ : Hid (LvV wr bs[j] (.agg #[.int .i64 (kindOf bs[j]), .int .i64 (numOf bs[j]), s])) := ⟨_, rfl, hls⟩
      have HGD : Hid (bs.getD j (.mk 0 0 []) = bs[j]) := by
        have : bs.getD j (.mk 0 0 []) = bs[j] := by simp [hx1]
        exact this
      have HVJ : Hid (ValIs bs[j] zs (Rs.getD j 0)) := by
        have := HRV.out j hx1
        rw [HGD.out] at this
        exact this
      have hjr : j < Rs.length := by rw [HRS.out]; exact hx1
      have HTK : Hid (Rs.take (j + 1) = Rs.take j ++ [Rs.getD j 0]) := by
        have : Rs.take (j + 1) = Rs.take j ++ [Rs.getD j 0] := by rw [take_snoc Rs hjr]; simp [hjr]
        exact this
      have q1 : (0 : Int) ≤ (j : Int) := by omega
      have q2 : (j : Int) < (lb : Int) := by omega
      have q3 : (j : Int) < ((j + 1 : Nat) : Int) := by omega
      have q4 : (j : Int) < (j : Int) + 1 := by omega
      obtain ⟨Rj, hRj⟩ : ∃ R, Rs.getD j 0 = R := ⟨_, rfl⟩
      rw [hRj] at HVJ HTK
      have HRJ := Lib.hid hRj
      clear hls hRj hjr
      generalize kindOf bs[j] = ki at *
      generalize numOf bs[j] = nu at *
      generalize bs[j] = tj at *
      obtain ⟨gj, hgj⟩ : ∃ g, decide (300 < nodes tj) = g := ⟨_, rfl⟩
      have HGJ := Lib.hid hgj
      have hkj : Hid (∀ W', Below wr.heap.size wr W' → W'.cell? ⟨b, o + j * 3, none⟩ = some (.int .i64 ki) ∧ W'.cell? ⟨b, o + j * 3 + 1, none⟩ = some (.int .i64 nu) ∧ W'.cell? ⟨b, o + j * 3 + 2, none⟩ = some (s)) := fun W' h => ⟨(h.cell (p := ⟨b, _, none⟩) hbs).trans hc0, (h.cell (p := ⟨b, _, none⟩) hbs).trans hc1, (h.cell (p := ⟨b, _, none⟩) hbs).trans hc2⟩
      clear hgj
      go_wp2_with fail
      refine (great_is tj _ wr HLJ.out gj HGJ.out).mono ?_
      rintro e y1 ⟨rfl, hb1⟩
      have HY1 := Lib.hid hb1
      have HB1 := Lib.hid (HBW.out.trans (hb1.mono HBW.out.size))
      clear hb1 hc0 hc1 hc2
      obtain ⟨hc0, hc1, hc2⟩ := hkj.out y1 HY1.out
      cases gj
      case true =>
        go_wp2_with fail
        go_ret
        exact ⟨rfl, HB.out.trans ((HC2.out.trans (HB1.out.mono HC2.out.size)).mono HB.out.size)⟩
      have HMJ : Hid (nodes tj ≤ 300) := by
        have h9 := of_decide_eq_false HGJ.out
        have : nodes tj ≤ 300 := by omega
        exact this
      go_wp2_with fail
      refine (pvalue_any tj _ _ zs y1 (HLJ.out.below HY1.out) (HS.out.below (HC2.out.trans (HB1.out.mono HC2.out.size))) HL.out (Nat.le_trans HMJ.out (by decide)) Rj HVJ.out).mono ?_
      rintro e y2 ⟨rfl, hb2⟩
      have HY2 := Lib.hid (HY1.out.trans (hb2.mono HY1.out.size))
      have HB2 := Lib.hid (HB1.out.trans (hb2.mono HB1.out.size))
      have HO2 := Lib.hid (own_below HO.out HY2.out)
      have hbase : v2.heap.size ≤ y2.heap.size := HB2.out.size
      clear hb2 hc0 hc1 hc2
      have hj8 : j ≤ 8 := by omega
      go_wp2_with (at_builtin; refine wpList_append_own _ rfl _ _ 25 rfl v2.heap.size 3 i9 (.int .i64 0) 1 8 Try.underlying25 hi hy0 hy1 hy2 rfl (by decide) _ j _ rfl (own_alloc HO2.out _) _ 1 1 [_] rfl rfl (cell_one_new _ _ _) (one_oneCell _ _) ?c4 ?c5 ?c6 ?_)
      case c4 => unfold maxLen; omega
      case c5 => omega
      case c6 => simp; omega
      intro v' w1 hown hgrow _
      have HB3 := Lib.hid (below_lay HB2.out hbase HO2.out hgrow)
      have HO3 : Hid (w1.ownsRow v2.heap.size 3 1 v' (j + 1) ((Rs.take (j + 1)).map (fun R : Nat => Value.int .i64 (R : Int)))) := by
        have : w1.ownsRow v2.heap.size 3 1 v' (j + 1) ((Rs.take (j + 1)).map (fun R : Nat => Value.int .i64 (R : Int))) := by
          rw [HTK.out, List.map_append, List.map_take]
          exact hown
        exact this
      obtain ⟨gg, cap, rfl⟩ : ∃ gg cap, v' = .slice (some ⟨gg, 0, none⟩) (j + 1) cap := by
        rcases hown.2 with ⟨_, e⟩ | ⟨gg, cap, _, e, _⟩
        · cases e
        · exact ⟨gg, cap, e⟩
      have hcj : w1.cell? ⟨gg, j, none⟩ = some (.int .i64 (Rj : Int)) := by
        have hz := hown.1
        rw [World.ownsRow.cellAt hown j (by omega)]
        rw [List.length_append, List.length_singleton] at hz
        rw [List.getElem?_append_right (by omega)]
        have : j - (List.take j (Rs.map (fun R : Nat => Value.int .i64 (R : Int)))).length = 0 := by omega
        rw [this]
        rfl
      clear hown hgrow
      by_cases hR : 1048576 < Rj
      · have hRd : decide ((1048576 : Int) < (Rj : Int)) = true := by simp; omega
        go_wp2_with fail
        go_ret
        exact ⟨rfl, HB.out.trans ((HC2.out.trans (HB3.out.mono HC2.out.size)).mono HB.out.size)⟩
      have hRd : decide ((1048576 : Int) < (Rj : Int)) = false := by simp; omega
      have HAL2 : Hid (∀ x, x < j + 1 → Rs.getD x 0 ≤ 1048576 ∧ nodes (bs.getD x (.mk 0 0 [])) ≤ 300) := fun x hx => by
        rcases Nat.lt_succ_iff_lt_or_eq.1 hx with h | rfl
        · exact hal.out x h
        · rw [HRJ.out, HGD.out]
          exact ⟨by omega, HMJ.out⟩
      go_wp2_with fail
      go_roundw
      case rel => exact ⟨j + 1, by omega, by go_num, HAL2, HO3.out, HB3.out⟩
      case measure => simp [intOf]; omega
    · obtain rfl : j = lb := by omega
      have hln : decide ((j : Int) < (j : Int)) = false := by simp
      have HALL := Lib.hid hal.out
      have h9 := HO.out
      rw [List.take_of_length_le (by rw [HRS.out, HLB.out]; exact Nat.le_refl _)] at h9
      have HSI := Lib.hid (nsl_owned h9)
      clear h9
      have HLI : Hid ((Rs.map (fun R : Nat => (R : Int))).length ≤ 140737488355328) := by
        have : (Rs.map (fun R : Nat => (R : Int))).length ≤ 140737488355328 := by rw [List.length_map, HRS.out, HLB.out]; omega
        exact this
      have HMB : Hid (∀ b ∈ bs, nodes b ≤ 1000) := fun b hb => by
        obtain ⟨x, hx, rfl⟩ := List.getElem_of_mem hb
        have h9 := (HALL.out x (by rw [← HLB.out]; exact hx)).2
        have e9 : bs.getD x (.mk 0 0 []) = bs[x] := by simp [hx]
        rw [e9] at h9
        omega
      have HFF : Hid (ok = true → nodes (instR bs t) ≤ 64 ∧ ∃ R, ValIs (instR bs t) zs R ∧ ValIs t (Rs.map (fun R : Nat => (R : Int))) R) := fun h => by
        subst h
        exact insts_facts HRS.out HRV.out (fun x hx => (HALL.out x (by rw [← HLB.out]; exact hx)).1) HOK.out
      obtain ⟨kr, hkr⟩ : ∃ k, kindOf (instR bs t) = k := ⟨_, rfl⟩
      obtain ⟨nr, hnr⟩ : ∃ k, numOf (instR bs t) = k := ⟨_, rfl⟩
      have HKR := Lib.hid hkr
      have HNR := Lib.hid hnr
      clear hkr hnr
      have HC3 := HCW
      obtain ⟨m1, m2, m3⟩ := hk.out wr HC3.out
      go_wp2_with fail
      refine (inst_any bs t _ _ _ (HW1.out.below HC3.out) (HVB.out.below HC3.out) (Nat.le_trans HMT.out (by decide)) HMB.out).mono ?_
      rintro e x4 ⟨sp, he, hs9, hb⟩
      rw [HOK.out, HKR.out, HNR.out] at he
      obtain rfl : e = Ending.returned (.tuple #[.agg #[.int .i64 kr, .int .i64 nr, sp], .bool ok]) := he
      obtain ⟨pa, pl, pc, rfl⟩ := lvP_slice hs9
      have hb2 : Below wr.heap.size wr (x4.alloc (.cells #[.int .i64 kr, .int .i64 nr, .slice pa pl pc] 24)) := hb.trans ((below_lit x4 (.cells #[.int .i64 kr, .int .i64 nr, .slice pa pl pc] 24)).mono hb.size)
      have HC4 := Lib.hid (HC3.out.trans (hb2.mono HC3.out.size))
      have HR9 := Lib.hid (heap_alloc_new x4 (.cells #[.int .i64 kr, .int .i64 nr, .slice pa pl pc] 24))
      have HZ9 := Lib.hid (show x4.heap.size < (x4.alloc (.cells #[.int .i64 kr, .int .i64 nr, .slice pa pl pc] 24)).heap.size by simp)
      have HXp : Hid (LvV (x4.alloc (.cells #[.int .i64 kr, .int .i64 nr, .slice pa pl pc] 24)) (instR bs t) (.agg #[.int .i64 kr, .int .i64 nr, .slice pa pl pc])) := ⟨_, by rw [HKR.out, HNR.out], lvS_below (below_lit x4 _) _ _ (lvS_of _ _ hs9)⟩
      have HIB := Lib.hid hb2
      clear hb hb2 hs9
      clear m1 m2 m3
      obtain ⟨m1, m2, m3⟩ := hk.out (x4.alloc (.cells #[.int .i64 kr, .int .i64 nr, .slice pa pl pc] 24)) HC4.out
      go_wp2_with fail
      generalize hvx : x4.alloc (.cells #[.int .i64 kr, .int .i64 nr, .slice pa pl pc] 24) = v4 at *
      clear hvx
      generalize x4.heap.size = Bp at *
      have hk2 : Hid (∀ W', Below v4.heap.size v4 W' → W'.cell? ⟨w.heap.size, 0, none⟩ = some (.int .i64 k1) ∧ W'.cell? ⟨w.heap.size, 1, none⟩ = some (.int .i64 n1) ∧ W'.cell? ⟨w.heap.size, 2, none⟩ = some (s1) ∧ W'.cell? ⟨Bp, 0, none⟩ = some (.int .i64 kr) ∧ W'.cell? ⟨Bp, 1, none⟩ = some (.int .i64 nr) ∧ W'.cell? ⟨Bp, 2, none⟩ = some (.slice pa pl pc)) := fun W' h => by
        have h9 := hk.out W' (HC4.out.trans (h.mono HC4.out.size))
        have p9 := (h.block Bp HZ9.out).trans HR9.out
        exact ⟨h9.1, h9.2.1, h9.2.2, cell_of_row _ _ 0 _ 24 (0, 0) p9, cell_of_row _ _ 1 _ 24 (0, 0) p9, cell_of_row _ _ 2 _ 24 (0, 0) p9⟩
      clear m1 m2 m3
      clear hk HR9 HZ9
      have hk := hk2
      clear hk2
      have HB4 := Lib.hid (HB.out.trans (HC4.out.mono HB.out.size))
      have HS4 := Lib.hid (HS.out.below HC4.out)
      have HW4 := Lib.hid (HW1.out.below HC4.out)
      have HV4 := Lib.hid (HVB.out.below HC4.out)
      have HI4 := Lib.hid (HSI.out.below HIB.out)
      clear HC4
      have HC4 := Lib.hid (Below.refl v4.heap.size v4)
      obtain ⟨m1, m2, m3, m4, m5, m6⟩ := hk.out v4 HC4.out
      refine (refInst_any bs t _ _ _ (HW4.out.below HC4.out) (HV4.out.below HC4.out)).mono ?_
      rintro e x5 ⟨sq, he, hs9, hb⟩
      rw [HOK.out, HKR.out, HNR.out] at he
      obtain rfl : e = Ending.returned (.tuple #[.agg #[.int .i64 kr, .int .i64 nr, sq], .bool ok]) := he
      obtain ⟨qa, ql, qc, rfl⟩ := lvP_slice hs9
      have hb2 : Below v4.heap.size v4 (x5.alloc (.cells #[.int .i64 kr, .int .i64 nr, .slice qa ql qc] 24)) := hb.trans ((below_lit x5 (.cells #[.int .i64 kr, .int .i64 nr, .slice qa ql qc] 24)).mono hb.size)
      have HC5 := Lib.hid (HC4.out.trans (hb2.mono HC4.out.size))
      have HR9 := Lib.hid (heap_alloc_new x5 (.cells #[.int .i64 kr, .int .i64 nr, .slice qa ql qc] 24))
      have HZ9 := Lib.hid (show x5.heap.size < (x5.alloc (.cells #[.int .i64 kr, .int .i64 nr, .slice qa ql qc] 24)).heap.size by simp)
      have HXq : Hid (LvV (x5.alloc (.cells #[.int .i64 kr, .int .i64 nr, .slice qa ql qc] 24)) (instR bs t) (.agg #[.int .i64 kr, .int .i64 nr, .slice qa ql qc])) := ⟨_, by rw [HKR.out, HNR.out], lvS_below (below_lit x5 _) _ _ (lvS_of _ _ hs9)⟩
      clear hb hb2 hs9
      clear m1 m2 m3 m4 m5 m6
      obtain ⟨m1, m2, m3, m4, m5, m6⟩ := hk.out (x5.alloc (.cells #[.int .i64 kr, .int .i64 nr, .slice qa ql qc] 24)) HC5.out
      cases ok
      · go_wp2_with fail
        generalize hvx : x5.alloc (.cells #[.int .i64 kr, .int .i64 nr, .slice qa ql qc] 24) = v5 at *
        clear hvx
        generalize x5.heap.size = Bq at *
        have hk2 : Hid (∀ W', Below v5.heap.size v5 W' → W'.cell? ⟨w.heap.size, 0, none⟩ = some (.int .i64 k1) ∧ W'.cell? ⟨w.heap.size, 1, none⟩ = some (.int .i64 n1) ∧ W'.cell? ⟨w.heap.size, 2, none⟩ = some (s1) ∧ W'.cell? ⟨Bp, 0, none⟩ = some (.int .i64 kr) ∧ W'.cell? ⟨Bp, 1, none⟩ = some (.int .i64 nr) ∧ W'.cell? ⟨Bp, 2, none⟩ = some (.slice pa pl pc) ∧ W'.cell? ⟨Bq, 0, none⟩ = some (.int .i64 kr) ∧ W'.cell? ⟨Bq, 1, none⟩ = some (.int .i64 nr) ∧ W'.cell? ⟨Bq, 2, none⟩ = some (.slice qa ql qc)) := fun W' h => by
          have h9 := hk.out W' (HC5.out.trans (h.mono HC5.out.size))
          have p9 := (h.block Bq HZ9.out).trans HR9.out
          exact ⟨h9.1, h9.2.1, h9.2.2.1, h9.2.2.2.1, h9.2.2.2.2.1, h9.2.2.2.2.2, cell_of_row _ _ 0 _ 24 (0, 0) p9, cell_of_row _ _ 1 _ 24 (0, 0) p9, cell_of_row _ _ 2 _ 24 (0, 0) p9⟩
        clear m1 m2 m3 m4 m5 m6
        clear hk HR9 HZ9
        have hk := hk2
        clear hk2
        have HP5 := Lib.hid (HXp.out.below HC5.out)
        obtain ⟨m1, m2, m3, m4, m5, m6, m7, m8, m9⟩ := hk.out v5 (Lib.hid (Below.refl v5.heap.size v5)).out
        refine (sameLevel_same (instR bs t) _ _ _ HP5.out HXq.out).mono ?_
        rintro e v6 ⟨rfl, hb⟩
        have HC6 := Lib.hid (HC5.out.trans (hb.mono HC5.out.size))
        have H56 := Lib.hid hb
        clear hb
        clear m1 m2 m3 m4 m5 m6 m7 m8 m9
        obtain ⟨m1, m2, m3, m4, m5, m6, m7, m8, m9⟩ := hk.out v6 H56.out
        go_wp2_with fail
        have hk9 : Hid (∀ W', Below v6.heap.size v6 W' → W'.cell? ⟨w.heap.size, 0, none⟩ = some (.int .i64 k1) ∧ W'.cell? ⟨w.heap.size, 1, none⟩ = some (.int .i64 n1) ∧ W'.cell? ⟨w.heap.size, 2, none⟩ = some (s1) ∧ W'.cell? ⟨Bp, 0, none⟩ = some (.int .i64 kr) ∧ W'.cell? ⟨Bp, 1, none⟩ = some (.int .i64 nr) ∧ W'.cell? ⟨Bp, 2, none⟩ = some (.slice pa pl pc) ∧ W'.cell? ⟨Bq, 0, none⟩ = some (.int .i64 kr) ∧ W'.cell? ⟨Bq, 1, none⟩ = some (.int .i64 nr) ∧ W'.cell? ⟨Bq, 2, none⟩ = some (.slice qa ql qc)) := fun W' h => hk.out W' (H56.out.trans (h.mono H56.out.size))
        have HD : Hid (Below v6.heap.size v6 v6.drew) := (Below.refl _ _).drew
        refine wp_region_held_drew (S := fun W' => W'.cell? ⟨w.heap.size, 0, none⟩ = some (.int .i64 k1) ∧ W'.cell? ⟨w.heap.size, 1, none⟩ = some (.int .i64 n1) ∧ W'.cell? ⟨w.heap.size, 2, none⟩ = some (s1) ∧ W'.cell? ⟨Bp, 0, none⟩ = some (.int .i64 kr) ∧ W'.cell? ⟨Bp, 1, none⟩ = some (.int .i64 nr) ∧ W'.cell? ⟨Bp, 2, none⟩ = some (.slice pa pl pc) ∧ W'.cell? ⟨Bq, 0, none⟩ = some (.int .i64 kr) ∧ W'.cell? ⟨Bq, 1, none⟩ = some (.int .i64 nr) ∧ W'.cell? ⟨Bq, 2, none⟩ = some (.slice qa ql qc)) (by kernel_rfl) (hk9.out _ HD.out) (fun hHeld => ?_)
        refine take_in (i := 0) (v := ?_) rfl (by kernel_rfl) (by kernel_rfl) (by kernel_rfl) (fun _ _ _ h => h) (by rfl) ?_ hHeld ?_
        rotate_left
        · intro w hSw
          (try dsimp only at hSw)
          go_simp
          try with_reducible rfl
        try simp only [Act.put, List.setIfInBounds_toArray, List.set_cons_zero, List.set_cons_succ]
        refine take_in (i := 1) (v := ?_) rfl (by kernel_rfl) (by kernel_rfl) (by kernel_rfl) (fun _ _ _ h => h) (by rfl) ?_ hHeld ?_
        rotate_left
        · intro w hSw
          (try dsimp only at hSw)
          go_simp
          try with_reducible rfl
        try simp only [Act.put, List.setIfInBounds_toArray, List.set_cons_zero, List.set_cons_succ]
        refine take_in (i := 2) (v := ?_) rfl (by kernel_rfl) (by kernel_rfl) (by kernel_rfl) (fun _ _ _ h => h) (by rfl) ?_ hHeld ?_
        rotate_left
        · intro w hSw
          (try dsimp only at hSw)
          go_simp
          try with_reducible rfl
        try simp only [Act.put, List.setIfInBounds_toArray, List.set_cons_zero, List.set_cons_succ]
        refine skip_in (i := 3) rfl (by kernel_rfl) (by kernel_rfl) (by kernel_rfl) (fun _ _ _ h => h) (by rfl) hHeld ?_
        try simp only [Act.put, List.setIfInBounds_toArray, List.set_cons_zero, List.set_cons_succ]
        refine skip_in (i := 4) rfl (by kernel_rfl) (by kernel_rfl) (by kernel_rfl) (fun _ _ _ h => h) (by rfl) hHeld ?_
        try simp only [Act.put, List.setIfInBounds_toArray, List.set_cons_zero, List.set_cons_succ]
        refine skip_in (i := 5) rfl (by kernel_rfl) (by kernel_rfl) (by kernel_rfl) (fun _ _ _ h => h) (by rfl) hHeld ?_
        try simp only [Act.put, List.setIfInBounds_toArray, List.set_cons_zero, List.set_cons_succ]
        refine skip_in (i := 6) rfl (by kernel_rfl) (by kernel_rfl) (by kernel_rfl) (fun _ _ _ h => h) (by rfl) hHeld ?_
        try simp only [Act.put, List.setIfInBounds_toArray, List.set_cons_zero, List.set_cons_succ]
        refine skip_in (i := 7) rfl (by kernel_rfl) (by kernel_rfl) (by kernel_rfl) (fun _ _ _ h => h) (by rfl) hHeld ?_
        try simp only [Act.put, List.setIfInBounds_toArray, List.set_cons_zero, List.set_cons_succ]
        refine skip_in (i := 8) rfl (by kernel_rfl) (by kernel_rfl) (by kernel_rfl) (fun _ _ _ h => h) (by rfl) hHeld ?_
        try simp only [Act.put, List.setIfInBounds_toArray, List.set_cons_zero, List.set_cons_succ]
        refine skip_in (i := 9) rfl (by kernel_rfl) (by kernel_rfl) (by kernel_rfl) (fun _ _ _ h => h) (by rfl) hHeld ?_
        try simp only [Act.put, List.setIfInBounds_toArray, List.set_cons_zero, List.set_cons_succ]
        refine take_in (i := 10) (v := ?_) rfl (by kernel_rfl) (by kernel_rfl) (by kernel_rfl) (fun _ _ _ h => h) (by rfl) ?_ hHeld ?_
        rotate_left
        · intro w hSw
          (try dsimp only at hSw)
          go_simp
          try with_reducible rfl
        try simp only [Act.put, List.setIfInBounds_toArray, List.set_cons_zero, List.set_cons_succ]
        refine take_in (i := 11) (v := ?_) rfl (by kernel_rfl) (by kernel_rfl) (by kernel_rfl) (fun _ _ _ h => h) (by rfl) ?_ hHeld ?_
        rotate_left
        · intro w hSw
          (try dsimp only at hSw)
          go_simp
          try with_reducible rfl
        try simp only [Act.put, List.setIfInBounds_toArray, List.set_cons_zero, List.set_cons_succ]
        refine wpAnyH_done (by kernel_rfl) ?_ _
        go_wp2_with fail
        go_ret
        exact ⟨rfl, HB4.out.trans ((HC6.out.trans (HD.out.mono HC6.out.size)).mono HB4.out.size)⟩
      · go_wp2_with fail
        generalize hvx : x5.alloc (.cells #[.int .i64 kr, .int .i64 nr, .slice qa ql qc] 24) = v5 at *
        clear hvx
        generalize x5.heap.size = Bq at *
        have hk2 : Hid (∀ W', Below v5.heap.size v5 W' → W'.cell? ⟨w.heap.size, 0, none⟩ = some (.int .i64 k1) ∧ W'.cell? ⟨w.heap.size, 1, none⟩ = some (.int .i64 n1) ∧ W'.cell? ⟨w.heap.size, 2, none⟩ = some (s1) ∧ W'.cell? ⟨Bp, 0, none⟩ = some (.int .i64 kr) ∧ W'.cell? ⟨Bp, 1, none⟩ = some (.int .i64 nr) ∧ W'.cell? ⟨Bp, 2, none⟩ = some (.slice pa pl pc) ∧ W'.cell? ⟨Bq, 0, none⟩ = some (.int .i64 kr) ∧ W'.cell? ⟨Bq, 1, none⟩ = some (.int .i64 nr) ∧ W'.cell? ⟨Bq, 2, none⟩ = some (.slice qa ql qc)) := fun W' h => by
          have h9 := hk.out W' (HC5.out.trans (h.mono HC5.out.size))
          have p9 := (h.block Bq HZ9.out).trans HR9.out
          exact ⟨h9.1, h9.2.1, h9.2.2.1, h9.2.2.2.1, h9.2.2.2.2.1, h9.2.2.2.2.2, cell_of_row _ _ 0 _ 24 (0, 0) p9, cell_of_row _ _ 1 _ 24 (0, 0) p9, cell_of_row _ _ 2 _ 24 (0, 0) p9⟩
        clear m1 m2 m3 m4 m5 m6
        clear hk HR9 HZ9
        have hk := hk2
        clear hk2
        have HP5 := Lib.hid (HXp.out.below HC5.out)
        obtain ⟨m1, m2, m3, m4, m5, m6, m7, m8, m9⟩ := hk.out v5 (Lib.hid (Below.refl v5.heap.size v5)).out
        refine (sameLevel_same (instR bs t) _ _ _ HP5.out HXq.out).mono ?_
        rintro e v6 ⟨rfl, hb⟩
        have HC6 := Lib.hid (HC5.out.trans (hb.mono HC5.out.size))
        have H56 := Lib.hid hb
        clear hb
        clear m1 m2 m3 m4 m5 m6 m7 m8 m9
        obtain ⟨m1, m2, m3, m4, m5, m6, m7, m8, m9⟩ := hk.out v6 H56.out
        go_wp2_with fail
        have hk9 : Hid (∀ W', Below v6.heap.size v6 W' → W'.cell? ⟨w.heap.size, 0, none⟩ = some (.int .i64 k1) ∧ W'.cell? ⟨w.heap.size, 1, none⟩ = some (.int .i64 n1) ∧ W'.cell? ⟨w.heap.size, 2, none⟩ = some (s1) ∧ W'.cell? ⟨Bp, 0, none⟩ = some (.int .i64 kr) ∧ W'.cell? ⟨Bp, 1, none⟩ = some (.int .i64 nr) ∧ W'.cell? ⟨Bp, 2, none⟩ = some (.slice pa pl pc) ∧ W'.cell? ⟨Bq, 0, none⟩ = some (.int .i64 kr) ∧ W'.cell? ⟨Bq, 1, none⟩ = some (.int .i64 nr) ∧ W'.cell? ⟨Bq, 2, none⟩ = some (.slice qa ql qc)) := fun W' h => hk.out W' (H56.out.trans (h.mono H56.out.size))
        have HD : Hid (Below v6.heap.size v6 v6.drew) := (Below.refl _ _).drew
        obtain ⟨hn9, R, hr1, hr2⟩ := HFF.out (by trivial)
        have HN9 := Lib.hid hn9
        have HR1 := Lib.hid hr1
        have HR2 := Lib.hid hr2
        have b2 : ((R : Int) == (R : Int)) = true := by simp
        clear hn9 hr1 hr2
        have HX6 := Lib.hid (HP5.out.below H56.out)
        refine wp_region_held_drew (S := fun W' => W'.cell? ⟨w.heap.size, 0, none⟩ = some (.int .i64 k1) ∧ W'.cell? ⟨w.heap.size, 1, none⟩ = some (.int .i64 n1) ∧ W'.cell? ⟨w.heap.size, 2, none⟩ = some (s1) ∧ W'.cell? ⟨Bp, 0, none⟩ = some (.int .i64 kr) ∧ W'.cell? ⟨Bp, 1, none⟩ = some (.int .i64 nr) ∧ W'.cell? ⟨Bp, 2, none⟩ = some (.slice pa pl pc) ∧ W'.cell? ⟨Bq, 0, none⟩ = some (.int .i64 kr) ∧ W'.cell? ⟨Bq, 1, none⟩ = some (.int .i64 nr) ∧ W'.cell? ⟨Bq, 2, none⟩ = some (.slice qa ql qc)) (by kernel_rfl) (hk9.out _ HD.out) (fun hHeld => ?_)
        refine take_in (i := 0) (v := ?_) rfl (by kernel_rfl) (by kernel_rfl) (by kernel_rfl) (fun _ _ _ h => h) (by rfl) ?_ hHeld ?_
        rotate_left
        · intro w hSw
          (try dsimp only at hSw)
          go_simp
          try with_reducible rfl
        try simp only [Act.put, List.setIfInBounds_toArray, List.set_cons_zero, List.set_cons_succ]
        refine take_in (i := 1) (v := ?_) rfl (by kernel_rfl) (by kernel_rfl) (by kernel_rfl) (fun _ _ _ h => h) (by rfl) ?_ hHeld ?_
        rotate_left
        · intro w hSw
          (try dsimp only at hSw)
          go_simp
          try with_reducible rfl
        try simp only [Act.put, List.setIfInBounds_toArray, List.set_cons_zero, List.set_cons_succ]
        refine take_in (i := 2) (v := ?_) rfl (by kernel_rfl) (by kernel_rfl) (by kernel_rfl) (fun _ _ _ h => h) (by rfl) ?_ hHeld ?_
        rotate_left
        · intro w hSw
          (try dsimp only at hSw)
          go_simp
          try with_reducible rfl
        try simp only [Act.put, List.setIfInBounds_toArray, List.set_cons_zero, List.set_cons_succ]
        refine take_in (i := 3) (v := ?_) rfl (by kernel_rfl) (by kernel_rfl) (by kernel_rfl) (fun _ _ _ h => h) (by rfl) ?_ hHeld ?_
        rotate_left
        · intro w hSw
          (try dsimp only at hSw)
          go_simp
          try with_reducible rfl
        try simp only [Act.put, List.setIfInBounds_toArray, List.set_cons_zero, List.set_cons_succ]
        refine take_in (i := 4) (v := ?_) rfl (by kernel_rfl) (by kernel_rfl) (by kernel_rfl) (fun _ _ _ h => h) (by rfl) ?_ hHeld ?_
        rotate_left
        · intro w hSw
          (try dsimp only at hSw)
          go_simp
          try with_reducible rfl
        try simp only [Act.put, List.setIfInBounds_toArray, List.set_cons_zero, List.set_cons_succ]
        refine take_in (i := 6) (v := ?_) rfl (by kernel_rfl) (by kernel_rfl) (by kernel_rfl) (fun _ _ _ h => h) (by rfl) ?_ hHeld ?_
        rotate_left
        · intro w hSw
          (try dsimp only at hSw)
          go_simp
          try with_reducible rfl
        try simp only [Act.put, List.setIfInBounds_toArray, List.set_cons_zero, List.set_cons_succ]
        refine take_in (i := 7) (v := ?_) rfl (by kernel_rfl) (by kernel_rfl) (by kernel_rfl) (fun _ _ _ h => h) (by rfl) ?_ hHeld ?_
        rotate_left
        · intro w hSw
          (try dsimp only at hSw)
          go_simp
          try with_reducible rfl
        try simp only [Act.put, List.setIfInBounds_toArray, List.set_cons_zero, List.set_cons_succ]
        refine call_in (i := 5) rfl (by kernel_rfl) (fun K hK => ?_)
        clear hHeld
        go_simp
        (go_at_call 15; refine (pvalue_any (instR bs t) _ _ zs _ (HX6.out.below HD.out) (HS4.out.below (HC6.out.trans (HD.out.mono HC6.out.size))) HL.out (Nat.le_trans HN9.out (by decide)) R HR1.out).mono ?_; rintro e z1 ⟨rfl, hb9⟩; have hz1 : Hid (Below v6.heap.size v6 z1) := HD.out.trans (hb9.mono HD.out.size); clear hb9)
        try (go_wp2_with fail)
        refine hK.out _ _ (hk9.out _ hz1.out) (fun hHeld => ?_)
        clear hK K
        try simp only [Act.put, List.setIfInBounds_toArray, List.set_cons_zero, List.set_cons_succ]
        refine call_in (i := 8) rfl (by kernel_rfl) (fun K hK => ?_)
        clear hHeld
        go_simp
        (go_at_call 15; refine (pvalue_any t _ _ (Rs.map (fun R : Nat => (R : Int))) _ (HW4.out.below (HC6.out.trans (hz1.out.mono HC6.out.size))) (HI4.out.below (HC6.out.trans (hz1.out.mono HC6.out.size))) HLI.out (Nat.le_trans HMT.out (by decide)) R HR2.out).mono ?_; rintro e z2 ⟨rfl, hb9⟩; have hz2 : Hid (Below v6.heap.size v6 z2) := hz1.out.trans (hb9.mono hz1.out.size); clear hb9)
        try (go_wp2_with fail)
        refine hK.out _ _ (hk9.out _ hz2.out) (fun hHeld => ?_)
        clear hK K
        try simp only [Act.put, List.setIfInBounds_toArray, List.set_cons_zero, List.set_cons_succ]
        refine take_in (i := 9) (v := ?_) rfl (by kernel_rfl) (by kernel_rfl) (by kernel_rfl) (fun _ _ _ h => h) (by rfl) ?_ hHeld ?_
        rotate_left
        · intro w hSw
          (try dsimp only at hSw)
          go_simp
          try with_reducible rfl
        try simp only [Act.put, List.setIfInBounds_toArray, List.set_cons_zero, List.set_cons_succ]
        refine take_in (i := 10) (v := ?_) rfl (by kernel_rfl) (by kernel_rfl) (by kernel_rfl) (fun _ _ _ h => h) (by rfl) ?_ hHeld ?_
        rotate_left
        · intro w hSw
          (try dsimp only at hSw)
          go_simp
          try with_reducible rfl
        try simp only [Act.put, List.setIfInBounds_toArray, List.set_cons_zero, List.set_cons_succ]
        refine take_in (i := 11) (v := ?_) rfl (by kernel_rfl) (by kernel_rfl) (by kernel_rfl) (fun _ _ _ h => h) (by rfl) ?_ hHeld ?_
        rotate_left
        · intro w hSw
          (try dsimp only at hSw)
          go_simp
          try with_reducible rfl
        try simp only [Act.put, List.setIfInBounds_toArray, List.set_cons_zero, List.set_cons_succ]
        refine wpAnyH_done (by kernel_rfl) ?_ _
        go_wp2_with fail
        go_ret
        exact ⟨rfl, HB4.out.trans ((HC6.out.trans (hz2.out.mono HC6.out.size)).mono HB4.out.size)⟩
end Go.Proofs.Yteghldgopidhhaa
