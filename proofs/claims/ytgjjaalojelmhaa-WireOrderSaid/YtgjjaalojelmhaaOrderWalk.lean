/-
  The law WireOrder, walked: whatever numbers come in, it returns true, and nothing that was there turns.
  Conditions: none.
-/
import Derived.Test.YtgjjaalojelmhaaAlive2
import Derived.Deep.RegionHeld3
namespace Go.Proofs.Ytgjjaalojelmhaa
open Go.RowKit
open Wire

theorem nums_one (z : Int) (b : Bool) (h : numB z = b) : [z].all numB = b := by simp [h]
theorem numsOf_yes {z : Int} (h : numB z = true) : numsOf [z] = enc z.toNat := by
  unfold numsOf
  rw [nums_one z true h, if_pos rfl]
  simp [numsL]
theorem numsOf_no {z : Int} (h : numB z = false) : numsOf [z] = [] := by
  unfold numsOf
  rw [nums_one z false h]
  rfl
theorem no_begin {m k : Nat} (h : m ≠ k) (L : Nat) : enc m ≠ (enc k).take L := fun e => h (by
  have h1 : enc k ++ [] = enc m ++ (enc k).drop L := by rw [e, List.take_append_drop, List.append_nil]
  exact (enc_pre h1).1.symm)

set_option maxRecDepth 100000 in
set_option maxHeartbeats 4000000 in
theorem wireOrder_any (a b : Int) (w : World) : Calls Try.prog 6 #[.int .i64 a, .int .i64 b] w (Ret w (.bool true)) := by
  go_enter Try.func6, Try.ntmps6
  go_wp2_with fail
  refine (alive_any w).mono ?_
  rintro e w1 ⟨rfl, hb1⟩
  have HB1 := Lib.hid hb1
  clear hb1
  obtain ⟨xs, hxs⟩ : ∃ xs, numsOf [a] = xs := ⟨_, rfl⟩
  obtain ⟨ok, hok⟩ : ∃ ok, numB a = ok := ⟨_, rfl⟩
  obtain ⟨ys, hys⟩ : ∃ ys, numsOf [b] = ys := ⟨_, rfl⟩
  obtain ⟨is, his⟩ : ∃ is, numB b = is := ⟨_, rfl⟩
  have HXS := Lib.hid hxs
  have HOK := Lib.hid hok
  have HYS := Lib.hid hys
  have HIS := Lib.hid his
  clear hxs hok hys his
  go_wp2_with fail
  refine (nums_v _ [a] _ (nsl_lit w1 [a] 1 rfl _ rfl) (by simp) _ _ HXS.out (nums_one a ok HOK.out)).mono ?_
  rintro e w2 ⟨x, M, rfl, ho2, hb2⟩
  have hb2' := below_from hb2
  have HX2 := Lib.hid (bsl_own ho2)
  have HB2 := Lib.hid (HB1.out.trans (hb2'.mono HB1.out.size))
  clear ho2 hb2 hb2' HB1
  go_wp2_with fail
  refine (nums_v _ [b] _ (nsl_lit w2 [b] 1 rfl _ rfl) (by simp) _ _ HYS.out (nums_one b is HIS.out)).mono ?_
  rintro e w3 ⟨y, K, rfl, ho3, hb3⟩
  have hb3' := below_from hb3
  have HX3 := Lib.hid (HX2.out.below hb3')
  have HY3 := Lib.hid (bsl_own ho3)
  have HB3 := Lib.hid (HB2.out.trans (hb3'.mono HB2.out.size))
  clear ho3 hb3 hb3' HX2 HB2
  cases ok
  · have hno := numB_no HOK.out
    go_wp2_with fail
    refine (size_no a _ hno).mono ?_
    rintro e w4 ⟨rfl, rfl⟩
    go_wp2_with fail
    go_ret
    exact ⟨rfl, HB3.out⟩
  · cases is
    · go_wp2_with fail
      go_ret
      exact ⟨rfl, HB3.out⟩
    · have hga := numB_yes HOK.out
      have hgb := numB_yes HIS.out
      obtain ⟨m, rfl⟩ := Int.eq_ofNat_of_zero_le hga.1
      obtain ⟨k, rfl⟩ := Int.eq_ofNat_of_zero_le hgb.1
      have HXE : Hid (xs = enc m) := by rw [← HXS.out, numsOf_yes HOK.out]; rfl
      have HYE : Hid (ys = enc k) := by rw [← HYS.out, numsOf_yes HIS.out]; rfl
      obtain ⟨A, n, c, rfl, hn, hc, hA, hx⟩ := HX3.out
      obtain ⟨A', n', c', rfl, hn', hc', hA', hy⟩ := HY3.out
      have hn6 : n ≤ 6 := by rw [← hn, HXE.out]; exact enc_six (by omega)
      have hn6' : n' ≤ 6 := by rw [← hn', HYE.out]; exact enc_six (by omega)
      have HX := Lib.hid hx
      have HY := Lib.hid hy
      have HN := Lib.hid hn
      have HNA := Lib.hid hA
      have HNA' := Lib.hid hA'
      have HN' := Lib.hid hn'
      have hmono : m ≤ k → n ≤ n' := fun h => by rw [← hn, ← hn', HXE.out, HYE.out]; exact enc_mono h
      clear HXS HYS HOK HIS hga hgb hA hA' hn hn' hx hy HX3 HY3
      by_cases heq : m = k
      · subst heq
        have hd1 : decide ((m : Int) < (m : Int)) = false := by simp
        have hd2 : decide ((m : Int) = (m : Int)) = true := by simp
        clear hmono
        go_wp2_with fail
        go_ret
        exact ⟨rfl, HB3.out⟩
      · have hd2 : decide ((m : Int) = (k : Int)) = false := by simp; omega
        by_cases hlen : n' < n
        · have hlt : ¬ m < k := fun h => by
            have := hmono (Nat.le_of_lt h)
            omega
          have hd1 : decide ((m : Int) < (k : Int)) = false := by simp; omega
          have hd3 : decide ((n' : Int) < (n : Int)) = true := by simp; omega
          clear hmono
          go_wp2_with fail
          go_ret
          exact ⟨rfl, HB3.out⟩
        · have hd3 : decide ((n' : Int) < (n : Int)) = false := by simp; omega
          have HNE : Hid (decide (xs = ys.take n) = false) := by
            rw [HXE.out, HYE.out]
            exact decide_eq_false (no_begin heq n)
          clear hmono
          have hs1 : (0 : Int) ≤ (n : Int) := by omega
          have hs2 : (n : Int) ≤ (c' : Int) := by omega
          by_cases hlt : m < k
          · have hd1 : decide ((m : Int) < (k : Int)) = true := by simp; omega
            go_wp2_with fail
            refine (sameBytes_b _ _ xs (ys.take n) _ ⟨A, n, c, rfl, HN.out, hc, HNA.out, HX.out⟩ ⟨A', n, c', rfl, by rw [List.length_take, HN'.out]; omega, by omega, HNA'.out, HY.out.take n⟩ (by rw [HN.out]; omega) false HNE.out).mono ?_
            rintro e w4 ⟨rfl, hb4⟩
            have HB4 := Lib.hid (HB3.out.trans (hb4.mono HB3.out.size))
            clear hb4
            go_wp2_with fail
            go_ret
            exact ⟨rfl, HB4.out⟩
          · have hd1 : decide ((m : Int) < (k : Int)) = false := by simp; omega
            go_wp2_with fail
            refine (sameBytes_b _ _ xs (ys.take n) _ ⟨A, n, c, rfl, HN.out, hc, HNA.out, HX.out⟩ ⟨A', n, c', rfl, by rw [List.length_take, HN'.out]; omega, by omega, HNA'.out, HY.out.take n⟩ (by rw [HN.out]; omega) false HNE.out).mono ?_
            rintro e w4 ⟨rfl, hb4⟩
            have HB4 := Lib.hid (HB3.out.trans (hb4.mono HB3.out.size))
            clear hb4
            go_wp2_with fail
            go_ret
            exact ⟨rfl, HB4.out⟩
end Go.Proofs.Ytgjjaalojelmhaa
