/-
  The law NameSorts, walked: whatever list and text come in, it returns true, and nothing that was there turns.
  Conditions: as in the contracts of Right ('Gl'); the list lies in memory as told by 'Txt'; it takes at most 2^47 bytes, and each text at most so many.
-/
import Derived.Test.YtnknaecfjkiibaaDoorFreshWalk
import Derived.Test.YtnknaecfjkiibaaDoorOrd
import Derived.IntWalk
import Derived.Sort.Walk0
import Derived.Deep.QuietTactic
import Derived.BigQuiet
namespace Go.Proofs.YtnknaecfjkiibaaDoor
open Go.RowKit

/-- Whether the text stands among the first k. -/
def inTo (s : ByteArray) (xs : List ByteArray) (k : Nat) : Bool := !freeTo s xs k
theorem inTo_zero (s : ByteArray) (xs : List ByteArray) : inTo s xs 0 = false := by unfold inTo; rw [freeTo_zero]; rfl
theorem inTo_succ (s : ByteArray) (xs : List ByteArray) (k : Nat) (h : k < xs.length) : inTo s xs (k + 1) = (inTo s xs k || (xs[k].toList == s.toList)) := by
  unfold inTo
  rw [freeTo_succ s xs k h]
  cases freeTo s xs k <;> cases (xs[k].toList == s.toList) <;> rfl
theorem in_sorted (s : ByteArray) (xs : List ByteArray) : (inTo s xs xs.length == inTo s (sortedOf xs) (sortedOf xs).length) = true := by
  have h : freeTo s (sortedOf xs) (sortedOf xs).length = freeTo s xs xs.length := by
    rw [freeTo_all, freeTo_all]
    unfold takenL
    rw [sortedOf_data]
    exact decide_eq_decide.2 (not_congr (sortedL_mem xs s.data.toList))
  unfold inTo
  rw [h]; simp
theorem sorted_less (xs : List ByteArray) (m : Nat) (h : m + 1 < (sortedOf xs).length) : Op.bytesLess ((sortedOf xs)[m]'(by omega)).toList ((sortedOf xs)[m + 1]).toList = true := by
  have hl : (sortedL xs).length = (sortedOf xs).length := by rw [← sortedOf_data, List.length_map]
  have hp := List.pairwise_iff_getElem.1 (sortedL_lt xs) m (m + 1) (by omega) (by omega) (by omega)
  have e : ∀ i (hi : i < (sortedOf xs).length), ((sortedOf xs)[i]).data.toList = (sortedL xs)[i]'(by omega) := fun i hi => by
    simp only [← sortedOf_data, List.getElem_map]
  rw [bytesLess_eq, ByteArray.toList_eq, ByteArray.toList_eq, e, e]
  exact decide_eq_true hp

theorem sort_val (A : Option Addr) (n c : Nat) (xs ys : List ByteArray) (w : World) (hx : Txt w A xs) (hN : xs.length = n) (hA : A = none → c = 0) (hn : n * 16 ≤ 140737488355328) (hy : sortedOf xs = ys) :
    Calls Tryd.prog 16 #[.slice A n c] w (SliceRet w ys) := by
  subst hy
  exact sort_any A n c xs w hx hN hA hn
theorem same_self (A A' : Option Addr) (n n' c c' : Nat) (xs : List ByteArray) (w : World) (hx : Txt w A xs) (hx' : Txt w A' xs) (hn : xs.length = n) (hn' : xs.length = n') (hb : n ≤ 140737488355328) :
    Calls Tryd.prog 17 #[.slice A n c, .slice A' n' c'] w (Ret w (.bool true)) := by
  subst hn; subst hn'
  refine (sameTexts_any A A' c c' xs xs w hx hx' hb).mono fun e w' ⟨he, q, hw⟩ => ⟨?_, by subst hw; exact quietBelow w q⟩
  rw [he, decide_eq_true rfl]

set_option maxHeartbeats 2000000 in
set_option maxRecDepth 100000 in
theorem nameSorts_any (A : Option Addr) (n c : Nat) (xs : List ByteArray) (s : ByteArray) (w : World) (g : Gl w) (hx : Txt w A xs) (hN : xs.length = n) (hA : A = none → c = 0) (hn : n * 16 ≤ 140737488355328) (hs : ∀ x ∈ xs, x.size ≤ 140737488355328) :
    Calls Tryd.prog 6 #[.slice A n c, .string s] w (Ret w (.bool true)) := by
  have G0 := Lib.hid g
  have B0 := Lib.hid (Below.refl w.heap.size w)
  have HX := Lib.hid hx
  have HN := Lib.hid hN
  have HS := Lib.hid hs
  have HA := Lib.hid hA
  obtain ⟨ys, hys⟩ : ∃ ys, sortedOf xs = ys := ⟨_, rfl⟩
  have HIN : Hid ((inTo s xs xs.length == inTo s ys ys.length) = true) := by subst hys; exact in_sorted s xs
  have HLT : Hid (∀ m (h : m + 1 < ys.length), Op.bytesLess (ys[m]'(by omega)).toList (ys[m + 1]).toList = true) := by subst hys; exact sorted_less xs
  have HAG : Hid (sortedOf ys = ys) := by subst hys; exact sortedOf_again xs
  have HLE : Hid (ys.length ≤ xs.length) := by subst hys; exact sortedOf_len xs
  have HYS := Lib.hid hys
  clear g hx hN hs hA hys
  go_enter Tryd.func6, Tryd.ntmps6
  go_wp2_with fail
  refine (alive_any _ G0.out).mono ?_
  rintro e w1 ⟨rfl, hb1⟩
  have G1 := Lib.hid (G0.out.below hb1)
  have B1 := Lib.hid (B0.out.trans (hb1.mono B0.out.size))
  have HX1 := Lib.hid (HX.out.below hb1)
  clear hb1
  go_wp2_with fail
  refine (lengths_any A c n xs _ HX1.out (by omega) HN.out HS.out).mono ?_
  rintro e w2 ⟨⟨r, rfl, hres⟩, rfl⟩
  by_cases hle : r ≤ 2000
  · obtain ⟨hn2, _⟩ := hres hle
    have hn2000 : n ≤ 2000 := by rw [← HN.out]; exact hn2
    have hr2 : decide ((2000 : Int) < (r : Int)) = false := by simp; omega
    clear hres hn2
    by_cases h1 : s.size ≤ 400
    · have h400 : decide ((400 : Int) < (s.size : Int)) = false := by simp; omega
      go_wp2_with fail
      refine (sort_val A n c xs ys _ HX1.out HN.out HA.out hn HYS.out).mono ?_
      rintro e w3 ⟨A', n', c', rfl, hn', hc', hA', hx', hb3⟩
      have hle' : n' ≤ n := by have := HLE.out; rw [hn', HN.out] at this; exact this
      have B3 := Lib.hid (B1.out.trans (hb3.mono B1.out.size))
      have HX3 := Lib.hid (HX1.out.below hb3)
      have HY3 := Lib.hid hx'
      have HN' := Lib.hid hn'
      have HA' := Lib.hid hA'
      clear hb3 hx' hn' hA' G0 G1 B0 B1 HX HX1 HA
      go_wp2_with fail
      go_loop [6, 7] (fun f i => ∃ k : Nat, k ≤ n ∧ i = .int .i64 k ∧ f = .bool (inTo s xs k)) (fun _ i => n - (intOf i).toNat)
      case atStart => exact ⟨0, Nat.zero_le _, rfl, by rw [inTo_zero]⟩
      case round =>
        obtain ⟨k, hk, rfl, rfl⟩ := hrel
        by_cases hlt : k < n
        · have hx1 : k < xs.length := by rw [HN.out]; exact hlt
          obtain ⟨b, o, rfl, hcell⟩ := HX3.out.at_ hx1
          have HFS := Lib.hid (inTo_succ s xs k hx1)
          have hln : (k : Int) < (n : Int) := by omega
          generalize xs[k] = x at *
          cases hfr : inTo s xs k
          · rw [hfr, Bool.false_or] at HFS
            clear hfr
            go_wp2_with fail
            go_round
            case rel => exact ⟨k + 1, by omega, by go_num, by rw [HFS.out]⟩
            case measure => simp [intOf]; omega
          · rw [hfr, Bool.true_or] at HFS
            clear hfr
            go_wp2_with fail
            go_round
            case rel => exact ⟨k + 1, by omega, by go_num, by rw [HFS.out]⟩
            case measure => simp [intOf]; omega
        · obtain rfl : k = n := by omega
          have HIN' : Hid ((inTo s xs k == inTo s ys n') = true) := by rw [← HN.out, ← HN'.out]; exact HIN.out
          generalize inTo s xs k = fin at *
          go_wp2_with fail
          go_loopw [8, 9] (fun f i wr => ∃ k : Nat, k ≤ n' ∧ i = .int .i64 k ∧ f = .bool (inTo s ys k) ∧ ∃ q, wr = w3.drewN q) (fun _ i _ => n' - (intOf i).toNat)
          case atStart => exact ⟨0, Nat.zero_le _, rfl, by rw [inTo_zero], 0, rfl⟩
          case round =>
            obtain ⟨i, hi, rfl, rfl, q, rfl⟩ := hrel
            by_cases hlt2 : i < n'
            · have hy1 : i < ys.length := by rw [HN'.out]; exact hlt2
              obtain ⟨b, o, rfl, hcell⟩ := HY3.out.at_ hy1
              have HFS := Lib.hid (inTo_succ s ys i hy1)
              have hln2 : (i : Int) < (n' : Int) := by omega
              by_cases h0 : i = 0
              · subst h0
                rw [Nat.add_zero] at hcell
                generalize ys[0] = y at *
                cases hfr : inTo s ys 0
                · rw [hfr, Bool.false_or] at HFS
                  clear hfr
                  go_wp2_with fail
                  go_quiet (fail)
                  go_wp2_with fail
                  go_roundw
                  case rel => exact ⟨1, by omega, rfl, by rw [HFS.out], _, rfl⟩
                  case measure => simp [intOf]; omega
                · rw [hfr, Bool.true_or] at HFS
                  clear hfr
                  go_wp2_with fail
                  go_quiet (fail)
                  go_wp2_with fail
                  go_roundw
                  case rel => exact ⟨1, by omega, rfl, by rw [HFS.out], _, rfl⟩
                  case measure => simp [intOf]; omega
              · obtain ⟨m, rfl⟩ : ∃ m, i = m + 1 := ⟨i - 1, by omega⟩
                have hcell2 : w3.cell? ⟨b, o + m, none⟩ = some (.string (ys[m]'(by omega))) := by
                  obtain ⟨b2, o2, e2, hc2⟩ := HY3.out.at_ (show m < ys.length by omega)
                  have := Option.some.inj e2
                  injection this with e3 e4 _
                  subst e3; subst e4
                  exact hc2
                have hless := HLT.out m hy1
                have hm40 : m ≤ 2000 := by omega
                have hm0 : (0 : Int) ≤ (m : Int) := by omega
                have hln3 : (m : Int) < (n' : Int) := by omega
                have hsum : IntKind.i64.wrap ((m : Int) + 1 - 1) = (m : Int) := by rw [show (m : Int) + 1 - 1 = m from by omega]; exact IntWalk.i64_in _ (by omega)
                have hsum2 : IntKind.i64.wrap (m : Int) = (m : Int) := IntWalk.i64_in _ (by omega)
                have hpos : decide ((0 : Int) < (m : Int) + 1) = true := decide_eq_true (by omega)
                generalize ys[m + 1] = y at *
                generalize ys[m]'(by omega) = y' at *
                cases hfr : inTo s ys (m + 1)
                · rw [hfr, Bool.false_or] at HFS
                  clear hfr
                  go_wp2_with fail
                  go_quiet (fail)
                  go_wp2_with fail
                  go_roundw
                  case rel => exact ⟨m + 2, by omega, by go_num, by rw [HFS.out], _, rfl⟩
                  case measure => simp [intOf]; omega
                · rw [hfr, Bool.true_or] at HFS
                  clear hfr
                  go_wp2_with fail
                  go_quiet (fail)
                  go_wp2_with fail
                  go_roundw
                  case rel => exact ⟨m + 2, by omega, by go_num, by rw [HFS.out], _, rfl⟩
                  case measure => simp [intOf]; omega
            · obtain rfl : i = n' := by omega
              have HXD := Lib.hid (HY3.out.below (quietBelow w3 q))
              have B4 := Lib.hid (B3.out.trans ((quietBelow w3 q).mono B3.out.size))
              generalize inTo s ys i = has at *
              have hih := HIN'.out
              go_wp2_with fail
              refine (sort_val A' i c' ys ys _ HXD.out HN'.out HA'.out (by omega) HAG.out).mono ?_
              rintro e w5 ⟨A2, n2, c2, rfl, hn2, _, _, hx2, hb5⟩
              have B5 := Lib.hid (B4.out.trans (hb5.mono B4.out.size))
              have HX5 := Lib.hid (HXD.out.below hb5)
              have HX2 := Lib.hid hx2
              have HN2 := Lib.hid hn2
              clear hb5 hx2 hn2
              go_wp2_with fail
              refine (same_self A2 A' n2 i c2 c' ys _ HX2.out HX5.out HN2.out HN'.out (by have := HN2.out; have := HN'.out; omega)).mono ?_
              rintro e w6 ⟨rfl, hb6⟩
              go_wp2_with fail
              go_ret
              exact ⟨rfl, B5.out.trans (hb6.mono B5.out.size)⟩
    · go_wp2_with fail
      go_ret
      exact ⟨rfl, B1.out⟩
  · have hr2 : decide ((2000 : Int) < (r : Int)) = true := by simp; omega
    clear hres
    go_wp2_with fail
    go_ret
    exact ⟨rfl, B1.out⟩
end Go.Proofs.YtnknaecfjkiibaaDoor
