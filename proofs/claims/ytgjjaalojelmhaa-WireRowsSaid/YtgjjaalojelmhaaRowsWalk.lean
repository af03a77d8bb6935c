/-
  The law WireRows, walked: whatever numbers come in, it returns true, and nothing that was there turns.
  Conditions: the numbers lie in memory as told by 'NSl'.
-/
import Derived.Test.YtgjjaalojelmhaaAlive2
import Derived.BigQuiet
namespace Go.Proofs.Ytgjjaalojelmhaa
open Go.RowKit
open Wire

theorem sizeI_pos {z : Int} (h : numB z = true) : sizeI z = (enc z.toNat).length := by
  unfold sizeI
  have := numB_yes h
  rw [if_neg (by omega)]
theorem numsL_take {zs : List Int} {k : Nat} (hk : k < zs.length) : (numsL (zs.take (k + 1))).length = (numsL (zs.take k)).length + (enc zs[k].toNat).length := by
  rw [take_snoc zs hk, numsL_snoc, List.length_append]
theorem numsL_drop {zs : List Int} {k : Nat} (hk : k < zs.length) : numsL (zs.drop k) = enc zs[k].toNat ++ numsL (zs.drop (k + 1)) := by
  rw [List.drop_eq_getElem_cons hk]
  rfl
theorem numsL_le (zs : List Int) (h : zs.all numB = true) : (numsL zs).length ≤ 6 * zs.length := by
  induction zs with
  | nil => simp [numsL]
  | cons z zs ih =>
    rw [List.all_cons, Bool.and_eq_true] at h
    have h1 := numB_yes h.1
    have h2 := enc_six (n := z.toNat) (by omega)
    have h3 := ih h.2
    show (enc z.toNat ++ numsL zs).length ≤ _
    rw [List.length_append, List.length_cons]
    omega

set_option maxRecDepth 100000 in
set_option maxHeartbeats 4000000 in
theorem wireRows_any (S : Value) (zs : List Int) (w : World) (hS : NSl w S zs) (hl : zs.length ≤ 140737488355328) : Calls Try.prog 7 #[S] w (Ret w (.bool true)) := by
  obtain ⟨A, n, c, rfl, hN, hc, hA, hx⟩ := hS
  have HX := Lib.hid hx
  have HN := Lib.hid hN
  have HA := Lib.hid hA
  have hn : n ≤ 140737488355328 := by rw [← hN]; exact hl
  clear hx hN hA hl
  go_enter Try.func7, Try.ntmps7
  go_wp2_with fail
  refine (alive_any w).mono ?_
  rintro e w1 ⟨rfl, hb1⟩
  have HB1 := Lib.hid hb1
  have HX1 := Lib.hid (HX.out.below hb1)
  clear hb1
  by_cases hbig : 200 < n
  · have hd : decide ((200 : Int) < (n : Int)) = true := by simp; omega
    go_wp2_with fail
    go_ret
    exact ⟨rfl, HB1.out⟩
  · have hd : decide ((200 : Int) < (n : Int)) = false := by simp; omega
    obtain ⟨bs, hbs⟩ : ∃ bs, numsOf zs = bs := ⟨_, rfl⟩
    obtain ⟨ok, hok⟩ : ∃ ok, zs.all numB = ok := ⟨_, rfl⟩
    have HBS := Lib.hid hbs
    have HOK := Lib.hid hok
    clear hbs hok
    go_wp2_with fail
    refine (nums_v _ zs _ ⟨A, n, c, rfl, HN.out, hc, HA.out, HX1.out⟩ (by rw [HN.out]; omega) bs ok HBS.out HOK.out).mono ?_
    rintro e w2 ⟨b0, M, rfl, ho2, hb2⟩
    have HS2 := Lib.hid (bsl_own ho2)
    have HB2 := Lib.hid (HB1.out.trans (hb2.mono HB1.out.size))
    have HX2 := Lib.hid (HX1.out.below hb2)
    clear ho2 hb2 HX1 HB1
    obtain ⟨A2, n2, c2, rfl, hn2, hc2, hA2, hx2⟩ := HS2.out
    have HN2 := Lib.hid hn2
    have HXB := Lib.hid hx2
    have HA2 := Lib.hid hA2
    clear hn2 hx2 hA2 HS2
    go_wp2_with fail
    go_loop [5, 6, 7] (fun sz i _ => ∃ k : Nat, k ≤ n ∧ i = .int .i64 k ∧ ∃ t : Nat, sz = .int .i64 t ∧ t ≤ 6 * k ∧ Hid (t = (numsL (zs.take k)).length ∧ NumsTo zs k)) (fun _ i _ => n - (intOf i).toNat)
    case atStart => exact ⟨0, Nat.zero_le _, rfl, 0, rfl, Nat.zero_le _, ⟨by simp [numsL], NumsTo.zero _⟩⟩
    case round =>
      obtain ⟨k, hk, rfl, t, rfl, ht, hto⟩ := hrel
      by_cases hlt : k < n
      · have hx1 : k < zs.length := by rw [HN.out]; exact hlt
        obtain ⟨bk, o, rfl, hb, hcell⟩ := HX2.out.at_ hx1
        have hln : (k : Int) < (n : Int) := by omega
        cases he : numB zs[k]
        · have hall : ok = false := by rw [← HOK.out]; exact all_no hx1 he
          subst hall
          have hnil : bs = [] := by
            rw [← HBS.out]
            unfold numsOf
            rw [HOK.out]
            rfl
          have hn20 : n2 = 0 := by rw [← HN2.out, hnil]; rfl
          subst hn20
          have hbad := numB_no he
          clear hnil
          generalize zs[k] = z at *
          go_wp2_with fail
          refine (size_no z _ hbad).mono ?_
          rintro e w3 ⟨rfl, rfl⟩
          go_wp2_with fail
          go_ret
          exact ⟨rfl, HB2.out⟩
        · have hsz := sizeI_pos he
          have hg := numB_yes he
          have hL6 := enc_six (n := zs[k].toNat) (by omega)
          have hL1 := enc_pos zs[k].toNat
          have HT : Hid (t + (enc zs[k].toNat).length = (numsL (zs.take (k + 1))).length ∧ NumsTo zs (k + 1)) := ⟨by rw [numsL_take hx1, ← hto.out.1], hto.out.2.succ hx1 he⟩
          generalize (enc zs[k].toNat).length = L at *
          generalize zs[k] = z at *
          have HSZ := Lib.hid hsz
          have hd0 : decide ((L : Int) = 0) = false := by simp; omega
          clear hsz hg he
          go_wp2_with fail
          refine (size_any z _ L HSZ.out).mono ?_
          rintro e w3 ⟨rfl, rfl⟩
          go_wp2_with fail
          go_round
          case rel => exact ⟨k + 1, by omega, by go_num, t + L, by go_num, by omega, HT⟩
          case measure => simp [intOf]; omega
      · obtain rfl : k = n := by omega
        have hfull : zs.take k = zs := List.take_of_length_le (by rw [HN.out]; exact Nat.le_refl _)
        have hall : zs.all numB = true := by
          have := hto.out.2
          unfold NumsTo at this
          rwa [hfull] at this
        have hok : ok = true := by rw [← HOK.out]; exact hall
        subst hok
        have hbs : bs = numsL zs := by
          rw [← HBS.out]
          unfold numsOf
          rw [HOK.out]
          rfl
        have hn2t : n2 = t := by
          rw [← HN2.out, hbs, hto.out.1, hfull]
        subst hn2t
        have HALL := Lib.hid hall
        have HBL := Lib.hid (numsL_le zs hall)
        have HBE := Lib.hid hbs
        clear hall hbs hfull
        have hdn : decide ((n2 : Int) = (n2 : Int)) = true := by simp
        have HS0 : Hid (BSl w2 (.slice A2 n2 c2) (numsL zs)) := ⟨A2, n2, c2, rfl, by rw [← HBE.out]; exact HN2.out, hc2, HA2.out, by rw [← HBE.out]; exact HXB.out⟩
        go_wp2_with fail
        generalize Value.slice A2 n2 c2 = S0 at *
        go_loopw [3, 8] (fun S i wr => ∃ j : Nat, j ≤ k ∧ i = .int .i64 j ∧ BSl wr S (numsL (zs.drop j)) ∧ Below w.heap.size w wr ∧ Below w2.heap.size w2 wr) (fun _ i _ => k - (intOf i).toNat)
        case atStart => exact ⟨0, Nat.zero_le _, rfl, HS0.out, HB2.out, Below.refl _ _⟩
        case round =>
          obtain ⟨j, hj, rfl, hs, hbw, hbw2⟩ := hrel
          have HS := Lib.hid hs
          have HBW := Lib.hid hbw
          have HXW := Lib.hid (HX2.out.below hbw2)
          have HBW2 := Lib.hid hbw2
          clear hs hbw hbw2
          by_cases hlt2 : j < k
          · have hx1 : j < zs.length := by rw [HN.out]; exact hlt2
            obtain ⟨bk, o, rfl, hb, hcell⟩ := HXW.out.at_ hx1
            have hln : (j : Int) < (k : Int) := by omega
            have hz : numB zs[j] = true := List.all_eq_true.1 HALL.out _ (List.getElem_mem hx1)
            have hg := numB_yes hz
            have HNO : Hid (NumOut (numsL (zs.drop j)) zs[j].toNat (numsL (zs.drop (j + 1))) true) := .inl ⟨rfl, by omega, numsL_drop hx1⟩
            have HLE : Hid ((numsL (zs.drop j)).length ≤ 1000000) := by
              have h1 := numsL_le (zs.drop j) (List.all_eq_true.2 fun x hx => List.all_eq_true.1 HALL.out x (List.mem_of_mem_drop hx))
              rw [List.length_drop, HN.out] at h1
              have : (numsL (zs.drop j)).length ≤ 1000000 := by omega
              exact this
            generalize zs[j] = z at *
            obtain ⟨m, rfl⟩ := Int.eq_ofNat_of_zero_le hg.1
            clear hz hg
            go_wp2_with fail
            refine (num_v _ _ wr HS.out HLE.out m _ true HNO.out).mono ?_
            rintro e w3 ⟨S3, rfl, hs3, hb3⟩
            have hcell3 := (hb3.cell (p := ⟨bk, o + j, none⟩) hb).trans hcell
            have HS3 := Lib.hid hs3
            have HB3 := Lib.hid (HBW.out.trans (hb3.mono HBW.out.size))
            have HB4 := Lib.hid (HBW2.out.trans (hb3.mono HBW2.out.size))
            clear hs3 hb3 hcell
            have h0 : (0 : Int) ≤ (j : Int) := by omega
            go_wp2_with fail
            go_roundw
            case rel => exact ⟨j + 1, by omega, by go_num, HS3.out, HB3.out, HB4.out⟩
            case measure => simp [intOf]; omega
          · obtain rfl : j = k := by omega
            have hnil : numsL (zs.drop j) = [] := by rw [List.drop_of_length_le (by rw [HN.out]; exact Nat.le_refl _)]; rfl
            obtain ⟨A3, n3, c3, rfl, hn3, _, _, _⟩ := HS.out
            have hn30 : n3 = 0 := by rw [← hn3, hnil]; rfl
            subst hn30
            clear hnil hn3
            go_wp2_with fail
            go_ret
            exact ⟨rfl, HBW.out⟩
end Go.Proofs.Ytgjjaalojelmhaa
