/-
  The law WireBack, walked: whatever number, text, list and bytes come in, it returns true, and nothing that was there turns.
  Conditions: the list and the bytes lie in memory as told by 'TSl', 'BSl'; each has at most 2^47 bytes.
-/
import Derived.Test.YtgjjaalojelmhaaOneWalk
namespace Go.Proofs.Ytgjjaalojelmhaa
open Go.RowKit
open Wire

theorem ofL_txtsL (xs : List ByteArray) : (txtsL xs).map ofL = xs := by
  unfold txtsL
  rw [List.map_map]
  exact List.map_id'' (fun x => ofL_of x) xs
theorem back_num {m : Nat} (h : m ≤ 1099511627776) (r : List UInt8) : NumOut (enc m ++ r) m r true := .inl ⟨rfl, h, rfl⟩
theorem back_text (s r : List UInt8) (h : s.length ≤ 1099511627776) : TextOut (enc s.length ++ s ++ r) s r true := .inl ⟨rfl, h, by rw [List.append_assoc]⟩
theorem txtsL_len (xs : List ByteArray) : (txtsL xs).length = xs.length := List.length_map _
theorem txtsL_small {xs : List ByteArray} (h : ∀ x ∈ xs, x.size ≤ 2000) : Small (txtsL xs) := by
  intro s hs
  obtain ⟨x, hx, rfl⟩ := List.mem_map.1 hs
  have := h x hx
  rw [Lib.size_eq] at this
  omega
theorem back_at {xs : List ByteArray} (hl : xs.length ≤ 2000) (hs : ∀ x ∈ xs, x.size ≤ 2000) (r : List UInt8) : TakeAt (enc xs.length ++ textsE (txtsL xs) ++ r) (txtsL xs) r :=
  ⟨by rw [txtsL_len]; omega, txtsL_small hs, by rw [txtsL_len, List.append_assoc]⟩
theorem back_list {xs : List ByteArray} (hl : xs.length ≤ 2000) (hs : ∀ x ∈ xs, x.size ≤ 2000) (r : List UInt8) : TakeOut (enc xs.length ++ textsE (txtsL xs) ++ r) (xs.length : Int) (txtsL xs) r true :=
  .inl ⟨rfl, back_at hl hs r, by rw [txtsL_len]; exact Int.le_refl _⟩
theorem back_few {xs : List ByteArray} (hl : xs.length ≤ 2000) (hs : ∀ x ∈ xs, x.size ≤ 2000) : TakeOut (enc xs.length ++ textsE (txtsL xs)) ((xs.length : Int) - 1) [] [] false :=
  .inr ⟨rfl, fun l r h hm => by
    have h0 := back_at hl hs []
    rw [List.append_nil] at h0
    obtain ⟨e, _⟩ := h.one h0
    rw [e, txtsL_len] at hm
    omega, rfl, rfl⟩
theorem textsE_len {xs : List ByteArray} (hs : ∀ x ∈ xs, x.size ≤ 2000) : (textsE (txtsL xs)).length ≤ xs.length * 2006 := by
  induction xs with
  | nil => simp [txtsL, textsE]
  | cons x xs ih =>
    have h1 := hs x (by simp)
    have h2 := ih (fun y hy => hs y (List.mem_cons_of_mem _ hy))
    have h3 : (enc x.data.toList.length).length ≤ 6 := enc_six (by rw [← Lib.size_eq]; omega)
    show (enc x.data.toList.length ++ (x.data.toList ++ textsE (txtsL xs))).length ≤ _
    rw [List.length_append, List.length_append, ← Lib.size_eq, List.length_cons]
    rw [← Lib.size_eq] at h3
    omega

set_option maxRecDepth 100000 in
set_option maxHeartbeats 4000000 in
theorem wireBack_any (n0 : Int) (s : ByteArray) (V B : Value) (xs : List ByteArray) (bs : List UInt8) (w : World) (hV : TSl w V xs) (hB : BSl w B bs) (hls : s.size ≤ 140737488355328) (hlx : xs.length ≤ 140737488355328) (hsx : ∀ x ∈ xs, x.size ≤ 140737488355328) (hlb : bs.length ≤ 140737488355328) :
    Calls Try.prog 4 #[.int .i64 n0, .string s, V, B] w (Ret w (.bool true)) := by
  obtain ⟨A, N, c, e0, hN, hc, hA, hx⟩ := hV
  have HV := Lib.hid (show TSl w (.slice A N c) xs from ⟨A, N, c, rfl, hN, hc, hA, hx⟩)
  subst e0
  have HN := Lib.hid hN
  have HBH := Lib.hid hB
  have HSX := Lib.hid hsx
  clear hx hN hA hB hsx hc
  go_enter Try.func4, Try.ntmps4
  go_wp2_with fail
  refine (alive_any w).mono ?_
  rintro e W ⟨rfl, hb⟩
  have HB := Lib.hid hb
  clear hb
  go_wp2_with fail
  refine (great_any _ _ xs bs _ (HV.out.below HB.out) (HBH.out.below HB.out) hlx HSX.out hlb).mono ?_
  rintro e W ⟨⟨b, rfl, hsm⟩, rfl⟩
  have HSM := Lib.hid hsm
  clear hsm
  cases b
  · by_cases hbig : 1000 < s.size
    · have hd : decide ((1000 : Int) < (s.size : Int)) = true := by simp; omega
      go_wp2_with fail
      go_ret
      exact ⟨rfl, HB.out⟩
    · have hd : decide ((1000 : Int) < (s.size : Int)) = false := by simp; omega
      obtain ⟨hl2, hs2, hb2⟩ := HSM.out rfl
      have HS2 := Lib.hid hs2
      have HL2 := Lib.hid hl2
      have HB2 := Lib.hid hb2
      have hN2 : N ≤ 2000 := by rw [← HN.out]; exact hl2
      obtain ⟨ys, hys⟩ : ∃ ys, numsOf [n0] = ys := ⟨_, rfl⟩
      obtain ⟨ok, hok⟩ : ∃ ok, numB n0 = ok := ⟨_, rfl⟩
      have HYS := Lib.hid hys
      have HOK := Lib.hid hok
      clear hs2 hl2 hb2 hys hok HSM HSX
      go_wp2_with fail
      refine (nums_v _ [n0] _ (nsl_lit W [n0] 1 rfl _ rfl) (by simp) ys ok HYS.out (by simp [HOK.out])).mono ?_
      have hlow : w.heap.size ≤ (W.alloc (.cells #[.int .i64 n0] 3)).heap.size := Nat.le_trans HB.out.size (below_lit W _).size
      rintro e W ⟨x, M, rfl, ho, hb⟩
      replace HB := Lib.hid (HB.out.trans ((below_from hb).mono HB.out.size))
      have HX := Lib.hid (bsl_own ho)
      clear hb ho hlow
      cases ok
      · have hno := numB_no HOK.out
        clear HX HYS HOK
        obtain ⟨dt, hdt⟩ : ∃ dt, enc s.data.toList.length ++ s.data.toList = dt := ⟨_, rfl⟩
        have hls2 : s.data.toList.length ≤ 1000 := by rw [← Lib.size_eq]; omega
        have HDT := Lib.hid ((texts_single s.data.toList).trans hdt)
        have hdl : dt.length ≤ 1006 := by
          have h3 : (enc s.data.toList.length).length ≤ 6 := enc_six (by omega)
          rw [← hdt, List.length_append]
          omega
        have hto := back_text s.data.toList bs (by omega)
        rw [hdt] at hto
        have HTO := Lib.hid hto
        have HLE : Hid ((dt ++ bs).length ≤ 1000000) := by
          have h2 := HB2.out
          have : (dt ++ bs).length ≤ 1000000 := by
            rw [List.length_append]
            omega
          exact this
        clear hto hdt hls2
        go_wp2_with fail
        refine (texts_v _ [s] _ (tsl_lit W [s] 1 rfl _ rfl) (by simp) (by intro x hx; rw [List.mem_singleton] at hx; subst hx; omega) dt HDT.out).mono ?_
        have hlow : w.heap.size ≤ (W.alloc (.cells #[.string s] 9)).heap.size := Nat.le_trans HB.out.size (below_lit W _).size
        rintro e W ⟨x, M, rfl, ho, hb⟩
        replace HB := Lib.hid (HB.out.trans ((below_from hb).mono HB.out.size))
        have HOn := Lib.hid (own_base ho hlow)
        have hbase : w.heap.size ≤ W.heap.size := HB.out.size
        have hlen : M + bs.length ≤ 140737488355328 := by
          have h1 := own_len ho
          have h2 := HB2.out
          omega
        clear hb ho hlow HDT
        go_wp2_with (at_builtin; refine wpList_append_bytes rfl _ _ rfl w.heap.size _ M _ rfl HOn.out _ _ rfl (HBH.out.below HB.out) ?ca hbase ?_)
        case ca => exact hlen
        intro y W hown hgrow
        replace HB := Lib.hid (HB.out.grown hgrow hbase (own_block HOn.out))
        rw [← List.map_append] at hown
        have HY := Lib.hid (bsl_own hown)
        clear hown hgrow HOn hlen hbase
        go_wp2_with fail
        refine (text_v _ _ _ HY.out HLE.out _ _ _ HTO.out).mono ?_
        rintro e W ⟨R, rfl, hr, hb⟩
        rw [ofL_of]
        replace HB := Lib.hid (HB.out.trans (hb.mono HB.out.size))
        have HR := Lib.hid hr
        clear hr hb HY HTO HLE hdl
        go_wp2_with fail
        refine (sameBytes_b _ _ bs bs _ HR.out (HBH.out.below HB.out) (by have := HB2.out; omega) true (decide_eq_true rfl)).mono ?_
        rintro e W ⟨rfl, hb⟩
        replace HB := Lib.hid (HB.out.trans (hb.mono HB.out.size))
        clear hb HR
        go_wp2_with fail
        refine (list_v _ xs _ (HV.out.below HB.out) (by have := HL2.out; omega) (fun x hx => by have := HS2.out x hx; omega) _ rfl).mono ?_
        have hlow : w.heap.size ≤ W.heap.size := HB.out.size
        rintro e W ⟨x, M, rfl, ho, hb⟩
        replace HB := Lib.hid (HB.out.trans (hb.mono HB.out.size))
        have HOn := Lib.hid (own_base ho hlow)
        have hbase : w.heap.size ≤ W.heap.size := HB.out.size
        have HLEN : Hid ((enc xs.length ++ textsE (txtsL xs)).length ≤ 4020000) := by
          have h1 := textsE_len HS2.out
          have h3 : (enc xs.length).length ≤ 6 := enc_six (by have := HL2.out; omega)
          have h4 := HL2.out
          have : (enc xs.length ++ textsE (txtsL xs)).length ≤ 4020000 := by
            rw [List.length_append]
            omega
          exact this
        have hlen : M + bs.length ≤ 140737488355328 := by
          have h1 := own_len ho
          have h2 := HB2.out
          have h3 := HLEN.out
          omega
        have HTO := Lib.hid (back_list HL2.out HS2.out bs)
        have HTF := Lib.hid (back_few HL2.out HS2.out)
        have HDL : Hid ((enc xs.length ++ textsE (txtsL xs) ++ bs).length ≤ 5000000) := by
          have h2 := HB2.out
          have h3 := HLEN.out
          have : (enc xs.length ++ textsE (txtsL xs) ++ bs).length ≤ 5000000 := by
            rw [List.length_append]
            omega
          exact this
        have HDS : Hid (enc xs.length ++ textsE (txtsL xs) = enc xs.length ++ textsE (txtsL xs)) := rfl
        generalize hds : enc xs.length ++ textsE (txtsL xs) = ds at HLEN HTO HTF HDL HOn ho
        clear hb ho hlow HDS
        go_wp2_with (at_builtin; refine wpList_append_bytes rfl _ _ rfl w.heap.size _ M _ rfl HOn.out _ _ rfl (HBH.out.below HB.out) ?ca hbase ?_)
        case ca => exact hlen
        intro y W hown hgrow
        replace HB := Lib.hid (HB.out.grown hgrow hbase (own_block HOn.out))
        rw [← List.map_append] at hown
        have HY := Lib.hid (bsl_own hown)
        clear hown hgrow HOn hlen hbase
        rw [HN.out] at HTO HTF
        go_wp2_with fail
        refine (take_v _ (ds ++ bs) (N : Int) _ HY.out HDL.out (txtsL xs) bs true HTO.out).mono ?_
        rintro e W ⟨T, R, rfl, ht, hr, hb⟩
        rw [ofL_txtsL] at ht
        replace HB := Lib.hid (HB.out.trans (hb.mono HB.out.size))
        have HT := Lib.hid ht
        have HR := Lib.hid hr
        clear hr hb ht HY HTO HDL
        go_wp2_with fail
        refine (sameTexts_b _ _ xs xs _ HT.out (HV.out.below HB.out) (by have := HL2.out; omega) true (decide_eq_true rfl)).mono ?_
        rintro e W ⟨rfl, hb⟩
        replace HR := Lib.hid (HR.out.below hb)
        replace HB := Lib.hid (HB.out.trans (hb.mono HB.out.size))
        clear hb HT
        go_wp2_with fail
        refine (sameBytes_b _ _ bs bs _ HR.out (HBH.out.below HB.out) (by have := HB2.out; omega) true (decide_eq_true rfl)).mono ?_
        rintro e W ⟨rfl, hb⟩
        replace HB := Lib.hid (HB.out.trans (hb.mono HB.out.size))
        clear hb HR
        go_wp2_with fail
        refine (list_v _ xs _ (HV.out.below HB.out) (by have := HL2.out; omega) (fun x hx => by have := HS2.out x hx; omega) ds hds).mono ?_
        rintro e W ⟨x, M, rfl, ho, hb⟩
        replace HB := Lib.hid (HB.out.trans (hb.mono HB.out.size))
        have HY := Lib.hid (bsl_own ho)
        clear hb ho hds
        go_wp2_with fail
        refine (take_v _ ds ((N : Int) - 1) _ HY.out (by have := HLEN.out; omega) [] [] false HTF.out).mono ?_
        rintro e W ⟨T, R, rfl, _, _, hb⟩
        replace HB := Lib.hid (HB.out.trans (hb.mono HB.out.size))
        clear hb HY HTF HLEN
        by_cases hneg : n0 < 0
        · have hd1 : decide ((0 : Int) ≤ n0) = false := by simp; omega
          go_wp2_with fail
          go_ret
          exact ⟨rfl, HB.out⟩
        · have hd1 : decide ((0 : Int) ≤ n0) = true := by simp; omega
          have hd2 : decide (n0 ≤ 1099511627776) = false := by simp; omega
          go_wp2_with fail
          go_ret
          exact ⟨rfl, HB.out⟩
      · have hg := numB_yes HOK.out
        obtain ⟨m, rfl⟩ := Int.eq_ofNat_of_zero_le hg.1
        have hm : m ≤ 1099511627776 := by omega
        have hyse : ys = enc m := by rw [← HYS.out]; exact nums_nat hm
        subst hyse
        obtain ⟨Ax, L, cx, rfl, hL, hcx, hAx, hbx⟩ := HX.out
        have HL := Lib.hid hL
        have hL6 : L ≤ 6 := by rw [← hL]; exact enc_six hm
        clear hg hL hAx hbx HYS HOK
        go_wp2_with fail
        refine (copyBytes_own _ (enc m) _ HX.out (by rw [HL.out]; omega)).mono ?_
        have hlow : w.heap.size ≤ W.heap.size := HB.out.size
        rintro e W ⟨y, K, rfl, ho, hb⟩
        replace HB := Lib.hid (HB.out.trans (hb.mono HB.out.size))
        have HOn := Lib.hid (own_base ho hlow)
        have hbase : w.heap.size ≤ W.heap.size := HB.out.size
        have hlen : K + bs.length ≤ 140737488355328 := by
          have h1 := own_len ho
          have h2 := HB2.out
          rw [HL.out] at h1
          omega
        clear hb ho hlow HX
        go_wp2_with (at_builtin; refine wpList_append_bytes rfl _ _ rfl w.heap.size _ K _ rfl HOn.out _ _ rfl (HBH.out.below HB.out) ?ca hbase ?_)
        case ca => exact hlen
        intro y W hown hgrow
        replace HB := Lib.hid (HB.out.grown hgrow hbase (own_block HOn.out))
        rw [← List.map_append] at hown
        have HY := Lib.hid (bsl_own hown)
        clear hown hgrow HOn hlen hbase
        go_wp2_with fail
        refine (num_v _ (enc m ++ bs) _ HY.out (by rw [List.length_append, HL.out]; have := HB2.out; omega) m bs true (back_num hm bs)).mono ?_
        rintro e W ⟨R, rfl, hr, hb⟩
        replace HB := Lib.hid (HB.out.trans (hb.mono HB.out.size))
        have HR := Lib.hid hr
        clear hr hb HY
        go_wp2_with fail
        refine (sameBytes_b _ _ bs bs _ HR.out (HBH.out.below HB.out) (by have := HB2.out; omega) true (decide_eq_true rfl)).mono ?_
        rintro e W ⟨rfl, hb⟩
        replace HB := Lib.hid (HB.out.trans (hb.mono HB.out.size))
        clear hb HR
        go_wp2_with fail
        refine (size_num m _ hm L HL.out).mono ?_
        rintro e W ⟨rfl, rfl⟩
        clear HL
        obtain ⟨dt, hdt⟩ : ∃ dt, enc s.data.toList.length ++ s.data.toList = dt := ⟨_, rfl⟩
        have hls2 : s.data.toList.length ≤ 1000 := by rw [← Lib.size_eq]; omega
        have HDT := Lib.hid ((texts_single s.data.toList).trans hdt)
        have hdl : dt.length ≤ 1006 := by
          have h3 : (enc s.data.toList.length).length ≤ 6 := enc_six (by omega)
          rw [← hdt, List.length_append]
          omega
        have hto := back_text s.data.toList bs (by omega)
        rw [hdt] at hto
        have HTO := Lib.hid hto
        have HLE : Hid ((dt ++ bs).length ≤ 1000000) := by
          have h2 := HB2.out
          have : (dt ++ bs).length ≤ 1000000 := by
            rw [List.length_append]
            omega
          exact this
        clear hto hdt hls2
        go_wp2_with fail
        refine (texts_v _ [s] _ (tsl_lit W [s] 1 rfl _ rfl) (by simp) (by intro x hx; rw [List.mem_singleton] at hx; subst hx; omega) dt HDT.out).mono ?_
        have hlow : w.heap.size ≤ (W.alloc (.cells #[.string s] 9)).heap.size := Nat.le_trans HB.out.size (below_lit W _).size
        rintro e W ⟨x, M, rfl, ho, hb⟩
        replace HB := Lib.hid (HB.out.trans ((below_from hb).mono HB.out.size))
        have HOn := Lib.hid (own_base ho hlow)
        have hbase : w.heap.size ≤ W.heap.size := HB.out.size
        have hlen : M + bs.length ≤ 140737488355328 := by
          have h1 := own_len ho
          have h2 := HB2.out
          omega
        clear hb ho hlow HDT
        go_wp2_with (at_builtin; refine wpList_append_bytes rfl _ _ rfl w.heap.size _ M _ rfl HOn.out _ _ rfl (HBH.out.below HB.out) ?ca hbase ?_)
        case ca => exact hlen
        intro y W hown hgrow
        replace HB := Lib.hid (HB.out.grown hgrow hbase (own_block HOn.out))
        rw [← List.map_append] at hown
        have HY := Lib.hid (bsl_own hown)
        clear hown hgrow HOn hlen hbase
        go_wp2_with fail
        refine (text_v _ _ _ HY.out HLE.out _ _ _ HTO.out).mono ?_
        rintro e W ⟨R, rfl, hr, hb⟩
        rw [ofL_of]
        replace HB := Lib.hid (HB.out.trans (hb.mono HB.out.size))
        have HR := Lib.hid hr
        clear hr hb HY HTO HLE hdl
        go_wp2_with fail
        refine (sameBytes_b _ _ bs bs _ HR.out (HBH.out.below HB.out) (by have := HB2.out; omega) true (decide_eq_true rfl)).mono ?_
        rintro e W ⟨rfl, hb⟩
        replace HB := Lib.hid (HB.out.trans (hb.mono HB.out.size))
        clear hb HR
        go_wp2_with fail
        refine (list_v _ xs _ (HV.out.below HB.out) (by have := HL2.out; omega) (fun x hx => by have := HS2.out x hx; omega) _ rfl).mono ?_
        have hlow : w.heap.size ≤ W.heap.size := HB.out.size
        rintro e W ⟨x, M, rfl, ho, hb⟩
        replace HB := Lib.hid (HB.out.trans (hb.mono HB.out.size))
        have HOn := Lib.hid (own_base ho hlow)
        have hbase : w.heap.size ≤ W.heap.size := HB.out.size
        have HLEN : Hid ((enc xs.length ++ textsE (txtsL xs)).length ≤ 4020000) := by
          have h1 := textsE_len HS2.out
          have h3 : (enc xs.length).length ≤ 6 := enc_six (by have := HL2.out; omega)
          have h4 := HL2.out
          have : (enc xs.length ++ textsE (txtsL xs)).length ≤ 4020000 := by
            rw [List.length_append]
            omega
          exact this
        have hlen : M + bs.length ≤ 140737488355328 := by
          have h1 := own_len ho
          have h2 := HB2.out
          have h3 := HLEN.out
          omega
        have HTO := Lib.hid (back_list HL2.out HS2.out bs)
        have HTF := Lib.hid (back_few HL2.out HS2.out)
        have HDL : Hid ((enc xs.length ++ textsE (txtsL xs) ++ bs).length ≤ 5000000) := by
          have h2 := HB2.out
          have h3 := HLEN.out
          have : (enc xs.length ++ textsE (txtsL xs) ++ bs).length ≤ 5000000 := by
            rw [List.length_append]
            omega
          exact this
        have HDS : Hid (enc xs.length ++ textsE (txtsL xs) = enc xs.length ++ textsE (txtsL xs)) := rfl
        generalize hds : enc xs.length ++ textsE (txtsL xs) = ds at HLEN HTO HTF HDL HOn ho
        clear hb ho hlow HDS
        go_wp2_with (at_builtin; refine wpList_append_bytes rfl _ _ rfl w.heap.size _ M _ rfl HOn.out _ _ rfl (HBH.out.below HB.out) ?ca hbase ?_)
        case ca => exact hlen
        intro y W hown hgrow
        replace HB := Lib.hid (HB.out.grown hgrow hbase (own_block HOn.out))
        rw [← List.map_append] at hown
        have HY := Lib.hid (bsl_own hown)
        clear hown hgrow HOn hlen hbase
        rw [HN.out] at HTO HTF
        go_wp2_with fail
        refine (take_v _ (ds ++ bs) (N : Int) _ HY.out HDL.out (txtsL xs) bs true HTO.out).mono ?_
        rintro e W ⟨T, R, rfl, ht, hr, hb⟩
        rw [ofL_txtsL] at ht
        replace HB := Lib.hid (HB.out.trans (hb.mono HB.out.size))
        have HT := Lib.hid ht
        have HR := Lib.hid hr
        clear hr hb ht HY HTO HDL
        go_wp2_with fail
        refine (sameTexts_b _ _ xs xs _ HT.out (HV.out.below HB.out) (by have := HL2.out; omega) true (decide_eq_true rfl)).mono ?_
        rintro e W ⟨rfl, hb⟩
        replace HR := Lib.hid (HR.out.below hb)
        replace HB := Lib.hid (HB.out.trans (hb.mono HB.out.size))
        clear hb HT
        go_wp2_with fail
        refine (sameBytes_b _ _ bs bs _ HR.out (HBH.out.below HB.out) (by have := HB2.out; omega) true (decide_eq_true rfl)).mono ?_
        rintro e W ⟨rfl, hb⟩
        replace HB := Lib.hid (HB.out.trans (hb.mono HB.out.size))
        clear hb HR
        go_wp2_with fail
        refine (list_v _ xs _ (HV.out.below HB.out) (by have := HL2.out; omega) (fun x hx => by have := HS2.out x hx; omega) ds hds).mono ?_
        rintro e W ⟨x, M, rfl, ho, hb⟩
        replace HB := Lib.hid (HB.out.trans (hb.mono HB.out.size))
        have HY := Lib.hid (bsl_own ho)
        clear hb ho hds
        go_wp2_with fail
        refine (take_v _ ds ((N : Int) - 1) _ HY.out (by have := HLEN.out; omega) [] [] false HTF.out).mono ?_
        rintro e W ⟨T, R, rfl, _, _, hb⟩
        replace HB := Lib.hid (HB.out.trans (hb.mono HB.out.size))
        clear hb HY HTF HLEN
        have hd1 : decide ((0 : Int) ≤ (m : Int)) = true := by simp
        have hd2 : decide ((m : Int) ≤ 1099511627776) = true := by simp; omega
        go_wp2_with fail
        go_ret
        exact ⟨rfl, HB.out⟩
  · go_wp2_with fail
    go_ret
    exact ⟨rfl, HB.out⟩
end Go.Proofs.Ytgjjaalojelmhaa
