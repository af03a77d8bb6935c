/-
  The contracts of the program's functions each (over put's closure) and put.
  Conditions: each text's own.
-/
import Derived.Test.YteghldgopidhhaaLvEach
namespace Go.Proofs.Yteghldgopidhhaa
open Go.RowKit
open Lvl

set_option maxRecDepth 100000 in
set_option maxHeartbeats 2000000 in
theorem each_put (K : Nat) (g : Lv → Lv) (ts : List Lv) (A : Option Addr) (len cap : Nat) (w : World) (hl : ts.length = len) (hlc : len ≤ cap) (h1000 : len ≤ 1000) (hs : LsV w A 0 ts)
    (CE : ∀ w', Below w.heap.size w w' → ∀ a, a ∈ ts → ∀ v, LvV w' a v → Calls Try.prog 52 #[v, .pointer (some ⟨K, 0, none⟩)] w' (LvRet w' (g a))) :
    Calls Try.prog 51 #[.slice A len cap, .func (.func 52) #[] #[.pointer (some ⟨K, 0, none⟩)]] w (fun e w' => ∃ V, e = .returned V ∧ OwnL w' w.heap.size V (ts.map g) ∧ Below w.heap.size w w') := by
  obtain ⟨i0, hi0, hz0, hz1, hz2⟩ := info_parts infoLv
  have HCE := Lib.hid CE
  have HS := Lib.hid hs
  have HN := Lib.hid hl
  have HUL : Hid ((ts.map g).length = len) := by
    have : (ts.map g).length = len := by rw [List.length_map, hl]
    exact this
  clear CE hs hl
  go_enter Try.func51, Try.ntmps51
  go_wp2_with fail
  go_loopw [5, 10] (fun V i wr => ∃ j : Nat, j ≤ len ∧ i = .int .i64 j ∧ OwnL wr w.heap.size V ((ts.map g).take j) ∧ Below w.heap.size w wr) (fun _ i _ => len - (intOf i).toNat)
  case atStart => exact ⟨0, Nat.zero_le _, rfl, ownL_nil _ _, Below.refl _ _⟩
  case round =>
    obtain ⟨j, hj, rfl, hown, hb⟩ := hrel
    have HOWN := Lib.hid hown
    have HBW := Lib.hid hb
    have HSW := Lib.hid (lsV_below hb _ _ _ HS.out)
    clear hown hb
    by_cases hlt : j < len
    · have hx1 : j < ts.length := by rw [HN.out]; exact hlt
      have hln : decide ((j : Int) < (len : Int)) = true := by simp; omega
      obtain ⟨b, o, s, rfl, hbs, hc0, hc1, hc2, hls⟩ := lsV_get HSW.out j hx1
      obtain ⟨sa, sl, sc, rfl⟩ := lvS_slice hls
      have HLS : Hid (LvV wr ts[j] (.agg #[.int .i64 (kindOf ts[j]), .int .i64 (numOf ts[j]), .slice sa sl sc])) := ⟨_, rfl, hls⟩
      have HTK : Hid ((ts.map g).take (j + 1) = (ts.map g).take j ++ [g ts[j]]) := by
        have : (ts.map g).take (j + 1) = (ts.map g).take j ++ [g ts[j]] := by rw [List.take_add_one, List.getElem?_eq_getElem (by rw [List.length_map]; exact hx1), List.getElem_map]; rfl
        exact this
      have HME := Lib.hid (List.getElem_mem hx1)
      have q1 : (0 : Int) ≤ (j : Int) := by omega
      have q2 : (j : Int) < (len : Int) := by omega
      generalize kindOf ts[j] = ki at *
      generalize numOf ts[j] = nu at *
      generalize ts[j] = tj at *
      clear hls
      obtain ⟨ss, hsl, hso, hsk⟩ := HOWN.out
      have hjl : ((ts.map g).take j).length = j := by rw [List.length_take, HUL.out]; omega
      rw [hjl] at hso
      have HO := Lib.hid hso
      have HSL := Lib.hid hsl
      have HSK := Lib.hid hsk
      have HJL := Lib.hid hjl
      have hbo1 : j + 1 ≤ maxLen := by unfold maxLen; omega
      have hbo2 : (j + 1) * 40 ≤ 140737488355328 := by omega
      clear hso hsl hsk hjl
      go_wp2_with fail
      have hbl := below_lit wr (.cells #[.int .i64 ki, .int .i64 nu, .slice sa sl sc] 24)
      have HBL := Lib.hid hbl
      have HHL := Lib.hid (HLS.out.below hbl)
      generalize wr.alloc (.cells #[.int .i64 ki, .int .i64 nu, .slice sa sl sc] 24) = W1 at *
      clear hbl
      refine (HCE.out W1 (HBW.out.trans (HBL.out.mono HBW.out.size)) tj HME.out _ HHL.out).mono ?_
      rintro e wA ⟨s9, rfl, hs9, hbA⟩
      have HBA := Lib.hid (HBL.out.trans (hbA.mono HBL.out.size))
      have HS9 : Hid (LvP wA (fun b => wr.heap.size ≤ b) (g tj) s9) := lvP_move (w := wA) (w' := wA) (fun b _ hp => ⟨Nat.le_trans HBL.out.size hp, rfl⟩) (Nat.le_refl _) _ _ hs9
      obtain ⟨k9, hk9⟩ : ∃ k, kindOf (g tj) = k := ⟨_, rfl⟩
      obtain ⟨n9, hn9⟩ : ∃ n, numOf (g tj) = n := ⟨_, rfl⟩
      have HK9 := Lib.hid hk9
      have HN9 := Lib.hid hn9
      rw [hk9, hn9]
      have HBAS : Hid (w.heap.size ≤ wA.heap.size) := Nat.le_trans HBW.out.size HBA.out.size
      clear hs9 hbA hc0 hc1 hc2 hk9 hn9
      go_wp2_with (first | (refine wpList_append_lies _ rfl (.tmp 14) (.tmp 18) 22 rfl w.heap.size 24 i0 (.agg #[.int .i64 0, .int .i64 0, .slice none 0 0]) 3 40 Try.underlying22 hi0 hz0 hz1 hz2 rfl (by decide) u5 j (cells3 ((ts.map g).take j) ss) (by simp [Act.eval]) (own_alloc (own_below HO.out HBA.out) _) ⟨wA.heap.size, 0, none⟩ 1 1 [.int .i64 k9, .int .i64 n9, s9] (by simp [Act.eval]) rfl (World.news_of_block (heap_alloc_new wA _)) (three_oneCell (lvP_one HS9.out)) (by decide) hbo1 hbo2 (by have := HBAS.out; simp; omega) (wA.heap.size + 1) (by simp) ?_; intro g9 cap' w2 hown2 hgrow hat hlt2))
      have hA : Below w.heap.size w wA := HBW.out.trans (HBA.out.mono HBW.out.size)
      refine ⟨⟨j + 1, by omega, by go_num, ?_, (hA.alloc hA.size _).grown hgrow (by have := hA.size; simp; omega) (fun k e => own_block HO.out k e)⟩, by simp [intOf]; omega⟩
      have hst := ownL_step (w0 := wr) (w1 := wA) (w2 := w2) (base := w.heap.size) (V := u5) (ts := (ts.map g).take j) (ss := ss) (a := g tj) (s := s9) (H := wA.heap.size + 1) (O := .cells #[.int .i64 k9, .int .i64 n9, s9] 24) (g := g9) (cap := cap') HSL.out (by rw [HJL.out]; exact HO.out) HSK.out HBW.out.size HBA.out HS9.out (by simp) (by rw [HJL.out, HK9.out, HN9.out]; exact hown2) hgrow hat
      rw [HJL.out] at hst
      rw [HTK.out]
      exact hst
    · obtain rfl : j = len := by omega
      have hln : decide ((j : Int) < (j : Int)) = false := by simp
      have HF : Hid ((ts.map g).take j = ts.map g) := by
        have : (ts.map g).take j = ts.map g := List.take_of_length_le (by rw [HUL.out]; exact Nat.le_refl _)
        exact this
      go_wp2_with fail
      go_ret
      exact ⟨_, rfl, by rw [← HF.out]; exact HOWN.out, HBW.out⟩

theorem below_2 (w : World) (O O' : Obj) : Below w.heap.size w ((w.alloc O).alloc O') := (below_lit w O).trans ((below_lit _ O').mono (by simp))
theorem row_2 (w : World) (O O' : Obj) : ((w.alloc O).alloc O').heap[w.heap.size + 1]? = some O' := by
  have := heap_alloc_new (w.alloc O) O'
  rwa [show (w.alloc O).heap.size = w.heap.size + 1 by simp] at this
set_option maxRecDepth 100000 in
set_option maxHeartbeats 1000000 in
theorem put1_is (K : Nat) (a : Lv) (v Vb : Value) (w : World) (r : Lv) (hv : LvV w a v) (hK : K < w.heap.size) (hr : w.heap[K]? = some (.cells #[Vb] 22 (0, 0)))
    (CP : ∀ w' v', Below w.heap.size w w' → LvV w' a v' → Calls Try.prog 41 #[v', Vb] w' (LvRet w' r)) :
    Calls Try.prog 52 #[v, .pointer (some ⟨K, 0, none⟩)] w (LvRet w r) := by
  obtain ⟨i0, hi0, hz0, hz1, hz2⟩ := info_parts infoLv
  have HCP := Lib.hid CP
  obtain ⟨s, rfl, hs⟩ := hv
  have HVA := Lib.hid (show LvV w a _ from ⟨s, rfl, hs⟩)
  generalize kindOf a = k at *
  generalize numOf a = n at *
  clear CP hs
  have hB := below_2 w (.cells #[.int .i64 k, .int .i64 n, s] 24) (.cells #[.int .i64 0, .int .i64 0, .slice none 0 0] 24)
  have HB := Lib.hid hB
  have hq := cell_of_row _ _ 0 _ 22 (0, 0) ((hB.block K hK).trans hr)
  have hr1 := row_2 w (.cells #[.int .i64 k, .int .i64 n, s] 24) (.cells #[.int .i64 0, .int .i64 0, .slice none 0 0] 24)
  have hz : ((w.alloc (.cells #[.int .i64 k, .int .i64 n, s] 24)).alloc (.cells #[.int .i64 0, .int .i64 0, .slice none 0 0] 24)).heap.size = w.heap.size + 1 + 1 := by simp
  clear hB
  go_enter Try.func52, Try.ntmps52
  go_wp2_with fail
  generalize (w.alloc (.cells #[.int .i64 k, .int .i64 n, s] 24)).alloc (.cells #[.int .i64 0, .int .i64 0, .slice none 0 0] 24) = W at *
  refine (HCP.out W _ HB.out (HVA.out.below HB.out)).mono ?_
  rintro e wA ⟨s9, rfl, hs9, hb⟩
  obtain ⟨va, vl, vc, rfl⟩ := lvP_slice hs9
  have HS9 := Lib.hid hs9
  have hr2 := (hb.block (w.heap.size + 1) (by omega)).trans hr1
  have HBA := Lib.hid (HB.out.trans (hb.mono HB.out.size))
  have HZZ := Lib.hid hz
  obtain ⟨k9, hk9⟩ : ∃ k, kindOf r = k := ⟨_, rfl⟩
  obtain ⟨n9, hn9⟩ : ∃ n, numOf r = n := ⟨_, rfl⟩
  have HK9 := Lib.hid hk9
  have HN9 := Lib.hid hn9
  rw [hk9, hn9]
  have e0 := cell_of_row wA _ 0 _ 24 (0, 0) hr2
  have g0 := frozen0 (p := 0) hr2
  have e1 := cell_of_row wA _ 1 _ 24 (0, 0) hr2
  have g1 := frozen0 (p := 1) hr2
  have e2 := cell_of_row wA _ 2 _ 24 (0, 0) hr2
  have g2 := frozen0 (p := 2) hr2
  clear hb hs9 hk9 hn9 hz hr1 hq
  go_wp2_with fail
  refine bodyPost_ret (results_cell_row rfl _ _ (w.heap.size + 1) 24 _ (0, 0) _ rfl (set3_row hr2) Try.underlying24 rfl (by rw [hi0, Option.map_some, hz1]; rfl)) rfl ?_
  refine ⟨_, by rw [HK9.out, HN9.out], lvP_move (w := wA) (fun b _ hp => ⟨by have := HZZ.out; omega, ?_⟩) ?_ _ _ HS9.out, below_set (below_set (below_set HBA.out _ _ ?_) _ _ ?_) _ _ ?_⟩
  · have := HZZ.out
    rw [setCell_far _ _ _ _ ?_, setCell_far _ _ _ _ ?_, setCell_far _ _ _ _ ?_] <;> (show b ≠ w.heap.size + 1; omega)
  · rw [setCell_size, setCell_size, setCell_size]; exact Nat.le_refl _
  all_goals (show w.heap.size ≤ w.heap.size + 1; omega)

set_option maxRecDepth 100000 in
set_option maxHeartbeats 2000000 in
theorem put_up (bs : List Lv) (hbs : ∀ b ∈ bs, nodes b ≤ 1000) : ∀ (N : Nat) (t : Lv) (v Vb : Value) (w : World), nodes t ≤ N → nodes t ≤ 1000 → okB (bs.length : Int) t = true → LvV w t v → LvL w Vb bs →
    Calls Try.prog 41 #[v, Vb] w (LvRet w (instF bs t)) := by
  intro N
  induction N with
  | zero => intro t v Vb w h _ _ _ _; have := nodes_pos t; omega
  | succ N ih =>
  intro t v Vb w hN hM hok hv hvb
  obtain ⟨i0, hi0, hz0, hz1, hz2⟩ := info_parts infoLv
  have HBS := Lib.hid hbs
  have HVB0 := Lib.hid hvb
  obtain ⟨s, rfl, hs⟩ := hv
  unfold LvL at hvb
  rw [LvS] at hvb
  obtain ⟨A', len', cap', rfl, p1, p2, p2b, p3, p4⟩ := hvb
  have HP := Lib.hid p4
  have HPN := Lib.hid p1
  cases t with
  | mk k n ts =>
  rw [LvS] at hs
  obtain ⟨A, len, cap, rfl, h1, h2, h2b, h3, h4⟩ := hs
  have HS := Lib.hid h4
  have HN := Lib.hid h1
  have HOK := Lib.hid hok
  have hnn : nodesL ts ≤ N ∧ nodesL ts ≤ 1000 := by
    rw [nodes] at hN hM
    exact ⟨by omega, by omega⟩
  have hlen : len ≤ 1000 := by
    have := len_nodes ts
    omega
  show Calls Try.prog 41 #[.agg #[.int .i64 k, .int .i64 n, .slice A len cap], .slice A' len' cap'] w (LvRet w (instF bs (.mk k n ts)))
  by_cases hk2 : k = 2
  · subst hk2
    obtain ⟨hn0, hn1⟩ := okB_par hok
    obtain ⟨m, rfl⟩ := Int.eq_ofNat_of_zero_le hn0
    have hm : m < bs.length := by omega
    have hme : bs[m] ∈ bs := List.getElem_mem hm
    have HF : Hid (instF bs (.mk 2 m ts) = bs[m]) := by
      have : instF bs (.mk 2 m ts) = bs[m] := by
        rw [instF, if_pos rfl]
        simp [List.getD, hm]
      exact this
    have HBN : Hid (nodes bs[m] ≤ 1000) := hbs _ hme
    rw [HF.out]
    have hm2 : (m : Int) < (len' : Int) := by rw [← p1]; omega
    clear h4 h1 h3 hN hM ih hnn hok p1 p3 p4 hbs
    have HB := Lib.hid ((below_2 w (.cells #[.int .i64 2, .int .i64 m, .slice A len cap] 24) (.cells #[.slice A' len' cap'] 22)).trans ((below_lit _ (.cells #[.int .i64 0, .int .i64 0, .slice none 0 0] 24)).mono (by simp; omega)))
    have hz : (((w.alloc (.cells #[.int .i64 2, .int .i64 m, .slice A len cap] 24)).alloc (.cells #[.slice A' len' cap'] 22)).alloc (.cells #[.int .i64 0, .int .i64 0, .slice none 0 0] 24)).heap.size = w.heap.size + 1 + 1 + 1 := by simp
    have hr0 : (((w.alloc (.cells #[.int .i64 2, .int .i64 m, .slice A len cap] 24)).alloc (.cells #[.slice A' len' cap'] 22)).alloc (.cells #[.int .i64 0, .int .i64 0, .slice none 0 0] 24)).heap[w.heap.size]? = some (.cells #[.int .i64 2, .int .i64 m, .slice A len cap] 24) := (heap_alloc_old _ _ (by simp; omega)).trans ((heap_alloc_old _ _ (by simp)).trans (heap_alloc_new w _))
    have hr1 : (((w.alloc (.cells #[.int .i64 2, .int .i64 m, .slice A len cap] 24)).alloc (.cells #[.slice A' len' cap'] 22)).alloc (.cells #[.int .i64 0, .int .i64 0, .slice none 0 0] 24)).heap[w.heap.size + 1]? = some (.cells #[.slice A' len' cap'] 22) := (heap_alloc_old _ _ (by simp)).trans (row_2 w _ _)
    have hr2 : (((w.alloc (.cells #[.int .i64 2, .int .i64 m, .slice A len cap] 24)).alloc (.cells #[.slice A' len' cap'] 22)).alloc (.cells #[.int .i64 0, .int .i64 0, .slice none 0 0] 24)).heap[w.heap.size + 1 + 1]? = some (.cells #[.int .i64 0, .int .i64 0, .slice none 0 0] 24) := by
      have := heap_alloc_new ((w.alloc (.cells #[.int .i64 2, .int .i64 m, .slice A len cap] 24)).alloc (.cells #[.slice A' len' cap'] 22)) (.cells #[.int .i64 0, .int .i64 0, .slice none 0 0] 24)
      rwa [show ((w.alloc (.cells #[.int .i64 2, .int .i64 m, .slice A len cap] 24)).alloc (.cells #[.slice A' len' cap'] 22)).heap.size = w.heap.size + 1 + 1 by simp] at this
    have q0 := cell_of_row _ _ 0 _ 24 (0, 0) hr0
    have q1 := cell_of_row _ _ 1 _ 24 (0, 0) hr0
    have q2 := cell_of_row _ _ 2 _ 24 (0, 0) hr0
    have q3 := cell_of_row _ _ 0 _ 22 (0, 0) hr1
    obtain ⟨b, o, s0, rfl, hbb, hc0, hc1, hc2, hls⟩ := lsV_get (lsV_below HB.out _ _ _ HP.out) m hm
    obtain ⟨sa, sl, sc, rfl⟩ := lvS_slice hls
    have HLS := Lib.hid (show LvV _ bs[m] (.agg #[.int .i64 (kindOf bs[m]), .int .i64 (numOf bs[m]), .slice sa sl sc]) from ⟨_, rfl, hls⟩)
    generalize hkb : kindOf bs[m] = kb at *
    generalize hnb : numOf bs[m] = nb at *
    generalize bs[m] = bm at *
    have HKB := Lib.hid hkb
    have HNB := Lib.hid hnb
    clear hls hkb hnb
    go_enter Try.func41, Try.ntmps41
    go_wp2_with fail
    generalize ((w.alloc (.cells #[.int .i64 2, .int .i64 m, .slice A len cap] 24)).alloc (.cells #[.slice (some ⟨b, o, none⟩) len' cap'] 22)).alloc (.cells #[.int .i64 0, .int .i64 0, .slice none 0 0] 24) = W at *
    refine (copied_up _ bm _ W (Nat.le_refl _) HBN.out HLS.out).mono ?_
    rintro e wA ⟨s9, rfl, hs9, hb⟩
    rw [HKB.out, HNB.out]
    obtain ⟨va, vl, vc, rfl⟩ := lvP_slice hs9
    have HS9 := Lib.hid hs9
    have hzz : w.heap.size + 1 + 1 + 1 ≤ W.heap.size := by rw [hz]; exact Nat.le_refl _
    have hr2 := (hb.block (w.heap.size + 1 + 1) (by omega)).trans hr2
    have HBA := Lib.hid (HB.out.trans (hb.mono HB.out.size))
    have HZZ := Lib.hid hzz
    have e0 := cell_of_row wA _ 0 _ 24 (0, 0) hr2
    have g0 := frozen0 (p := 0) hr2
    have e1 := cell_of_row wA _ 1 _ 24 (0, 0) hr2
    have g1 := frozen0 (p := 1) hr2
    have e2 := cell_of_row wA _ 2 _ 24 (0, 0) hr2
    have g2 := frozen0 (p := 2) hr2
    clear hb hs9 hc0 hc1 hc2 hz q0 q1 q2 q3 hr0 hr1
    go_wp2_with fail
    refine bodyPost_ret (results_cell_row rfl _ _ (w.heap.size + 1 + 1) 24 _ (0, 0) _ rfl (set3_row hr2) Try.underlying24 rfl (by rw [hi0, Option.map_some, hz1]; rfl)) rfl ?_
    refine ⟨_, by rw [HKB.out, HNB.out], lvP_move (w := wA) (fun b _ hp => ⟨by have := HZZ.out; omega, ?_⟩) ?_ _ _ HS9.out, below_set (below_set (below_set HBA.out _ _ ?_) _ _ ?_) _ _ ?_⟩
    · have := HZZ.out
      rw [setCell_far _ _ _ _ ?_, setCell_far _ _ _ _ ?_, setCell_far _ _ _ _ ?_] <;> (show b ≠ w.heap.size + 1 + 1; omega)
    · rw [setCell_size, setCell_size, setCell_size]; exact Nat.le_refl _
    all_goals (show w.heap.size ≤ w.heap.size + 1 + 1; omega)
  · have hkb : (k == 2) = false := by simp; omega
    have HF : Hid (instF bs (.mk k n ts) = .mk k n (ts.map (instF bs))) := by
      have : instF bs (.mk k n ts) = .mk k n (ts.map (instF bs)) := by rw [instF, if_neg hk2, instL_map]
      exact this
    have HAR := Lib.hid (okB_args hok hk2)
    have IH : Hid (∀ w' v, ∀ a, a ∈ ts → LvV w' a v → LvL w' (.slice A' len' cap') bs → Calls Try.prog 41 #[v, .slice A' len' cap'] w' (LvRet w' (instF bs a))) := fun w' v a ha hv hl => ih a v _ w' (Nat.le_trans (nodes_mem ha) hnn.1) (Nat.le_trans (nodes_mem ha) hnn.2) (HAR.out a ha) hv hl
    rw [HF.out]
    have HA := Lib.hid h3
    clear h4 h1 h3 hN hM ih hnn hok p1 p3 p4 hbs HOK HAR
    have HB := Lib.hid ((below_2 w (.cells #[.int .i64 k, .int .i64 n, .slice A len cap] 24) (.cells #[.slice A' len' cap'] 22)).trans ((below_lit _ (.cells #[.int .i64 0, .int .i64 0, .slice none 0 0] 24)).mono (by simp; omega)))
    have hz : (((w.alloc (.cells #[.int .i64 k, .int .i64 n, .slice A len cap] 24)).alloc (.cells #[.slice A' len' cap'] 22)).alloc (.cells #[.int .i64 0, .int .i64 0, .slice none 0 0] 24)).heap.size = w.heap.size + 1 + 1 + 1 := by simp
    have hr0 : (((w.alloc (.cells #[.int .i64 k, .int .i64 n, .slice A len cap] 24)).alloc (.cells #[.slice A' len' cap'] 22)).alloc (.cells #[.int .i64 0, .int .i64 0, .slice none 0 0] 24)).heap[w.heap.size]? = some (.cells #[.int .i64 k, .int .i64 n, .slice A len cap] 24) := (heap_alloc_old _ _ (by simp; omega)).trans ((heap_alloc_old _ _ (by simp)).trans (heap_alloc_new w _))
    have hr1 : (((w.alloc (.cells #[.int .i64 k, .int .i64 n, .slice A len cap] 24)).alloc (.cells #[.slice A' len' cap'] 22)).alloc (.cells #[.int .i64 0, .int .i64 0, .slice none 0 0] 24)).heap[w.heap.size + 1]? = some (.cells #[.slice A' len' cap'] 22) := (heap_alloc_old _ _ (by simp)).trans (row_2 w _ _)
    have hr2 : (((w.alloc (.cells #[.int .i64 k, .int .i64 n, .slice A len cap] 24)).alloc (.cells #[.slice A' len' cap'] 22)).alloc (.cells #[.int .i64 0, .int .i64 0, .slice none 0 0] 24)).heap[w.heap.size + 1 + 1]? = some (.cells #[.int .i64 0, .int .i64 0, .slice none 0 0] 24) := by
      have := heap_alloc_new ((w.alloc (.cells #[.int .i64 k, .int .i64 n, .slice A len cap] 24)).alloc (.cells #[.slice A' len' cap'] 22)) (.cells #[.int .i64 0, .int .i64 0, .slice none 0 0] 24)
      rwa [show ((w.alloc (.cells #[.int .i64 k, .int .i64 n, .slice A len cap] 24)).alloc (.cells #[.slice A' len' cap'] 22)).heap.size = w.heap.size + 1 + 1 by simp] at this
    have q0 := cell_of_row _ _ 0 _ 24 (0, 0) hr0
    have q1 := cell_of_row _ _ 1 _ 24 (0, 0) hr0
    have q2 := cell_of_row _ _ 2 _ 24 (0, 0) hr0
    have q3 := cell_of_row _ _ 0 _ 22 (0, 0) hr1
    have HB1 : Hid (∀ w', Below (w.heap.size + 1 + 1) (((w.alloc (.cells #[.int .i64 k, .int .i64 n, .slice A len cap] 24)).alloc (.cells #[.slice A' len' cap'] 22)).alloc (.cells #[.int .i64 0, .int .i64 0, .slice none 0 0] 24)) w' → ∀ a, a ∈ ts → ∀ v, LvV w' a v → Calls Try.prog 52 #[v, .pointer (some ⟨w.heap.size + 1, 0, none⟩)] w' (LvRet w' (instF bs a))) := by
      intro w' hw a ha v hv
      exact put1_is (w.heap.size + 1) a v (.slice A' len' cap') w' (instF bs a) hv (by have := hw.size; rw [hz] at this; omega) ((hw.block (w.heap.size + 1) (by omega)).trans hr1) (fun w'' v' h hv' => IH.out w'' v' a ha hv' (HVB0.out.below (HB.out.trans ((hw.mono (by omega)).trans (h.mono (HB.out.trans (hw.mono (by omega))).size)))))
    go_enter Try.func41, Try.ntmps41
    go_wp2_with fail
    generalize ((w.alloc (.cells #[.int .i64 k, .int .i64 n, .slice A len cap] 24)).alloc (.cells #[.slice A' len' cap'] 22)).alloc (.cells #[.int .i64 0, .int .i64 0, .slice none 0 0] 24) = W at *
    refine (each_put (w.heap.size + 1) (instF bs) ts A len cap W HN.out h2 hlen (lsV_below HB.out _ _ _ HS.out) (fun w' hw a ha v hv => HB1.out w' (hw.mono (by omega)) a ha v hv)).mono ?_
    rintro e wA ⟨V, rfl, hown, hb⟩
    obtain ⟨va, vl, vc, rfl⟩ := ownL_slice hown
    have hr0 := (hb.block w.heap.size (by omega)).trans hr0
    have hr1 := (hb.block (w.heap.size + 1 + 1) (by omega)).trans hr2
    have HBA := Lib.hid (HB.out.trans (hb.mono HB.out.size))
    have HOW := Lib.hid hown
    have HZA := Lib.hid hb.size
    have HZ := Lib.hid hz
    have HTL : Hid ((ts.map (instF bs)).length = len) := by
      have : (ts.map (instF bs)).length = len := by rw [List.length_map, HN.out]
      exact this
    have c0 := cell_of_row wA _ 0 _ 24 (0, 0) hr0
    have c1 := cell_of_row wA _ 1 _ 24 (0, 0) hr0
    have c2 := cell_of_row wA _ 2 _ 24 (0, 0) hr0
    have f2 := frozen0 (p := 2) hr0
    have e0 := cell_of_row wA _ 0 _ 24 (0, 0) hr1
    have g0 := frozen0 (p := 0) hr1
    have e1 := cell_of_row wA _ 1 _ 24 (0, 0) hr1
    have g1 := frozen0 (p := 1) hr1
    have e2 := cell_of_row wA _ 2 _ 24 (0, 0) hr1
    have g2 := frozen0 (p := 2) hr1
    clear hb hown hz hr2 HB1 q0 q1 q2 q3
    go_wp2_with fail
    have hr2 := (setCell_far wA ⟨w.heap.size, 2, none⟩ (.slice va vl vc) (w.heap.size + 1 + 1) (by show w.heap.size + 1 + 1 ≠ w.heap.size; omega)).trans hr1
    refine bodyPost_ret (results_cell_row rfl _ _ (w.heap.size + 1 + 1) 24 _ (0, 0) _ rfl (set3_row hr2) Try.underlying24 rfl (by rw [hi0, Option.map_some, hz1]; rfl)) rfl ?_
    have hzz := HZ.out
    refine ⟨_, rfl, lvP_move (w := wA) (fun b _ hp => ⟨by omega, ?_⟩) ?_ _ _ (ownL_lvP HOW.out (by rw [HTL.out]; exact h2b) k n), below_set (below_set (below_set (below_set HBA.out _ _ ?_) _ _ ?_) _ _ ?_) _ _ ?_⟩
    · rw [setCell_far _ _ _ _ ?_, setCell_far _ _ _ _ ?_, setCell_far _ _ _ _ ?_, setCell_far _ _ _ _ ?_] <;> first | (show b ≠ w.heap.size + 1 + 1; omega) | (show b ≠ w.heap.size; omega)
    · rw [setCell_size, setCell_size, setCell_size, setCell_size]; exact Nat.le_refl _
    all_goals first | (show w.heap.size ≤ w.heap.size; omega) | (show w.heap.size ≤ w.heap.size + 1 + 1; omega)
end Go.Proofs.Yteghldgopidhhaa
