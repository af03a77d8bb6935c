/-
  The contracts of the program's functions each, copied, put.
  Conditions: each text's own.
-/
import Derived.Test.YteghldgopidhhaaLvInst
import Derived.Test.YteghldgopidhhaaLvCnt
namespace Go.Proofs.Yteghldgopidhhaa
open Go.RowKit
open Lvl

set_option maxRecDepth 100000 in
set_option maxHeartbeats 2000000 in
theorem each_copied (g : Lv → Lv) (ts : List Lv) (A : Option Addr) (len cap : Nat) (w : World) (hl : ts.length = len) (hlc : len ≤ cap) (h1000 : len ≤ 1000) (hs : LsV w A 0 ts)
    (CE : ∀ w', Below w.heap.size w w' → ∀ a, a ∈ ts → ∀ v, LvV w' a v → Calls Try.prog 50 #[v] w' (LvRet w' (g a))) :
    Calls Try.prog 51 #[.slice A len cap, .func (.func 50) #[] #[]] w (fun e w' => ∃ V, e = .returned V ∧ OwnL w' w.heap.size V (ts.map g) ∧ Below w.heap.size w w') := by
  obtain ⟨i0, hi0, hz0, hz1, hz2⟩ := info_parts infoLv
  have HCE := Lib.hid CE
  have HS := Lib.hid hs
  have HN := Lib.hid hl
  have HUL : Hid ((ts.map g).length = len) := by
    have : (ts.map g).length = len := by rw [List.length_map, hl]
    exact this
  clear CE hs hl
  go_enter Try.func51, Try.ntmps51
  go_wp2_with fail
  go_loopw [5, 10] (fun V i wr => ∃ j : Nat, j ≤ len ∧ i = .int .i64 j ∧ OwnL wr w.heap.size V ((ts.map g).take j) ∧ Below w.heap.size w wr) (fun _ i _ => len - (intOf i).toNat)
  case atStart => exact ⟨0, Nat.zero_le _, rfl, ownL_nil _ _, Below.refl _ _⟩
  case round =>
    obtain ⟨j, hj, rfl, hown, hb⟩ := hrel
    have HOWN := Lib.hid hown
    have HBW := Lib.hid hb
    have HSW := Lib.hid (lsV_below hb _ _ _ HS.out)
    clear hown hb
    by_cases hlt : j < len
    · have hx1 : j < ts.length := by rw [HN.out]; exact hlt
      have hln : decide ((j : Int) < (len : Int)) = true := by simp; omega
      obtain ⟨b, o, s, rfl, hbs, hc0, hc1, hc2, hls⟩ := lsV_get HSW.out j hx1
      obtain ⟨sa, sl, sc, rfl⟩ := lvS_slice hls
      have HLS : Hid (LvV wr ts[j] (.agg #[.int .i64 (kindOf ts[j]), .int .i64 (numOf ts[j]), .slice sa sl sc])) := ⟨_, rfl, hls⟩
      have HTK : Hid ((ts.map g).take (j + 1) = (ts.map g).take j ++ [g ts[j]]) := by
        have : (ts.map g).take (j + 1) = (ts.map g).take j ++ [g ts[j]] := by rw [List.take_add_one, List.getElem?_eq_getElem (by rw [List.length_map]; exact hx1), List.getElem_map]; rfl
        exact this
      have HME := Lib.hid (List.getElem_mem hx1)
      have q1 : (0 : Int) ≤ (j : Int) := by omega
      have q2 : (j : Int) < (len : Int) := by omega
      generalize kindOf ts[j] = ki at *
      generalize numOf ts[j] = nu at *
      generalize ts[j] = tj at *
      clear hls
      obtain ⟨ss, hsl, hso, hsk⟩ := HOWN.out
      have hjl : ((ts.map g).take j).length = j := by rw [List.length_take, HUL.out]; omega
      rw [hjl] at hso
      have HO := Lib.hid hso
      have HSL := Lib.hid hsl
      have HSK := Lib.hid hsk
      have HJL := Lib.hid hjl
      have hbo1 : j + 1 ≤ maxLen := by unfold maxLen; omega
      have hbo2 : (j + 1) * 40 ≤ 140737488355328 := by omega
      clear hso hsl hsk hjl
      go_wp2_with fail
      have hbl := below_lit wr (.cells #[.int .i64 ki, .int .i64 nu, .slice sa sl sc] 24)
      have HBL := Lib.hid hbl
      have HHL := Lib.hid (HLS.out.below hbl)
      generalize wr.alloc (.cells #[.int .i64 ki, .int .i64 nu, .slice sa sl sc] 24) = W1 at *
      clear hbl
      refine (HCE.out W1 (HBW.out.trans (HBL.out.mono HBW.out.size)) tj HME.out _ HHL.out).mono ?_
      rintro e wA ⟨s9, rfl, hs9, hbA⟩
      have HBA := Lib.hid (HBL.out.trans (hbA.mono HBL.out.size))
      have HS9 : Hid (LvP wA (fun b => wr.heap.size ≤ b) (g tj) s9) := lvP_move (w := wA) (w' := wA) (fun b _ hp => ⟨Nat.le_trans HBL.out.size hp, rfl⟩) (Nat.le_refl _) _ _ hs9
      obtain ⟨k9, hk9⟩ : ∃ k, kindOf (g tj) = k := ⟨_, rfl⟩
      obtain ⟨n9, hn9⟩ : ∃ n, numOf (g tj) = n := ⟨_, rfl⟩
      have HK9 := Lib.hid hk9
      have HN9 := Lib.hid hn9
      rw [hk9, hn9]
      have HBAS : Hid (w.heap.size ≤ wA.heap.size) := Nat.le_trans HBW.out.size HBA.out.size
      clear hs9 hbA hc0 hc1 hc2 hk9 hn9
      go_wp2_with (first | (refine wpList_append_lies _ rfl (.tmp 14) (.tmp 18) 22 rfl w.heap.size 24 i0 (.agg #[.int .i64 0, .int .i64 0, .slice none 0 0]) 3 40 Try.underlying22 hi0 hz0 hz1 hz2 rfl (by decide) u5 j (cells3 ((ts.map g).take j) ss) (by simp [Act.eval]) (own_alloc (own_below HO.out HBA.out) _) ⟨wA.heap.size, 0, none⟩ 1 1 [.int .i64 k9, .int .i64 n9, s9] (by simp [Act.eval]) rfl (World.news_of_block (heap_alloc_new wA _)) (three_oneCell (lvP_one HS9.out)) (by decide) hbo1 hbo2 (by have := HBAS.out; simp; omega) (wA.heap.size + 1) (by simp) ?_; intro g9 cap' w2 hown2 hgrow hat hlt2))
      have hA : Below w.heap.size w wA := HBW.out.trans (HBA.out.mono HBW.out.size)
      refine ⟨⟨j + 1, by omega, by go_num, ?_, (hA.alloc hA.size _).grown hgrow (by have := hA.size; simp; omega) (fun k e => own_block HO.out k e)⟩, by simp [intOf]; omega⟩
      have hst := ownL_step (w0 := wr) (w1 := wA) (w2 := w2) (base := w.heap.size) (V := u5) (ts := (ts.map g).take j) (ss := ss) (a := g tj) (s := s9) (H := wA.heap.size + 1) (O := .cells #[.int .i64 k9, .int .i64 n9, s9] 24) (g := g9) (cap := cap') HSL.out (by rw [HJL.out]; exact HO.out) HSK.out HBW.out.size HBA.out HS9.out (by simp) (by rw [HJL.out, HK9.out, HN9.out]; exact hown2) hgrow hat
      rw [HJL.out] at hst
      rw [HTK.out]
      exact hst
    · obtain rfl : j = len := by omega
      have hln : decide ((j : Int) < (j : Int)) = false := by simp
      have HF : Hid ((ts.map g).take j = ts.map g) := by
        have : (ts.map g).take j = ts.map g := List.take_of_length_le (by rw [HUL.out]; exact Nat.le_refl _)
        exact this
      go_wp2_with fail
      go_ret
      exact ⟨_, rfl, by rw [← HF.out]; exact HOWN.out, HBW.out⟩

set_option maxRecDepth 100000 in
set_option maxHeartbeats 2000000 in
theorem copied_up : ∀ (N : Nat) (t : Lv) (v : Value) (w : World), nodes t ≤ N → nodes t ≤ 1000 → LvV w t v →
    Calls Try.prog 50 #[v] w (LvRet w t) := by
  intro N
  induction N with
  | zero => intro t v w h _ _; have := nodes_pos t; omega
  | succ N ih =>
  intro t v w hN hM hv
  obtain ⟨i0, hi0, hz0, hz1, hz2⟩ := info_parts infoLv
  obtain ⟨s, rfl, hs⟩ := hv
  cases t with
  | mk k n ts =>
  rw [LvS] at hs
  obtain ⟨A, len, cap, rfl, h1, h2, h2b, h3, h4⟩ := hs
  have hnn : nodesL ts ≤ N ∧ nodesL ts ≤ 1000 := by
    rw [nodes] at hN hM
    exact ⟨by omega, by omega⟩
  have IH : Hid (∀ w', ∀ a, a ∈ ts → ∀ v, LvV w' a v → Calls Try.prog 50 #[v] w' (LvRet w' a)) := fun w' a ha v hv => ih a v w' (Nat.le_trans (nodes_mem ha) hnn.1) (Nat.le_trans (nodes_mem ha) hnn.2) hv
  have hlen : len ≤ 1000 := by
    have := len_nodes ts
    omega
  have HS := Lib.hid h4
  have HN := Lib.hid h1
  clear h4 h1 h3 hN hM ih hnn
  show Calls Try.prog 50 #[.agg #[.int .i64 k, .int .i64 n, .slice A len cap]] w (LvRet w (.mk k n ts))
  go_enter Try.func50, Try.ntmps50
  go_wp2_with fail
  have H0 := Lib.hid (below_lit w (.cells #[.int .i64 k, .int .i64 n, .slice A len cap] 24))
  have hr0 := heap_alloc_new w (.cells #[.int .i64 k, .int .i64 n, .slice A len cap] 24)
  have z0 : (w.alloc (.cells #[.int .i64 k, .int .i64 n, .slice A len cap] 24)).heap.size = w.heap.size + 1 := by simp
  generalize w.alloc (.cells #[.int .i64 k, .int .i64 n, .slice A len cap] 24) = W0 at *
  have H1 := Lib.hid (below_lit W0 (.cells #[.int .i64 0, .int .i64 0, .slice none 0 0] 24))
  have hr1 := heap_alloc_new W0 (.cells #[.int .i64 0, .int .i64 0, .slice none 0 0] 24)
  have z1 : (W0.alloc (.cells #[.int .i64 0, .int .i64 0, .slice none 0 0] 24)).heap.size = w.heap.size + 1 + 1 := by simp [z0]
  rw [z0] at hr1
  generalize W0.alloc (.cells #[.int .i64 0, .int .i64 0, .slice none 0 0] 24) = W1 at *
  have HB := Lib.hid (H0.out.trans (H1.out.mono H0.out.size))
  have HR0 := Lib.hid ((H1.out.block w.heap.size (by omega)).trans hr0)
  have HR1 := Lib.hid hr1
  have HZ := Lib.hid z1
  clear hr0 hr1 z0 H0 H1
  refine (each_copied id ts A len cap W1 HN.out h2 hlen (lsV_below HB.out _ _ _ HS.out) (fun w' _ a ha v hv => IH.out w' a ha v hv)).mono ?_
  rintro e wA ⟨V, rfl, hown, hb⟩
  rw [List.map_id] at hown
  obtain ⟨va, vl, vc, rfl⟩ := ownL_slice hown
  have hr0 := (hb.block w.heap.size (by rw [HZ.out]; omega)).trans HR0.out
  have hr1 := (hb.block (w.heap.size + 1) (by rw [HZ.out]; omega)).trans HR1.out
  have HBA := Lib.hid (HB.out.trans (hb.mono HB.out.size))
  have HOW := Lib.hid hown
  have HZA := Lib.hid hb.size
  have c0 := cell_of_row wA _ 0 _ 24 (0, 0) hr0
  have c1 := cell_of_row wA _ 1 _ 24 (0, 0) hr0
  have c2 := cell_of_row wA _ 2 _ 24 (0, 0) hr0
  have f2 := frozen0 (p := 2) hr0
  have e0 := cell_of_row wA _ 0 _ 24 (0, 0) hr1
  have e1 := cell_of_row wA _ 1 _ 24 (0, 0) hr1
  have e2 := cell_of_row wA _ 2 _ 24 (0, 0) hr1
  have g0 := frozen0 (p := 0) hr1
  have g1 := frozen0 (p := 1) hr1
  have g2 := frozen0 (p := 2) hr1
  clear hb hown
  go_wp2_with fail
  have HTL := Lib.hid HN.out
  have hr2 := (setCell_far wA ⟨w.heap.size, 2, none⟩ (.slice va vl vc) (w.heap.size + 1) (by show w.heap.size + 1 ≠ w.heap.size; omega)).trans hr1
  refine bodyPost_ret (results_cell_row rfl _ _ (w.heap.size + 1) 24 _ (0, 0) _ rfl (set3_row hr2) Try.underlying24 rfl (by rw [hi0, Option.map_some, hz1]; rfl)) rfl ?_
  have hzz := HZ.out
  refine ⟨_, rfl, lvP_move (w := wA) (fun b _ hp => ⟨by omega, ?_⟩) ?_ _ _ (ownL_lvP HOW.out (by rw [HTL.out]; exact h2b) k n), below_set (below_set (below_set (below_set HBA.out _ _ ?_) _ _ ?_) _ _ ?_) _ _ ?_⟩
  · rw [setCell_far _ _ _ _ ?_, setCell_far _ _ _ _ ?_, setCell_far _ _ _ _ ?_, setCell_far _ _ _ _ ?_] <;> first | (show b ≠ w.heap.size + 1; omega) | (show b ≠ w.heap.size; omega)
  · rw [setCell_size, setCell_size, setCell_size, setCell_size]; exact Nat.le_refl _
  all_goals first | (show w.heap.size ≤ w.heap.size; omega) | (show w.heap.size ≤ w.heap.size + 1; omega)
end Go.Proofs.Yteghldgopidhhaa
