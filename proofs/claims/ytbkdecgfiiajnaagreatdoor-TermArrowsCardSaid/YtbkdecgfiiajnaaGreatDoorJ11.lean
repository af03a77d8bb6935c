import Derived.Test.YtbkdecgfiiajnaaGreatDoorJ10
import Derived.Test.YtbkdecgfiiajnaaGreatDoorJ03
/-
  The contracts of the program's functions each, copied, put.
  Conditions: each text's own.
-/
namespace Go.Proofs.YtbkdecgfiiajnaaGreatDoor
open Go.RowKit
open Lvl

set_option maxRecDepth 100000 in
set_option maxHeartbeats 2000000 in
theorem each_copied (g : Lv → Lv) (ts : List Lv) (A : Option Addr) (len cap : Nat) (w : World) (hl : ts.length = len) (hlc : len ≤ cap) (h1000 : len ≤ 1000) (hs : LsV w A 0 ts)
    (CE : ∀ w', Below w.heap.size w w' → ∀ a, a ∈ ts → ∀ v, LvV w' a v → Calls Tryz.prog 88 #[v] w' (LvRet w' (g a))) :
    Calls Tryz.prog 89 #[.slice A len cap, .func (.func 88) #[] #[]] w (fun e w' => ∃ V, e = .returned V ∧ OwnL w' w.heap.size V (ts.map g) ∧ Below w.heap.size w w') := by
  obtain ⟨i0, hi0, hz0, hz1, hz2⟩ := info_parts infoLv
  have HCE := Lib.hid CE
  have HS := Lib.hid hs
  have HN := Lib.hid hl
  have HUL : Hid ((ts.map g).length = len) := by
    have : (ts.map g).length = len := by rw [List.length_map, hl]
    exact this
  clear CE hs hl
  go_enter Tryz.func89, Tryz.ntmps89
  go_wp2_with fail
  go_loopw [5, 10] (fun V i wr => ∃ j : Nat, j ≤ len ∧ i = .int .i64 j ∧ OwnL wr w.heap.size V ((ts.map g).take j) ∧ Below w.heap.size w wr) (fun _ i _ => len - (intOf i).toNat)
  case atStart => exact ⟨0, Nat.zero_le _, rfl, ownL_nil _ _, Below.refl _ _⟩
  case round =>
    obtain ⟨j, hj, rfl, hown, hb⟩ := hrel
    have HOWN := Lib.hid hown
    have HBW := Lib.hid hb
    have HSW := Lib.hid (lsV_below hb _ _ _ HS.out)
    clear hown hb
    by_cases hlt : j < len
    · have hx1 : j < ts.length := by rw [HN.out]; exact hlt
      have hln : decide ((j : Int) < (len : Int)) = true := by simp; omega
      obtain ⟨b, o, s, rfl, hbs, hc0, hc1, hc2, hls⟩ := lsV_get HSW.out j hx1
      obtain ⟨sa, sl, sc, rfl⟩ := lvS_slice hls
      have HLS : Hid (LvV wr ts[j] (.agg #[.int .i64 (kindOf ts[j]), .int .i64 (numOf ts[j]), .slice sa sl sc])) := ⟨_, rfl, hls⟩
      have HTK : Hid ((ts.map g).take (j + 1) = (ts.map g).take j ++ [g ts[j]]) := by
        have : (ts.map g).take (j + 1) = (ts.map g).take j ++ [g ts[j]] := by rw [List.take_add_one, List.getElem?_eq_getElem (by rw [List.length_map]; exact hx1), List.getElem_map]; rfl
        exact this
      have HME := Lib.hid (List.getElem_mem hx1)
      have q1 : (0 : Int) ≤ (j : Int) := by omega
      have q2 : (j : Int) < (len : Int) := by omega
      generalize kindOf ts[j] = ki at *
      generalize numOf ts[j] = nu at *
      generalize ts[j] = tj at *
      clear hls
      obtain ⟨ss, hsl, hso, hsk⟩ := HOWN.out
      have hjl : ((ts.map g).take j).length = j := by rw [List.length_take, HUL.out]; omega
      rw [hjl] at hso
      have HO := Lib.hid hso
      have HSL := Lib.hid hsl
      have HSK := Lib.hid hsk
      have HJL := Lib.hid hjl
      have hbo1 : j + 1 ≤ maxLen := by unfold maxLen; omega
      have hbo2 : (j + 1) * 40 ≤ 140737488355328 := by omega
      clear hso hsl hsk hjl
      go_wp2_with fail
      have hbl := below_lit wr (.cells #[.int .i64 ki, .int .i64 nu, .slice sa sl sc] 45)
      have HBL := Lib.hid hbl
      have HHL := Lib.hid (HLS.out.below hbl)
      generalize wr.alloc (.cells #[.int .i64 ki, .int .i64 nu, .slice sa sl sc] 45) = W1 at *
      clear hbl
      refine (HCE.out W1 (HBW.out.trans (HBL.out.mono HBW.out.size)) tj HME.out _ HHL.out).mono ?_
      rintro e wA ⟨s9, rfl, hs9, hbA⟩
      have HBA := Lib.hid (HBL.out.trans (hbA.mono HBL.out.size))
      have HS9 : Hid (LvP wA (fun b => wr.heap.size ≤ b) (g tj) s9) := lvP_move (w := wA) (w' := wA) (fun b _ hp => ⟨Nat.le_trans HBL.out.size hp, rfl⟩) (Nat.le_refl _) _ _ hs9
      obtain ⟨k9, hk9⟩ : ∃ k, kindOf (g tj) = k := ⟨_, rfl⟩
      obtain ⟨n9, hn9⟩ : ∃ n, numOf (g tj) = n := ⟨_, rfl⟩
      have HK9 := Lib.hid hk9
      have HN9 := Lib.hid hn9
      rw [hk9, hn9]
      have HBAS : Hid (w.heap.size ≤ wA.heap.size) := Nat.le_trans HBW.out.size HBA.out.size
      clear hs9 hbA hc0 hc1 hc2 hk9 hn9
      go_wp2_with (first | (refine wpList_append_lies _ rfl (.tmp 14) (.tmp 18) 22 rfl w.heap.size 45 i0 (.agg #[.int .i64 0, .int .i64 0, .slice none 0 0]) 3 40 Tryz.underlying22 hi0 hz0 hz1 hz2 rfl (by decide) u5 j (cells3 ((ts.map g).take j) ss) (by simp [Act.eval]) (own_alloc (own_below HO.out HBA.out) _) ⟨wA.heap.size, 0, none⟩ 1 1 [.int .i64 k9, .int .i64 n9, s9] (by simp [Act.eval]) rfl (World.news_of_block (heap_alloc_new wA _)) (three_oneCell (lvP_one HS9.out)) (by decide) hbo1 hbo2 (by have := HBAS.out; simp; omega) (wA.heap.size + 1) (by simp) ?_; intro g9 cap' w2 hown2 hgrow hat hlt2))
      have hA : Below w.heap.size w wA := HBW.out.trans (HBA.out.mono HBW.out.size)
      refine ⟨⟨j + 1, by omega, by go_num, ?_, (hA.alloc hA.size _).grown hgrow (by have := hA.size; simp; omega) (fun k e => own_block HO.out k e)⟩, by simp [intOf]; omega⟩
      have hst := ownL_step (w0 := wr) (w1 := wA) (w2 := w2) (base := w.heap.size) (V := u5) (ts := (ts.map g).take j) (ss := ss) (a := g tj) (s := s9) (H := wA.heap.size + 1) (O := .cells #[.int .i64 k9, .int .i64 n9, s9] 45) (g := g9) (cap := cap') HSL.out (by rw [HJL.out]; exact HO.out) HSK.out HBW.out.size HBA.out HS9.out (by simp) (by rw [HJL.out, HK9.out, HN9.out]; exact hown2) hgrow hat
      rw [HJL.out] at hst
      rw [HTK.out]
      exact hst
    · obtain rfl : j = len := by omega
      have hln : decide ((j : Int) < (j : Int)) = false := by simp
      have HF : Hid ((ts.map g).take j = ts.map g) := by
        have : (ts.map g).take j = ts.map g := List.take_of_length_le (by rw [HUL.out]; exact Nat.le_refl _)
        exact this
      go_wp2_with fail
      go_ret
      exact ⟨_, rfl, by rw [← HF.out]; exact HOWN.out, HBW.out⟩

set_option maxRecDepth 100000 in
set_option maxHeartbeats 2000000 in
theorem copied_up : ∀ (N : Nat) (t : Lv) (v : Value) (w : World), nodes t ≤ N → nodes t ≤ 1000 → LvV w t v →
    Calls Tryz.prog 88 #[v] w (LvRet w t) := by
  intro N
  induction N with
  | zero => intro t v w h _ _; have := nodes_pos t; omega
  | succ N ih =>
  intro t v w hN hM hv
  obtain ⟨i0, hi0, hz0, hz1, hz2⟩ := info_parts infoLv
  obtain ⟨s, rfl, hs⟩ := hv
  cases t with
  | mk k n ts =>
  rw [LvS] at hs
  obtain ⟨A, len, cap, rfl, h1, h2, h2b, h3, h4⟩ := hs
  have hnn : nodesL ts ≤ N ∧ nodesL ts ≤ 1000 := by
    rw [nodes] at hN hM
    exact ⟨by omega, by omega⟩
  have IH : Hid (∀ w', ∀ a, a ∈ ts → ∀ v, LvV w' a v → Calls Tryz.prog 88 #[v] w' (LvRet w' a)) := fun w' a ha v hv => ih a v w' (Nat.le_trans (nodes_mem ha) hnn.1) (Nat.le_trans (nodes_mem ha) hnn.2) hv
  have hlen : len ≤ 1000 := by
    have := len_nodes ts
    omega
  have HS := Lib.hid h4
  have HN := Lib.hid h1
  clear h4 h1 h3 hN hM ih hnn
  show Calls Tryz.prog 88 #[.agg #[.int .i64 k, .int .i64 n, .slice A len cap]] w (LvRet w (.mk k n ts))
  go_enter Tryz.func88, Tryz.ntmps88
  go_wp2_with fail
  have H0 := Lib.hid (below_lit w (.cells #[.int .i64 k, .int .i64 n, .slice A len cap] 45))
  have hr0 := heap_alloc_new w (.cells #[.int .i64 k, .int .i64 n, .slice A len cap] 45)
  have z0 : (w.alloc (.cells #[.int .i64 k, .int .i64 n, .slice A len cap] 45)).heap.size = w.heap.size + 1 := by simp
  generalize w.alloc (.cells #[.int .i64 k, .int .i64 n, .slice A len cap] 45) = W0 at *
  have H1 := Lib.hid (below_lit W0 (.cells #[.int .i64 0, .int .i64 0, .slice none 0 0] 45))
  have hr1 := heap_alloc_new W0 (.cells #[.int .i64 0, .int .i64 0, .slice none 0 0] 45)
  have z1 : (W0.alloc (.cells #[.int .i64 0, .int .i64 0, .slice none 0 0] 45)).heap.size = w.heap.size + 1 + 1 := by simp [z0]
  rw [z0] at hr1
  generalize W0.alloc (.cells #[.int .i64 0, .int .i64 0, .slice none 0 0] 45) = W1 at *
  have HB := Lib.hid (H0.out.trans (H1.out.mono H0.out.size))
  have HR0 := Lib.hid ((H1.out.block w.heap.size (by omega)).trans hr0)
  have HR1 := Lib.hid hr1
  have HZ := Lib.hid z1
  clear hr0 hr1 z0 H0 H1
  refine (each_copied id ts A len cap W1 HN.out h2 hlen (lsV_below HB.out _ _ _ HS.out) (fun w' _ a ha v hv => IH.out w' a ha v hv)).mono ?_
  rintro e wA ⟨V, rfl, hown, hb⟩
  rw [List.map_id] at hown
  obtain ⟨va, vl, vc, rfl⟩ := ownL_slice hown
  have hr0 := (hb.block w.heap.size (by rw [HZ.out]; omega)).trans HR0.out
  have hr1 := (hb.block (w.heap.size + 1) (by rw [HZ.out]; omega)).trans HR1.out
  have HBA := Lib.hid (HB.out.trans (hb.mono HB.out.size))
  have HOW := Lib.hid hown
  have HZA := Lib.hid hb.size
  have c0 := cell_of_row wA _ 0 _ 45 (0, 0) hr0
  have c1 := cell_of_row wA _ 1 _ 45 (0, 0) hr0
  have c2 := cell_of_row wA _ 2 _ 45 (0, 0) hr0
  have f2 := frozen0 (p := 2) hr0
  have e0 := cell_of_row wA _ 0 _ 45 (0, 0) hr1
  have e1 := cell_of_row wA _ 1 _ 45 (0, 0) hr1
  have e2 := cell_of_row wA _ 2 _ 45 (0, 0) hr1
  have g0 := frozen0 (p := 0) hr1
  have g1 := frozen0 (p := 1) hr1
  have g2 := frozen0 (p := 2) hr1
  clear hb hown
  go_wp2_with fail
  have HTL := Lib.hid HN.out
  have hr2 := (setCell_far wA ⟨w.heap.size, 2, none⟩ (.slice va vl vc) (w.heap.size + 1) (by show w.heap.size + 1 ≠ w.heap.size; omega)).trans hr1
  refine bodyPost_ret (results_cell_row rfl _ _ (w.heap.size + 1) 45 _ (0, 0) _ rfl (set3_row hr2) Tryz.underlying45 rfl (by rw [hi0, Option.map_some, hz1]; rfl)) rfl ?_
  have hzz := HZ.out
  refine ⟨_, rfl, lvP_move (w := wA) (fun b _ hp => ⟨by omega, ?_⟩) ?_ _ _ (ownL_lvP HOW.out (by rw [HTL.out]; exact h2b) k n), below_set (below_set (below_set (below_set HBA.out _ _ ?_) _ _ ?_) _ _ ?_) _ _ ?_⟩
  · rw [setCell_far _ _ _ _ ?_, setCell_far _ _ _ _ ?_, setCell_far _ _ _ _ ?_, setCell_far _ _ _ _ ?_] <;> first | (show b ≠ w.heap.size + 1; omega) | (show b ≠ w.heap.size; omega)
  · rw [setCell_size, setCell_size, setCell_size, setCell_size]; exact Nat.le_refl _
  all_goals first | (show w.heap.size ≤ w.heap.size; omega) | (show w.heap.size ≤ w.heap.size + 1; omega)
end Go.Proofs.YtbkdecgfiiajnaaGreatDoor
/-
  The contracts of the program's functions each (over put's closure) and put.
  Conditions: each text's own.
-/
namespace Go.Proofs.YtbkdecgfiiajnaaGreatDoor
open Go.RowKit
open Lvl

set_option maxRecDepth 100000 in
set_option maxHeartbeats 2000000 in
theorem each_put (K : Nat) (g : Lv → Lv) (ts : List Lv) (A : Option Addr) (len cap : Nat) (w : World) (hl : ts.length = len) (hlc : len ≤ cap) (h1000 : len ≤ 1000) (hs : LsV w A 0 ts)
    (CE : ∀ w', Below w.heap.size w w' → ∀ a, a ∈ ts → ∀ v, LvV w' a v → Calls Tryz.prog 90 #[v, .pointer (some ⟨K, 0, none⟩)] w' (LvRet w' (g a))) :
    Calls Tryz.prog 89 #[.slice A len cap, .func (.func 90) #[] #[.pointer (some ⟨K, 0, none⟩)]] w (fun e w' => ∃ V, e = .returned V ∧ OwnL w' w.heap.size V (ts.map g) ∧ Below w.heap.size w w') := by
  obtain ⟨i0, hi0, hz0, hz1, hz2⟩ := info_parts infoLv
  have HCE := Lib.hid CE
  have HS := Lib.hid hs
  have HN := Lib.hid hl
  have HUL : Hid ((ts.map g).length = len) := by
    have : (ts.map g).length = len := by rw [List.length_map, hl]
    exact this
  clear CE hs hl
  go_enter Tryz.func89, Tryz.ntmps89
  go_wp2_with fail
  go_loopw [5, 10] (fun V i wr => ∃ j : Nat, j ≤ len ∧ i = .int .i64 j ∧ OwnL wr w.heap.size V ((ts.map g).take j) ∧ Below w.heap.size w wr) (fun _ i _ => len - (intOf i).toNat)
  case atStart => exact ⟨0, Nat.zero_le _, rfl, ownL_nil _ _, Below.refl _ _⟩
  case round =>
    obtain ⟨j, hj, rfl, hown, hb⟩ := hrel
    have HOWN := Lib.hid hown
    have HBW := Lib.hid hb
    have HSW := Lib.hid (lsV_below hb _ _ _ HS.out)
    clear hown hb
    by_cases hlt : j < len
    · have hx1 : j < ts.length := by rw [HN.out]; exact hlt
      have hln : decide ((j : Int) < (len : Int)) = true := by simp; omega
      obtain ⟨b, o, s, rfl, hbs, hc0, hc1, hc2, hls⟩ := lsV_get HSW.out j hx1
      obtain ⟨sa, sl, sc, rfl⟩ := lvS_slice hls
      have HLS : Hid (LvV wr ts[j] (.agg #[.int .i64 (kindOf ts[j]), .int .i64 (numOf ts[j]), .slice sa sl sc])) := ⟨_, rfl, hls⟩
      have HTK : Hid ((ts.map g).take (j + 1) = (ts.map g).take j ++ [g ts[j]]) := by
        have : (ts.map g).take (j + 1) = (ts.map g).take j ++ [g ts[j]] := by rw [List.take_add_one, List.getElem?_eq_getElem (by rw [List.length_map]; exact hx1), List.getElem_map]; rfl
        exact this
      have HME := Lib.hid (List.getElem_mem hx1)
      have q1 : (0 : Int) ≤ (j : Int) := by omega
      have q2 : (j : Int) < (len : Int) := by omega
      generalize kindOf ts[j] = ki at *
      generalize numOf ts[j] = nu at *
      generalize ts[j] = tj at *
      clear hls
      obtain ⟨ss, hsl, hso, hsk⟩ := HOWN.out
      have hjl : ((ts.map g).take j).length = j := by rw [List.length_take, HUL.out]; omega
      rw [hjl] at hso
      have HO := Lib.hid hso
      have HSL := Lib.hid hsl
      have HSK := Lib.hid hsk
      have HJL := Lib.hid hjl
      have hbo1 : j + 1 ≤ maxLen := by unfold maxLen; omega
      have hbo2 : (j + 1) * 40 ≤ 140737488355328 := by omega
      clear hso hsl hsk hjl
      go_wp2_with fail
      have hbl := below_lit wr (.cells #[.int .i64 ki, .int .i64 nu, .slice sa sl sc] 45)
      have HBL := Lib.hid hbl
      have HHL := Lib.hid (HLS.out.below hbl)
      generalize wr.alloc (.cells #[.int .i64 ki, .int .i64 nu, .slice sa sl sc] 45) = W1 at *
      clear hbl
      refine (HCE.out W1 (HBW.out.trans (HBL.out.mono HBW.out.size)) tj HME.out _ HHL.out).mono ?_
      rintro e wA ⟨s9, rfl, hs9, hbA⟩
      have HBA := Lib.hid (HBL.out.trans (hbA.mono HBL.out.size))
      have HS9 : Hid (LvP wA (fun b => wr.heap.size ≤ b) (g tj) s9) := lvP_move (w := wA) (w' := wA) (fun b _ hp => ⟨Nat.le_trans HBL.out.size hp, rfl⟩) (Nat.le_refl _) _ _ hs9
      obtain ⟨k9, hk9⟩ : ∃ k, kindOf (g tj) = k := ⟨_, rfl⟩
      obtain ⟨n9, hn9⟩ : ∃ n, numOf (g tj) = n := ⟨_, rfl⟩
      have HK9 := Lib.hid hk9
      have HN9 := Lib.hid hn9
      rw [hk9, hn9]
      have HBAS : Hid (w.heap.size ≤ wA.heap.size) := Nat.le_trans HBW.out.size HBA.out.size
      clear hs9 hbA hc0 hc1 hc2 hk9 hn9
      go_wp2_with (first | (refine wpList_append_lies _ rfl (.tmp 14) (.tmp 18) 22 rfl w.heap.size 45 i0 (.agg #[.int .i64 0, .int .i64 0, .slice none 0 0]) 3 40 Tryz.underlying22 hi0 hz0 hz1 hz2 rfl (by decide) u5 j (cells3 ((ts.map g).take j) ss) (by simp [Act.eval]) (own_alloc (own_below HO.out HBA.out) _) ⟨wA.heap.size, 0, none⟩ 1 1 [.int .i64 k9, .int .i64 n9, s9] (by simp [Act.eval]) rfl (World.news_of_block (heap_alloc_new wA _)) (three_oneCell (lvP_one HS9.out)) (by decide) hbo1 hbo2 (by have := HBAS.out; simp; omega) (wA.heap.size + 1) (by simp) ?_; intro g9 cap' w2 hown2 hgrow hat hlt2))
      have hA : Below w.heap.size w wA := HBW.out.trans (HBA.out.mono HBW.out.size)
      refine ⟨⟨j + 1, by omega, by go_num, ?_, (hA.alloc hA.size _).grown hgrow (by have := hA.size; simp; omega) (fun k e => own_block HO.out k e)⟩, by simp [intOf]; omega⟩
      have hst := ownL_step (w0 := wr) (w1 := wA) (w2 := w2) (base := w.heap.size) (V := u5) (ts := (ts.map g).take j) (ss := ss) (a := g tj) (s := s9) (H := wA.heap.size + 1) (O := .cells #[.int .i64 k9, .int .i64 n9, s9] 45) (g := g9) (cap := cap') HSL.out (by rw [HJL.out]; exact HO.out) HSK.out HBW.out.size HBA.out HS9.out (by simp) (by rw [HJL.out, HK9.out, HN9.out]; exact hown2) hgrow hat
      rw [HJL.out] at hst
      rw [HTK.out]
      exact hst
    · obtain rfl : j = len := by omega
      have hln : decide ((j : Int) < (j : Int)) = false := by simp
      have HF : Hid ((ts.map g).take j = ts.map g) := by
        have : (ts.map g).take j = ts.map g := List.take_of_length_le (by rw [HUL.out]; exact Nat.le_refl _)
        exact this
      go_wp2_with fail
      go_ret
      exact ⟨_, rfl, by rw [← HF.out]; exact HOWN.out, HBW.out⟩

theorem below_2 (w : World) (O O' : Obj) : Below w.heap.size w ((w.alloc O).alloc O') := (below_lit w O).trans ((below_lit _ O').mono (by simp))
theorem row_2 (w : World) (O O' : Obj) : ((w.alloc O).alloc O').heap[w.heap.size + 1]? = some O' := by
  have := heap_alloc_new (w.alloc O) O'
  rwa [show (w.alloc O).heap.size = w.heap.size + 1 by simp] at this
set_option maxRecDepth 100000 in
set_option maxHeartbeats 1000000 in
theorem put1_is (K : Nat) (a : Lv) (v Vb : Value) (w : World) (r : Lv) (hv : LvV w a v) (hK : K < w.heap.size) (hr : w.heap[K]? = some (.cells #[Vb] 22 (0, 0)))
    (CP : ∀ w' v', Below w.heap.size w w' → LvV w' a v' → Calls Tryz.prog 74 #[v', Vb] w' (LvRet w' r)) :
    Calls Tryz.prog 90 #[v, .pointer (some ⟨K, 0, none⟩)] w (LvRet w r) := by
  obtain ⟨i0, hi0, hz0, hz1, hz2⟩ := info_parts infoLv
  have HCP := Lib.hid CP
  obtain ⟨s, rfl, hs⟩ := hv
  have HVA := Lib.hid (show LvV w a _ from ⟨s, rfl, hs⟩)
  generalize kindOf a = k at *
  generalize numOf a = n at *
  clear CP hs
  have hB := below_2 w (.cells #[.int .i64 k, .int .i64 n, s] 45) (.cells #[.int .i64 0, .int .i64 0, .slice none 0 0] 45)
  have HB := Lib.hid hB
  have hq := cell_of_row _ _ 0 _ 22 (0, 0) ((hB.block K hK).trans hr)
  have hr1 := row_2 w (.cells #[.int .i64 k, .int .i64 n, s] 45) (.cells #[.int .i64 0, .int .i64 0, .slice none 0 0] 45)
  have hz : ((w.alloc (.cells #[.int .i64 k, .int .i64 n, s] 45)).alloc (.cells #[.int .i64 0, .int .i64 0, .slice none 0 0] 45)).heap.size = w.heap.size + 1 + 1 := by simp
  clear hB
  go_enter Tryz.func90, Tryz.ntmps90
  go_wp2_with fail
  generalize (w.alloc (.cells #[.int .i64 k, .int .i64 n, s] 45)).alloc (.cells #[.int .i64 0, .int .i64 0, .slice none 0 0] 45) = W at *
  refine (HCP.out W _ HB.out (HVA.out.below HB.out)).mono ?_
  rintro e wA ⟨s9, rfl, hs9, hb⟩
  obtain ⟨va, vl, vc, rfl⟩ := lvP_slice hs9
  have HS9 := Lib.hid hs9
  have hr2 := (hb.block (w.heap.size + 1) (by omega)).trans hr1
  have HBA := Lib.hid (HB.out.trans (hb.mono HB.out.size))
  have HZZ := Lib.hid hz
  obtain ⟨k9, hk9⟩ : ∃ k, kindOf r = k := ⟨_, rfl⟩
  obtain ⟨n9, hn9⟩ : ∃ n, numOf r = n := ⟨_, rfl⟩
  have HK9 := Lib.hid hk9
  have HN9 := Lib.hid hn9
  rw [hk9, hn9]
  have e0 := cell_of_row wA _ 0 _ 45 (0, 0) hr2
  have g0 := frozen0 (p := 0) hr2
  have e1 := cell_of_row wA _ 1 _ 45 (0, 0) hr2
  have g1 := frozen0 (p := 1) hr2
  have e2 := cell_of_row wA _ 2 _ 45 (0, 0) hr2
  have g2 := frozen0 (p := 2) hr2
  clear hb hs9 hk9 hn9 hz hr1 hq
  go_wp2_with fail
  refine bodyPost_ret (results_cell_row rfl _ _ (w.heap.size + 1) 45 _ (0, 0) _ rfl (set3_row hr2) Tryz.underlying45 rfl (by rw [hi0, Option.map_some, hz1]; rfl)) rfl ?_
  refine ⟨_, by rw [HK9.out, HN9.out], lvP_move (w := wA) (fun b _ hp => ⟨by have := HZZ.out; omega, ?_⟩) ?_ _ _ HS9.out, below_set (below_set (below_set HBA.out _ _ ?_) _ _ ?_) _ _ ?_⟩
  · have := HZZ.out
    rw [setCell_far _ _ _ _ ?_, setCell_far _ _ _ _ ?_, setCell_far _ _ _ _ ?_] <;> (show b ≠ w.heap.size + 1; omega)
  · rw [setCell_size, setCell_size, setCell_size]; exact Nat.le_refl _
  all_goals (show w.heap.size ≤ w.heap.size + 1; omega)

set_option maxRecDepth 100000 in
set_option maxHeartbeats 2000000 in
theorem put_up (bs : List Lv) (hbs : ∀ b ∈ bs, nodes b ≤ 1000) : ∀ (N : Nat) (t : Lv) (v Vb : Value) (w : World), nodes t ≤ N → nodes t ≤ 1000 → okB (bs.length : Int) t = true → LvV w t v → LvL w Vb bs →
    Calls Tryz.prog 74 #[v, Vb] w (LvRet w (instF bs t)) := by
  intro N
  induction N with
  | zero => intro t v Vb w h _ _ _ _; have := nodes_pos t; omega
  | succ N ih =>
  intro t v Vb w hN hM hok hv hvb
  obtain ⟨i0, hi0, hz0, hz1, hz2⟩ := info_parts infoLv
  have HBS := Lib.hid hbs
  have HVB0 := Lib.hid hvb
  obtain ⟨s, rfl, hs⟩ := hv
  unfold LvL at hvb
  rw [LvS] at hvb
  obtain ⟨A', len', cap', rfl, p1, p2, p2b, p3, p4⟩ := hvb
  have HP := Lib.hid p4
  have HPN := Lib.hid p1
  cases t with
  | mk k n ts =>
  rw [LvS] at hs
  obtain ⟨A, len, cap, rfl, h1, h2, h2b, h3, h4⟩ := hs
  have HS := Lib.hid h4
  have HN := Lib.hid h1
  have HOK := Lib.hid hok
  have hnn : nodesL ts ≤ N ∧ nodesL ts ≤ 1000 := by
    rw [nodes] at hN hM
    exact ⟨by omega, by omega⟩
  have hlen : len ≤ 1000 := by
    have := len_nodes ts
    omega
  show Calls Tryz.prog 74 #[.agg #[.int .i64 k, .int .i64 n, .slice A len cap], .slice A' len' cap'] w (LvRet w (instF bs (.mk k n ts)))
  by_cases hk2 : k = 2
  · subst hk2
    obtain ⟨hn0, hn1⟩ := okB_par hok
    obtain ⟨m, rfl⟩ := Int.eq_ofNat_of_zero_le hn0
    have hm : m < bs.length := by omega
    have hme : bs[m] ∈ bs := List.getElem_mem hm
    have HF : Hid (instF bs (.mk 2 m ts) = bs[m]) := by
      have : instF bs (.mk 2 m ts) = bs[m] := by
        rw [instF, if_pos rfl]
        simp [List.getD, hm]
      exact this
    have HBN : Hid (nodes bs[m] ≤ 1000) := hbs _ hme
    rw [HF.out]
    have hm2 : (m : Int) < (len' : Int) := by rw [← p1]; omega
    clear h4 h1 h3 hN hM ih hnn hok p1 p3 p4 hbs
    have HB := Lib.hid ((below_2 w (.cells #[.int .i64 2, .int .i64 m, .slice A len cap] 45) (.cells #[.slice A' len' cap'] 22)).trans ((below_lit _ (.cells #[.int .i64 0, .int .i64 0, .slice none 0 0] 45)).mono (by simp; omega)))
    have hz : (((w.alloc (.cells #[.int .i64 2, .int .i64 m, .slice A len cap] 45)).alloc (.cells #[.slice A' len' cap'] 22)).alloc (.cells #[.int .i64 0, .int .i64 0, .slice none 0 0] 45)).heap.size = w.heap.size + 1 + 1 + 1 := by simp
    have hr0 : (((w.alloc (.cells #[.int .i64 2, .int .i64 m, .slice A len cap] 45)).alloc (.cells #[.slice A' len' cap'] 22)).alloc (.cells #[.int .i64 0, .int .i64 0, .slice none 0 0] 45)).heap[w.heap.size]? = some (.cells #[.int .i64 2, .int .i64 m, .slice A len cap] 45) := (heap_alloc_old _ _ (by simp; omega)).trans ((heap_alloc_old _ _ (by simp)).trans (heap_alloc_new w _))
    have hr1 : (((w.alloc (.cells #[.int .i64 2, .int .i64 m, .slice A len cap] 45)).alloc (.cells #[.slice A' len' cap'] 22)).alloc (.cells #[.int .i64 0, .int .i64 0, .slice none 0 0] 45)).heap[w.heap.size + 1]? = some (.cells #[.slice A' len' cap'] 22) := (heap_alloc_old _ _ (by simp)).trans (row_2 w _ _)
    have hr2 : (((w.alloc (.cells #[.int .i64 2, .int .i64 m, .slice A len cap] 45)).alloc (.cells #[.slice A' len' cap'] 22)).alloc (.cells #[.int .i64 0, .int .i64 0, .slice none 0 0] 45)).heap[w.heap.size + 1 + 1]? = some (.cells #[.int .i64 0, .int .i64 0, .slice none 0 0] 45) := by
      have := heap_alloc_new ((w.alloc (.cells #[.int .i64 2, .int .i64 m, .slice A len cap] 45)).alloc (.cells #[.slice A' len' cap'] 22)) (.cells #[.int .i64 0, .int .i64 0, .slice none 0 0] 45)
      rwa [show ((w.alloc (.cells #[.int .i64 2, .int .i64 m, .slice A len cap] 45)).alloc (.cells #[.slice A' len' cap'] 22)).heap.size = w.heap.size + 1 + 1 by simp] at this
    have q0 := cell_of_row _ _ 0 _ 45 (0, 0) hr0
    have q1 := cell_of_row _ _ 1 _ 45 (0, 0) hr0
    have q2 := cell_of_row _ _ 2 _ 45 (0, 0) hr0
    have q3 := cell_of_row _ _ 0 _ 22 (0, 0) hr1
    obtain ⟨b, o, s0, rfl, hbb, hc0, hc1, hc2, hls⟩ := lsV_get (lsV_below HB.out _ _ _ HP.out) m hm
    obtain ⟨sa, sl, sc, rfl⟩ := lvS_slice hls
    have HLS := Lib.hid (show LvV _ bs[m] (.agg #[.int .i64 (kindOf bs[m]), .int .i64 (numOf bs[m]), .slice sa sl sc]) from ⟨_, rfl, hls⟩)
    generalize hkb : kindOf bs[m] = kb at *
    generalize hnb : numOf bs[m] = nb at *
    generalize bs[m] = bm at *
    have HKB := Lib.hid hkb
    have HNB := Lib.hid hnb
    clear hls hkb hnb
    go_enter Tryz.func74, Tryz.ntmps74
    go_wp2_with fail
    generalize ((w.alloc (.cells #[.int .i64 2, .int .i64 m, .slice A len cap] 45)).alloc (.cells #[.slice (some ⟨b, o, none⟩) len' cap'] 22)).alloc (.cells #[.int .i64 0, .int .i64 0, .slice none 0 0] 45) = W at *
    refine (copied_up _ bm _ W (Nat.le_refl _) HBN.out HLS.out).mono ?_
    rintro e wA ⟨s9, rfl, hs9, hb⟩
    rw [HKB.out, HNB.out]
    obtain ⟨va, vl, vc, rfl⟩ := lvP_slice hs9
    have HS9 := Lib.hid hs9
    have hzz : w.heap.size + 1 + 1 + 1 ≤ W.heap.size := by rw [hz]; exact Nat.le_refl _
    have hr2 := (hb.block (w.heap.size + 1 + 1) (by omega)).trans hr2
    have HBA := Lib.hid (HB.out.trans (hb.mono HB.out.size))
    have HZZ := Lib.hid hzz
    have e0 := cell_of_row wA _ 0 _ 45 (0, 0) hr2
    have g0 := frozen0 (p := 0) hr2
    have e1 := cell_of_row wA _ 1 _ 45 (0, 0) hr2
    have g1 := frozen0 (p := 1) hr2
    have e2 := cell_of_row wA _ 2 _ 45 (0, 0) hr2
    have g2 := frozen0 (p := 2) hr2
    clear hb hs9 hc0 hc1 hc2 hz q0 q1 q2 q3 hr0 hr1
    go_wp2_with fail
    refine bodyPost_ret (results_cell_row rfl _ _ (w.heap.size + 1 + 1) 45 _ (0, 0) _ rfl (set3_row hr2) Tryz.underlying45 rfl (by rw [hi0, Option.map_some, hz1]; rfl)) rfl ?_
    refine ⟨_, by rw [HKB.out, HNB.out], lvP_move (w := wA) (fun b _ hp => ⟨by have := HZZ.out; omega, ?_⟩) ?_ _ _ HS9.out, below_set (below_set (below_set HBA.out _ _ ?_) _ _ ?_) _ _ ?_⟩
    · have := HZZ.out
      rw [setCell_far _ _ _ _ ?_, setCell_far _ _ _ _ ?_, setCell_far _ _ _ _ ?_] <;> (show b ≠ w.heap.size + 1 + 1; omega)
    · rw [setCell_size, setCell_size, setCell_size]; exact Nat.le_refl _
    all_goals (show w.heap.size ≤ w.heap.size + 1 + 1; omega)
  · have hkb : (k == 2) = false := by simp; omega
    have HF : Hid (instF bs (.mk k n ts) = .mk k n (ts.map (instF bs))) := by
      have : instF bs (.mk k n ts) = .mk k n (ts.map (instF bs)) := by rw [instF, if_neg hk2, instL_map]
      exact this
    have HAR := Lib.hid (okB_args hok hk2)
    have IH : Hid (∀ w' v, ∀ a, a ∈ ts → LvV w' a v → LvL w' (.slice A' len' cap') bs → Calls Tryz.prog 74 #[v, .slice A' len' cap'] w' (LvRet w' (instF bs a))) := fun w' v a ha hv hl => ih a v _ w' (Nat.le_trans (nodes_mem ha) hnn.1) (Nat.le_trans (nodes_mem ha) hnn.2) (HAR.out a ha) hv hl
    rw [HF.out]
    have HA := Lib.hid h3
    clear h4 h1 h3 hN hM ih hnn hok p1 p3 p4 hbs HOK HAR
    have HB := Lib.hid ((below_2 w (.cells #[.int .i64 k, .int .i64 n, .slice A len cap] 45) (.cells #[.slice A' len' cap'] 22)).trans ((below_lit _ (.cells #[.int .i64 0, .int .i64 0, .slice none 0 0] 45)).mono (by simp; omega)))
    have hz : (((w.alloc (.cells #[.int .i64 k, .int .i64 n, .slice A len cap] 45)).alloc (.cells #[.slice A' len' cap'] 22)).alloc (.cells #[.int .i64 0, .int .i64 0, .slice none 0 0] 45)).heap.size = w.heap.size + 1 + 1 + 1 := by simp
    have hr0 : (((w.alloc (.cells #[.int .i64 k, .int .i64 n, .slice A len cap] 45)).alloc (.cells #[.slice A' len' cap'] 22)).alloc (.cells #[.int .i64 0, .int .i64 0, .slice none 0 0] 45)).heap[w.heap.size]? = some (.cells #[.int .i64 k, .int .i64 n, .slice A len cap] 45) := (heap_alloc_old _ _ (by simp; omega)).trans ((heap_alloc_old _ _ (by simp)).trans (heap_alloc_new w _))
    have hr1 : (((w.alloc (.cells #[.int .i64 k, .int .i64 n, .slice A len cap] 45)).alloc (.cells #[.slice A' len' cap'] 22)).alloc (.cells #[.int .i64 0, .int .i64 0, .slice none 0 0] 45)).heap[w.heap.size + 1]? = some (.cells #[.slice A' len' cap'] 22) := (heap_alloc_old _ _ (by simp)).trans (row_2 w _ _)
    have hr2 : (((w.alloc (.cells #[.int .i64 k, .int .i64 n, .slice A len cap] 45)).alloc (.cells #[.slice A' len' cap'] 22)).alloc (.cells #[.int .i64 0, .int .i64 0, .slice none 0 0] 45)).heap[w.heap.size + 1 + 1]? = some (.cells #[.int .i64 0, .int .i64 0, .slice none 0 0] 45) := by
      have := heap_alloc_new ((w.alloc (.cells #[.int .i64 k, .int .i64 n, .slice A len cap] 45)).alloc (.cells #[.slice A' len' cap'] 22)) (.cells #[.int .i64 0, .int .i64 0, .slice none 0 0] 45)
      rwa [show ((w.alloc (.cells #[.int .i64 k, .int .i64 n, .slice A len cap] 45)).alloc (.cells #[.slice A' len' cap'] 22)).heap.size = w.heap.size + 1 + 1 by simp] at this
    have q0 := cell_of_row _ _ 0 _ 45 (0, 0) hr0
    have q1 := cell_of_row _ _ 1 _ 45 (0, 0) hr0
    have q2 := cell_of_row _ _ 2 _ 45 (0, 0) hr0
    have q3 := cell_of_row _ _ 0 _ 22 (0, 0) hr1
    have HB1 : Hid (∀ w', Below (w.heap.size + 1 + 1) (((w.alloc (.cells #[.int .i64 k, .int .i64 n, .slice A len cap] 45)).alloc (.cells #[.slice A' len' cap'] 22)).alloc (.cells #[.int .i64 0, .int .i64 0, .slice none 0 0] 45)) w' → ∀ a, a ∈ ts → ∀ v, LvV w' a v → Calls Tryz.prog 90 #[v, .pointer (some ⟨w.heap.size + 1, 0, none⟩)] w' (LvRet w' (instF bs a))) := by
      intro w' hw a ha v hv
      exact put1_is (w.heap.size + 1) a v (.slice A' len' cap') w' (instF bs a) hv (by have := hw.size; rw [hz] at this; omega) ((hw.block (w.heap.size + 1) (by omega)).trans hr1) (fun w'' v' h hv' => IH.out w'' v' a ha hv' (HVB0.out.below (HB.out.trans ((hw.mono (by omega)).trans (h.mono (HB.out.trans (hw.mono (by omega))).size)))))
    go_enter Tryz.func74, Tryz.ntmps74
    go_wp2_with fail
    generalize ((w.alloc (.cells #[.int .i64 k, .int .i64 n, .slice A len cap] 45)).alloc (.cells #[.slice A' len' cap'] 22)).alloc (.cells #[.int .i64 0, .int .i64 0, .slice none 0 0] 45) = W at *
    refine (each_put (w.heap.size + 1) (instF bs) ts A len cap W HN.out h2 hlen (lsV_below HB.out _ _ _ HS.out) (fun w' hw a ha v hv => HB1.out w' (hw.mono (by omega)) a ha v hv)).mono ?_
    rintro e wA ⟨V, rfl, hown, hb⟩
    obtain ⟨va, vl, vc, rfl⟩ := ownL_slice hown
    have hr0 := (hb.block w.heap.size (by omega)).trans hr0
    have hr1 := (hb.block (w.heap.size + 1 + 1) (by omega)).trans hr2
    have HBA := Lib.hid (HB.out.trans (hb.mono HB.out.size))
    have HOW := Lib.hid hown
    have HZA := Lib.hid hb.size
    have HZ := Lib.hid hz
    have HTL : Hid ((ts.map (instF bs)).length = len) := by
      have : (ts.map (instF bs)).length = len := by rw [List.length_map, HN.out]
      exact this
    have c0 := cell_of_row wA _ 0 _ 45 (0, 0) hr0
    have c1 := cell_of_row wA _ 1 _ 45 (0, 0) hr0
    have c2 := cell_of_row wA _ 2 _ 45 (0, 0) hr0
    have f2 := frozen0 (p := 2) hr0
    have e0 := cell_of_row wA _ 0 _ 45 (0, 0) hr1
    have g0 := frozen0 (p := 0) hr1
    have e1 := cell_of_row wA _ 1 _ 45 (0, 0) hr1
    have g1 := frozen0 (p := 1) hr1
    have e2 := cell_of_row wA _ 2 _ 45 (0, 0) hr1
    have g2 := frozen0 (p := 2) hr1
    clear hb hown hz hr2 HB1 q0 q1 q2 q3
    go_wp2_with fail
    have hr2 := (setCell_far wA ⟨w.heap.size, 2, none⟩ (.slice va vl vc) (w.heap.size + 1 + 1) (by show w.heap.size + 1 + 1 ≠ w.heap.size; omega)).trans hr1
    refine bodyPost_ret (results_cell_row rfl _ _ (w.heap.size + 1 + 1) 45 _ (0, 0) _ rfl (set3_row hr2) Tryz.underlying45 rfl (by rw [hi0, Option.map_some, hz1]; rfl)) rfl ?_
    have hzz := HZ.out
    refine ⟨_, rfl, lvP_move (w := wA) (fun b _ hp => ⟨by omega, ?_⟩) ?_ _ _ (ownL_lvP HOW.out (by rw [HTL.out]; exact h2b) k n), below_set (below_set (below_set (below_set HBA.out _ _ ?_) _ _ ?_) _ _ ?_) _ _ ?_⟩
    · rw [setCell_far _ _ _ _ ?_, setCell_far _ _ _ _ ?_, setCell_far _ _ _ _ ?_, setCell_far _ _ _ _ ?_] <;> first | (show b ≠ w.heap.size + 1 + 1; omega) | (show b ≠ w.heap.size; omega)
    · rw [setCell_size, setCell_size, setCell_size, setCell_size]; exact Nat.le_refl _
    all_goals first | (show w.heap.size ≤ w.heap.size; omega) | (show w.heap.size ≤ w.heap.size + 1 + 1; omega)
end Go.Proofs.YtbkdecgfiiajnaaGreatDoor
/-
  The contracts of the program's functions own, node, Num, Param, Succ, IMax, Max: levels in new memory.
  Conditions: each text's own.
-/
namespace Go.Proofs.YtbkdecgfiiajnaaGreatDoor
open Go.RowKit
open Lvl

set_option maxRecDepth 100000 in
set_option maxHeartbeats 1000000 in
theorem own_any (t : Lv) (v : Value) (w : World) (hv : LvV w t v) (hm : nodes t ≤ 1000) : Calls Tryz.prog 86 #[v] w (LvRet w t) := by
  obtain ⟨i0, hi0, hz0, hz1, hz2⟩ := info_parts infoLv
  obtain ⟨s, rfl, hs⟩ := hv
  have HVA := Lib.hid (show LvV w t _ from ⟨s, rfl, hs⟩)
  have HM := Lib.hid hm
  obtain ⟨R, hR⟩ : ∃ R, min (nodes t) (67108864 + 1) = R := ⟨_, rfl⟩
  have HR := Lib.hid hR
  have hR2 : R ≤ 1000 := by omega
  have HK9 := Lib.hid (rfl : kindOf t = kindOf t)
  obtain ⟨k, hk⟩ : ∃ k, kindOf t = k := ⟨_, rfl⟩
  obtain ⟨n, hn⟩ : ∃ n, numOf t = n := ⟨_, rfl⟩
  rw [hk, hn] at HVA ⊢
  have HKK := Lib.hid hk
  have HNN := Lib.hid hn
  clear hs hm hR hk hn HK9
  have HB := Lib.hid (below_2 w (.cells #[.int .i64 k, .int .i64 n, s] 45) (.cells #[.int .i64 0, .int .i64 0, .slice none 0 0] 45))
  have hr1 := row_2 w (.cells #[.int .i64 k, .int .i64 n, s] 45) (.cells #[.int .i64 0, .int .i64 0, .slice none 0 0] 45)
  have hr0 := (heap_alloc_old (w.alloc (.cells #[.int .i64 k, .int .i64 n, s] 45)) (.cells #[.int .i64 0, .int .i64 0, .slice none 0 0] 45) (r := w.heap.size) (by simp)).trans (heap_alloc_new w _)
  have hz : ((w.alloc (.cells #[.int .i64 k, .int .i64 n, s] 45)).alloc (.cells #[.int .i64 0, .int .i64 0, .slice none 0 0] 45)).heap.size = w.heap.size + 1 + 1 := by simp
  go_enter Tryz.func86, Tryz.ntmps86
  go_wp2_with fail
  generalize (w.alloc (.cells #[.int .i64 k, .int .i64 n, s] 45)).alloc (.cells #[.int .i64 0, .int .i64 0, .slice none 0 0] 45) = W at *
  refine (count_up (nodes t) t _ W 67108864 131072 (Nat.le_refl _) (by have := HM.out; omega) (by omega) (by omega) (HVA.out.below HB.out)).mono ?_
  rintro e w2 ⟨rfl, hb⟩
  rw [HR.out]
  have hr1 := (hb.block (w.heap.size + 1) (by omega)).trans hr1
  have hr0 := (hb.block w.heap.size (by omega)).trans hr0
  have HB2 := Lib.hid (HB.out.trans (hb.mono HB.out.size))
  have hz2' : w.heap.size + 1 + 1 ≤ w2.heap.size := by rw [← hz]; exact hb.size
  have q0 := cell_of_row w2 _ 0 _ 45 (0, 0) hr0
  have q1 := cell_of_row w2 _ 1 _ 45 (0, 0) hr0
  have q2 := cell_of_row w2 _ 2 _ 45 (0, 0) hr0
  have hdd : decide ((67108864 : Int) < (R : Int)) = false := by simp; omega
  have HR1 := Lib.hid hr1
  clear hb hr0 hr1 hz
  go_wp2_with fail
  refine (copied_up (nodes t) t _ w2 (Nat.le_refl _) HM.out (HVA.out.below HB2.out)).mono ?_
  rintro e wA ⟨s9, rfl, hs9, hb⟩
  rw [HKK.out, HNN.out]
  obtain ⟨va, vl, vc, rfl⟩ := lvP_slice hs9
  have HS9 := Lib.hid hs9
  have hr2 := (hb.block (w.heap.size + 1) (by omega)).trans HR1.out
  have HBA := Lib.hid (HB2.out.trans (hb.mono HB2.out.size))
  have HZZ := Lib.hid hz2'
  have e0 := cell_of_row wA _ 0 _ 45 (0, 0) hr2
  have g0 := frozen0 (p := 0) hr2
  have e1 := cell_of_row wA _ 1 _ 45 (0, 0) hr2
  have g1 := frozen0 (p := 1) hr2
  have e2 := cell_of_row wA _ 2 _ 45 (0, 0) hr2
  have g2 := frozen0 (p := 2) hr2
  clear hb hs9 hz2'
  go_wp2_with fail
  refine bodyPost_ret (results_cell_row rfl _ _ (w.heap.size + 1) 45 _ (0, 0) _ rfl (set3_row hr2) Tryz.underlying45 rfl (by rw [hi0, Option.map_some, hz1]; rfl)) rfl ?_
  refine ⟨_, by rw [HKK.out, HNN.out], lvP_move (w := wA) (fun b _ hp => ⟨by have := HZZ.out; omega, ?_⟩) ?_ _ _ HS9.out, below_set (below_set (below_set HBA.out _ _ ?_) _ _ ?_) _ _ ?_⟩
  · have := HZZ.out
    rw [setCell_far _ _ _ _ ?_, setCell_far _ _ _ _ ?_, setCell_far _ _ _ _ ?_] <;> (show b ≠ w.heap.size + 1; omega)
  · rw [setCell_size, setCell_size, setCell_size]; exact Nat.le_refl _
  all_goals (show w.heap.size ≤ w.heap.size + 1; omega)

/-- A level without arguments, as a value. -/
theorem lvV_leaf (w : World) (k n : Int) : LvV w (.mk k n []) (.agg #[.int .i64 k, .int .i64 n, .slice none 0 0]) := by
  refine ⟨_, rfl, ?_⟩
  rw [LvS]
  exact ⟨none, 0, 0, rfl, rfl, Nat.le_refl _, by omega, fun _ => rfl, by rw [LsV]; trivial⟩
/-- A level without arguments. -/
theorem lvP_leaf (w : World) (P : Nat → Prop) (k n : Int) : LvP w P (.mk k n []) (.slice none 0 0) := by
  rw [LvP]
  exact ⟨none, 0, 0, rfl, rfl, Nat.le_refl _, by omega, fun _ => rfl, by rw [LsP]; trivial⟩
set_option maxRecDepth 100000 in
theorem num_ret (n : Int) (w : World) : Calls Tryz.prog 85 #[.int .i64 n] w (Ret w (.agg #[.int .i64 1, .int .i64 n, .slice none 0 0])) := by
  obtain ⟨i0, hi0, hz0, hz1, hz2⟩ := info_parts infoLv
  go_enter Tryz.func85, Tryz.ntmps85
  go_wp2_with fail
  refine bodyPost_ret (results_cell_row rfl _ _ (w.heap.size) 45 _ (0, 0) _ rfl (heap_alloc_new w _) Tryz.underlying45 rfl (by rw [hi0, Option.map_some, hz1]; rfl)) rfl ?_
  exact ⟨rfl, below_lit w _⟩
theorem num_is (n : Int) (w : World) : Calls Tryz.prog 85 #[.int .i64 n] w (LvRet w (.mk 1 n [])) :=
  (num_ret n w).mono fun _ _ ⟨h, hb⟩ => ⟨_, h, lvP_leaf _ _ _ _, hb⟩
set_option maxRecDepth 100000 in
/-- What is handed back is the kind over the row itself. -/
theorem node_is (k : Int) (a : Option Addr) (l c : Nat) (w : World) : Calls Tryz.prog 87 #[.int .i64 k, .slice a l c] w (fun e w' => e = .returned (.agg #[.int .i64 k, .int .i64 0, .slice a l c]) ∧ Below w.heap.size w w') := by
  obtain ⟨i0, hi0, hz0, hz1, hz2⟩ := info_parts infoLv
  go_enter Tryz.func87, Tryz.ntmps87
  go_wp2_with fail
  refine bodyPost_ret (results_cell_row rfl _ _ (w.heap.size) 45 _ (0, 0) _ rfl (heap_alloc_new w _) Tryz.underlying45 rfl (by rw [hi0, Option.map_some, hz1]; rfl)) rfl ?_
  exact ⟨rfl, below_lit w _⟩

/-- A row of one level, laid into a block of its own. -/
theorem lvP_one_row {wA w' : World} {B B2 : Nat} {t : Lv} {s : Value} (hs : LvP wA (fun b => B ≤ b) t s) (hB : B ≤ B2) (hlt : B2 < w'.heap.size) (hrow : w'.heap[B2]? = some (.cells #[.int .i64 (kindOf t), .int .i64 (numOf t), s] 45 (0, 0))) (hk : Below wA.heap.size wA w') (k : Int) :
    LvP w' (fun b => B ≤ b) (.mk k 0 [t]) (.slice (some ⟨B2, 0, none⟩) 1 1) := by
  rw [LvP]
  refine ⟨some ⟨B2, 0, none⟩, 1, 1, rfl, rfl, Nat.le_refl _, by omega, (fun e => by cases e), lsP_of _ 0 fun i hi => ?_⟩
  obtain rfl : i = 0 := by simpa using hi
  refine ⟨B2, 0, s, rfl, hlt, hB, cell_of_row w' _ 0 _ 45 (0, 0) hrow, cell_of_row w' _ 1 _ 45 (0, 0) hrow, cell_of_row w' _ 2 _ 45 (0, 0) hrow, lvP_move (fun b hb hp => ⟨hp, hk.block b hb⟩) hk.size _ _ hs⟩
theorem lvP_two_row {wA w' : World} {P : Nat → Prop} {B2 : Nat} {t u : Lv} {s r : Value} (hs : LvP wA P t s) (hr : LvP wA P u r) (hB : P B2) (hlt : B2 < w'.heap.size) (hrow : w'.heap[B2]? = some (.cells #[.int .i64 (kindOf t), .int .i64 (numOf t), s, .int .i64 (kindOf u), .int .i64 (numOf u), r] 45 (0, 0))) (hk : Below wA.heap.size wA w') (k : Int) :
    LvP w' P (.mk k 0 [t, u]) (.slice (some ⟨B2, 0, none⟩) 2 2) := by
  rw [LvP]
  refine ⟨some ⟨B2, 0, none⟩, 2, 2, rfl, rfl, Nat.le_refl _, by omega, (fun e => by cases e), lsP_of _ 0 fun i hi => ?_⟩
  match i, hi with
  | 0, _ => exact ⟨B2, 0, s, rfl, hlt, hB, cell_of_row w' _ 0 _ 45 (0, 0) hrow, cell_of_row w' _ 1 _ 45 (0, 0) hrow, cell_of_row w' _ 2 _ 45 (0, 0) hrow, lvP_move (fun b hb hp => ⟨hp, hk.block b hb⟩) hk.size _ _ hs⟩
  | 1, _ => exact ⟨B2, 0, r, rfl, hlt, hB, cell_of_row w' _ 3 _ 45 (0, 0) hrow, cell_of_row w' _ 4 _ 45 (0, 0) hrow, cell_of_row w' _ 5 _ 45 (0, 0) hrow, lvP_move (fun b hb hp => ⟨hp, hk.block b hb⟩) hk.size _ _ hr⟩

theorem lvP_below {w w' : World} {P : Nat → Prop} {t : Lv} {s : Value} (h : LvP w P t s) (hb : Below w.heap.size w w') : LvP w' P t s := lvP_move (fun b hlt hp => ⟨hp, hb.block b hlt⟩) hb.size _ _ h
theorem lvP_weak {w : World} {P Q : Nat → Prop} {t : Lv} {s : Value} (h : LvP w P t s) (hq : ∀ b, P b → Q b) : LvP w Q t s := lvP_move (w := w) (w' := w) (fun b _ hp => ⟨hq b hp, rfl⟩) (Nat.le_refl _) _ _ h
theorem below_more {w w' w3 : World} {O : Obj} (h : Below w.heap.size w w') (h3 : Below (w'.alloc O).heap.size (w'.alloc O) w3) : Below w.heap.size w w3 := h.trans (((below_lit w' O).trans (h3.mono (below_lit w' O).size)).mono h.size)
theorem two_done {cur w3 : World} {P : Nat → Prop} {t u : Lv} {s r : Value} {k1 n1 k2 n2 : Int} (hs : LvP cur P t s) (hr : LvP cur P u r) (hB : P cur.heap.size) (e1 : kindOf t = k1) (e2 : numOf t = n1) (e3 : kindOf u = k2) (e4 : numOf u = n2)
    (h : Below (cur.alloc (.cells #[.int .i64 k1, .int .i64 n1, s, .int .i64 k2, .int .i64 n2, r] 45)).heap.size (cur.alloc (.cells #[.int .i64 k1, .int .i64 n1, s, .int .i64 k2, .int .i64 n2, r] 45)) w3) (k : Int) :
    LvP w3 P (.mk k 0 [t, u]) (.slice (some ⟨cur.heap.size, 0, none⟩) 2 2) := by
  have hlt : cur.heap.size < (cur.alloc (.cells #[.int .i64 k1, .int .i64 n1, s, .int .i64 k2, .int .i64 n2, r] 45)).heap.size := by simp
  exact lvP_two_row hs hr hB (Nat.lt_of_lt_of_le hlt h.size) (by rw [e1, e2, e3, e4]; exact (h.block _ hlt).trans (heap_alloc_new _ _)) ((below_lit cur _).trans (h.mono (below_lit cur _).size)) k
end Go.Proofs.YtbkdecgfiiajnaaGreatDoor
/-
  The contracts of the program's functions each (over levels, each made anew), Max of one level, ownLevel.
  Conditions: each text's own.
-/
namespace Go.Proofs.YtbkdecgfiiajnaaGreatDoor
open Go.RowKit
open Lvl
namespace Trm

set_option maxRecDepth 100000 in
set_option maxHeartbeats 2000000 in
theorem max1_is (t : Lv) (B : Nat) (w : World) (hs : LsV w (some ⟨B, 0, none⟩) 0 [t]) (hm : nodes t ≤ 1000) : Calls Tryz.prog 72 #[.slice (some ⟨B, 0, none⟩) 1 1] w (LvRet w t) := by
  obtain ⟨i0, hi0, hz0, hz1, hz2⟩ := info_parts infoLv
  obtain ⟨b', o', s0, e9', hbs', hd0, hd1, hd2, hls0⟩ := lsV_get hs 0 (by simp)
  cases e9'
  simp only [Nat.zero_mul, Nat.add_zero, Nat.zero_add, List.getElem_cons_zero] at hd0 hd1 hd2 hls0
  have HLS0 := Lib.hid (show LvV w t (.agg #[.int .i64 (kindOf t), .int .i64 (numOf t), s0]) from ⟨s0, rfl, hls0⟩)
  obtain ⟨k1, hk1⟩ : ∃ k, kindOf t = k := ⟨_, rfl⟩
  obtain ⟨n1, hn1⟩ : ∃ n, numOf t = n := ⟨_, rfl⟩
  have CA : Hid (∀ w' v, LvV w' t v → Calls Tryz.prog 86 #[v] w' (fun e w9 => ∃ s, e = .returned (.agg #[.int .i64 k1, .int .i64 n1, s]) ∧ LvP w9 (fun b => w'.heap.size ≤ b) t s ∧ Below w'.heap.size w' w9)) := fun w' v h => by
    have := own_any t v w' h hm
    unfold LvRet at this
    rwa [hk1, hn1] at this
  rw [hk1, hn1] at HLS0
  rw [hk1] at hd0
  rw [hn1] at hd1
  have HKK := Lib.hid hk1
  have HNN := Lib.hid hn1
  clear hs hls0 hm hk1 hn1
  have HB := Lib.hid (below_lit w (.cells #[.int .i64 0, .int .i64 0, .slice none 0 0] 45))
  have hr0 := heap_alloc_new w (.cells #[.int .i64 0, .int .i64 0, .slice none 0 0] 45)
  have hz : (w.alloc (.cells #[.int .i64 0, .int .i64 0, .slice none 0 0] 45)).heap.size = w.heap.size + 1 := by simp
  have q0 := (HB.out.cell (p := ⟨B, 0, none⟩) hbs').trans hd0
  have q1 := (HB.out.cell (p := ⟨B, 1, none⟩) hbs').trans hd1
  have q2 := (HB.out.cell (p := ⟨B, 2, none⟩) hbs').trans hd2
  go_enter Tryz.func72, Tryz.ntmps72
  go_wp2_with fail
  generalize w.alloc (.cells #[.int .i64 0, .int .i64 0, .slice none 0 0] 45) = W at *
  refine (CA.out W _ (HLS0.out.below HB.out)).mono ?_
  rintro e wA ⟨sU, rfl, hsU, hb⟩
  obtain ⟨ua, ul, uc, rfl⟩ := lvP_slice hsU
  have hN := below_lit wA (.cells #[.int .i64 k1, .int .i64 n1, .slice ua ul uc] 45)
  have hb2 := hb.trans (hN.mono hb.size)
  have HB2 := Lib.hid (HB.out.trans (hb2.mono HB.out.size))
  have HPU := Lib.hid (lvP_move (w := wA) (Q := fun b => w.heap.size + 1 ≤ b) (fun b hlt hp => ⟨by omega, hN.block b hlt⟩) hN.size _ _ hsU)
  have hr4 := heap_alloc_new wA (.cells #[.int .i64 k1, .int .i64 n1, .slice ua ul uc] 45)
  have HR0 := Lib.hid ((hb2.block w.heap.size (by omega)).trans hr0)
  have HZA : Hid (w.heap.size + 1 ≤ wA.heap.size) := by have := hb.size; rw [hz] at this; exact this
  clear hb hb2 hN hsU hr0 hz q0 q1 q2 hd0 hd1 hd2
  go_wp2_with fail
  generalize wA.alloc (.cells #[.int .i64 k1, .int .i64 n1, .slice ua ul uc] 45) = W4 at *
  have HR4 := Lib.hid hr4
  clear hr4
  go_loopw [5] (fun i wr => i = .int .i64 (-1) ∧ wr = W4) (fun i _ => (intOf i + 1).toNat)
  case atStart => exact ⟨rfl, rfl⟩
  case round =>
    obtain ⟨rfl, rfl⟩ := hrel
    have c0 := cell_of_row wr _ 0 _ 45 (0, 0) HR4.out
    have c1 := cell_of_row wr _ 1 _ 45 (0, 0) HR4.out
    have c2 := cell_of_row wr _ 2 _ 45 (0, 0) HR4.out
    have hrz := HR0.out
    have e0 := cell_of_row wr _ 0 _ 45 (0, 0) hrz
    have g0 := frozen0 (p := 0) hrz
    have e1 := cell_of_row wr _ 1 _ 45 (0, 0) hrz
    have g1 := frozen0 (p := 1) hrz
    have e2 := cell_of_row wr _ 2 _ 45 (0, 0) hrz
    have g2 := frozen0 (p := 2) hrz
    go_wp2_with fail
    refine bodyPost_ret (results_cell_row rfl _ _ (w.heap.size) 45 _ (0, 0) _ rfl (set3_row hrz) Tryz.underlying45 rfl (by rw [hi0, Option.map_some, hz1]; rfl)) rfl ?_
    refine ⟨_, by rw [HKK.out, HNN.out], lvP_move (w := wr) (fun b _ hp => ⟨by omega, ?_⟩) ?_ _ _ HPU.out, below_set (below_set (below_set HB2.out _ _ ?_) _ _ ?_) _ _ ?_⟩
    · rw [setCell_far _ _ _ _ ?_, setCell_far _ _ _ _ ?_, setCell_far _ _ _ _ ?_] <;> (show b ≠ w.heap.size; omega)
    · rw [setCell_size, setCell_size, setCell_size]; exact Nat.le_refl _
    all_goals (show w.heap.size ≤ w.heap.size; omega)
set_option maxRecDepth 100000 in
set_option maxHeartbeats 1000000 in
theorem ownLevel_is (t : Lv) (v : Value) (w : World) (hv : LvV w t v) (hm : nodes t ≤ 1000) : Calls Tryz.prog 49 #[v] w (LvRet w t) := by
  obtain ⟨i0, hi0, hz0, hz1, hz2⟩ := info_parts infoLv
  obtain ⟨s, rfl, hs⟩ := hv
  obtain ⟨sa, sl, sc, rfl⟩ := lvS_slice hs
  have HSS := Lib.hid hs
  have HM := Lib.hid hm
  obtain ⟨k, hk⟩ : ∃ k, kindOf t = k := ⟨_, rfl⟩
  obtain ⟨n, hn⟩ : ∃ n, numOf t = n := ⟨_, rfl⟩
  rw [hk, hn]
  have HKK := Lib.hid hk
  have HNN := Lib.hid hn
  clear hs hm hk hn
  have z1 : (w.alloc (.cells #[.int .i64 k, .int .i64 n, .slice sa sl sc] 45)).heap.size = w.heap.size + 1 := by simp
  have z2 : ((w.alloc (.cells #[.int .i64 k, .int .i64 n, .slice sa sl sc] 45)).alloc (.cells #[.int .i64 0, .int .i64 0, .slice none 0 0] 45)).heap.size = w.heap.size + 1 + 1 := by simp
  have z3 : (((w.alloc (.cells #[.int .i64 k, .int .i64 n, .slice sa sl sc] 45)).alloc (.cells #[.int .i64 0, .int .i64 0, .slice none 0 0] 45)).alloc (.cells #[.int .i64 k, .int .i64 n, .slice sa sl sc] 45)).heap.size = w.heap.size + 1 + 1 + 1 := by simp
  have hr1 : ((w.alloc (.cells #[.int .i64 k, .int .i64 n, .slice sa sl sc] 45)).alloc (.cells #[.int .i64 0, .int .i64 0, .slice none 0 0] 45)).heap[w.heap.size + 1]? = some (Obj.cells #[.int .i64 0, .int .i64 0, .slice none 0 0] 45 (0, 0)) := row_2 w (.cells #[.int .i64 k, .int .i64 n, .slice sa sl sc] 45) (.cells #[.int .i64 0, .int .i64 0, .slice none 0 0] 45)
  have hr2 : (((w.alloc (.cells #[.int .i64 k, .int .i64 n, .slice sa sl sc] 45)).alloc (.cells #[.int .i64 0, .int .i64 0, .slice none 0 0] 45)).alloc (.cells #[.int .i64 k, .int .i64 n, .slice sa sl sc] 45)).heap[w.heap.size + 1 + 1]? = some (Obj.cells #[.int .i64 k, .int .i64 n, .slice sa sl sc] 45 (0, 0)) := by
    have := heap_alloc_new ((w.alloc (.cells #[.int .i64 k, .int .i64 n, .slice sa sl sc] 45)).alloc (.cells #[.int .i64 0, .int .i64 0, .slice none 0 0] 45)) (.cells #[.int .i64 k, .int .i64 n, .slice sa sl sc] 45)
    rwa [z2] at this
  have hr1' := (heap_alloc_old ((w.alloc (.cells #[.int .i64 k, .int .i64 n, .slice sa sl sc] 45)).alloc (.cells #[.int .i64 0, .int .i64 0, .slice none 0 0] 45)) (.cells #[.int .i64 k, .int .i64 n, .slice sa sl sc] 45) (r := w.heap.size + 1) (by rw [z2]; omega)).trans hr1
  have hb := below_2 w (.cells #[.int .i64 k, .int .i64 n, .slice sa sl sc] 45) (.cells #[.int .i64 0, .int .i64 0, .slice none 0 0] 45)
  have HB := Lib.hid (hb.trans ((below_lit ((w.alloc (.cells #[.int .i64 k, .int .i64 n, .slice sa sl sc] 45)).alloc (.cells #[.int .i64 0, .int .i64 0, .slice none 0 0] 45)) (.cells #[.int .i64 k, .int .i64 n, .slice sa sl sc] 45)).mono hb.size))
  have HR1 := Lib.hid hr1'
  have HR2 := Lib.hid hr2
  have HZ := Lib.hid z3
  go_enter Tryz.func49, Tryz.ntmps49
  go_wp2_with fail
  clear z1 z2 z3 hr1 hr2 hr1' hb
  generalize ((w.alloc (.cells #[.int .i64 k, .int .i64 n, .slice sa sl sc] 45)).alloc (.cells #[.int .i64 0, .int .i64 0, .slice none 0 0] 45)).alloc (.cells #[.int .i64 k, .int .i64 n, .slice sa sl sc] 45) = W at *
  have HSL : Hid (LsV W (some ⟨w.heap.size + 1 + 1, 0, none⟩) 0 [t]) := by
    have : LsV W (some ⟨w.heap.size + 1 + 1, 0, none⟩) 0 [t] := by
      rw [LsV, LsV]
      have hr := HR2.out
      rw [← HKK.out, ← HNN.out] at hr
      exact ⟨⟨_, 0, .slice sa sl sc, rfl, by rw [HZ.out]; omega, cell_of_row W _ 0 _ 45 (0, 0) hr, cell_of_row W _ 1 _ 45 (0, 0) hr, cell_of_row W _ 2 _ 45 (0, 0) hr, lvS_below HB.out _ _ HSS.out⟩, trivial⟩
    exact this
  refine (max1_is t _ W HSL.out HM.out).mono ?_
  rintro e wA ⟨s9, rfl, hs9, hb⟩
  rw [HKK.out, HNN.out]
  obtain ⟨va, vl, vc, rfl⟩ := lvP_slice hs9
  have HS9 := Lib.hid hs9
  have hrz := (hb.block (w.heap.size + 1) (by rw [HZ.out]; omega)).trans HR1.out
  have HBA := Lib.hid (HB.out.trans (hb.mono HB.out.size))
  have e0 := cell_of_row wA _ 0 _ 45 (0, 0) hrz
  have g0 := frozen0 (p := 0) hrz
  have e1 := cell_of_row wA _ 1 _ 45 (0, 0) hrz
  have g1 := frozen0 (p := 1) hrz
  have e2 := cell_of_row wA _ 2 _ 45 (0, 0) hrz
  have g2 := frozen0 (p := 2) hrz
  clear hb hs9
  go_wp2_with fail
  refine bodyPost_ret (results_cell_row rfl _ _ (w.heap.size + 1) 45 _ (0, 0) _ rfl (set3_row hrz) Tryz.underlying45 rfl (by rw [hi0, Option.map_some, hz1]; rfl)) rfl ?_
  have hzz := HZ.out
  refine ⟨_, by rw [HKK.out, HNN.out], lvP_move (w := wA) (fun b _ hp => ⟨by omega, ?_⟩) ?_ _ _ HS9.out, below_set (below_set (below_set HBA.out _ _ ?_) _ _ ?_) _ _ ?_⟩
  · rw [setCell_far _ _ _ _ ?_, setCell_far _ _ _ _ ?_, setCell_far _ _ _ _ ?_] <;> (show b ≠ w.heap.size + 1; omega)
  · rw [setCell_size, setCell_size, setCell_size]; exact Nat.le_refl _
  all_goals (show w.heap.size ≤ w.heap.size + 1; omega)
set_option maxRecDepth 100000 in
set_option maxHeartbeats 2000000 in
theorem eachl_own (g : Lv → Lv) (ts : List Lv) (A : Option Addr) (len cap : Nat) (w : World) (hl : ts.length = len) (hlc : len ≤ cap) (h1000 : len ≤ 100000) (hs : LsV w A 0 ts)
    (CE : ∀ w', Below w.heap.size w w' → ∀ a, a ∈ ts → ∀ v, LvV w' a v → Calls Tryz.prog 49 #[v] w' (LvRet w' (g a))) :
    Calls Tryz.prog 54 #[.slice A len cap, .func (.func 49) #[] #[]] w (fun e w' => ∃ V, e = .returned V ∧ OwnL w' w.heap.size V (ts.map g) ∧ Below w.heap.size w w') := by
  obtain ⟨i0, hi0, hz0, hz1, hz2⟩ := info_parts infoLv
  have HCE := Lib.hid CE
  have HS := Lib.hid hs
  have HN := Lib.hid hl
  have HUL : Hid ((ts.map g).length = len) := by
    have : (ts.map g).length = len := by rw [List.length_map, hl]
    exact this
  clear CE hs hl
  go_enter Tryz.func54, Tryz.ntmps54
  go_wp2_with fail
  go_loopw [5, 10] (fun V i wr => ∃ j : Nat, j ≤ len ∧ i = .int .i64 j ∧ OwnL wr w.heap.size V ((ts.map g).take j) ∧ Below w.heap.size w wr) (fun _ i _ => len - (intOf i).toNat)
  case atStart => exact ⟨0, Nat.zero_le _, rfl, ownL_nil _ _, Below.refl _ _⟩
  case round =>
    obtain ⟨j, hj, rfl, hown, hb⟩ := hrel
    have HOWN := Lib.hid hown
    have HBW := Lib.hid hb
    have HSW := Lib.hid (lsV_below hb _ _ _ HS.out)
    clear hown hb
    by_cases hlt : j < len
    · have hx1 : j < ts.length := by rw [HN.out]; exact hlt
      have hln : decide ((j : Int) < (len : Int)) = true := by simp; omega
      obtain ⟨b, o, s, rfl, hbs, hc0, hc1, hc2, hls⟩ := lsV_get HSW.out j hx1
      obtain ⟨sa, sl, sc, rfl⟩ := lvS_slice hls
      have HLS : Hid (LvV wr ts[j] (.agg #[.int .i64 (kindOf ts[j]), .int .i64 (numOf ts[j]), .slice sa sl sc])) := ⟨_, rfl, hls⟩
      have HTK : Hid ((ts.map g).take (j + 1) = (ts.map g).take j ++ [g ts[j]]) := by
        have : (ts.map g).take (j + 1) = (ts.map g).take j ++ [g ts[j]] := by rw [List.take_add_one, List.getElem?_eq_getElem (by rw [List.length_map]; exact hx1), List.getElem_map]; rfl
        exact this
      have HME := Lib.hid (List.getElem_mem hx1)
      have q1 : (0 : Int) ≤ (j : Int) := by omega
      have q2 : (j : Int) < (len : Int) := by omega
      generalize kindOf ts[j] = ki at *
      generalize numOf ts[j] = nu at *
      generalize ts[j] = tj at *
      clear hls
      obtain ⟨ss, hsl, hso, hsk⟩ := HOWN.out
      have hjl : ((ts.map g).take j).length = j := by rw [List.length_take, HUL.out]; omega
      rw [hjl] at hso
      have HO := Lib.hid hso
      have HSL := Lib.hid hsl
      have HSK := Lib.hid hsk
      have HJL := Lib.hid hjl
      have hbo1 : j + 1 ≤ maxLen := by unfold maxLen; omega
      have hbo2 : (j + 1) * 40 ≤ 140737488355328 := by omega
      clear hso hsl hsk hjl
      go_wp2_with fail
      have hbl := below_lit wr (.cells #[.int .i64 ki, .int .i64 nu, .slice sa sl sc] 45)
      have HBL := Lib.hid hbl
      have HHL := Lib.hid (HLS.out.below hbl)
      generalize wr.alloc (.cells #[.int .i64 ki, .int .i64 nu, .slice sa sl sc] 45) = W1 at *
      clear hbl
      refine (HCE.out W1 (HBW.out.trans (HBL.out.mono HBW.out.size)) tj HME.out _ HHL.out).mono ?_
      rintro e wA ⟨s9, rfl, hs9, hbA⟩
      have HBA := Lib.hid (HBL.out.trans (hbA.mono HBL.out.size))
      have HS9 : Hid (LvP wA (fun b => wr.heap.size ≤ b) (g tj) s9) := lvP_move (w := wA) (w' := wA) (fun b _ hp => ⟨Nat.le_trans HBL.out.size hp, rfl⟩) (Nat.le_refl _) _ _ hs9
      obtain ⟨k9, hk9⟩ : ∃ k, kindOf (g tj) = k := ⟨_, rfl⟩
      obtain ⟨n9, hn9⟩ : ∃ n, numOf (g tj) = n := ⟨_, rfl⟩
      have HK9 := Lib.hid hk9
      have HN9 := Lib.hid hn9
      rw [hk9, hn9]
      have HBAS : Hid (w.heap.size ≤ wA.heap.size) := Nat.le_trans HBW.out.size HBA.out.size
      clear hs9 hbA hc0 hc1 hc2 hk9 hn9
      go_wp2_with (first | (refine wpList_append_lies _ rfl (.tmp 14) (.tmp 18) 22 rfl w.heap.size 45 i0 (.agg #[.int .i64 0, .int .i64 0, .slice none 0 0]) 3 40 Tryz.underlying22 hi0 hz0 hz1 hz2 rfl (by decide) u5 j (cells3 ((ts.map g).take j) ss) (by simp [Act.eval]) (own_alloc (own_below HO.out HBA.out) _) ⟨wA.heap.size, 0, none⟩ 1 1 [.int .i64 k9, .int .i64 n9, s9] (by simp [Act.eval]) rfl (World.news_of_block (heap_alloc_new wA _)) (three_oneCell (lvP_one HS9.out)) (by decide) hbo1 hbo2 (by have := HBAS.out; simp; omega) (wA.heap.size + 1) (by simp) ?_; intro g9 cap' w2 hown2 hgrow hat hlt2))
      have hA : Below w.heap.size w wA := HBW.out.trans (HBA.out.mono HBW.out.size)
      refine ⟨⟨j + 1, by omega, by go_num, ?_, (hA.alloc hA.size _).grown hgrow (by have := hA.size; simp; omega) (fun k e => own_block HO.out k e)⟩, by simp [intOf]; omega⟩
      have hst := ownL_step (w0 := wr) (w1 := wA) (w2 := w2) (base := w.heap.size) (V := u5) (ts := (ts.map g).take j) (ss := ss) (a := g tj) (s := s9) (H := wA.heap.size + 1) (O := .cells #[.int .i64 k9, .int .i64 n9, s9] 45) (g := g9) (cap := cap') HSL.out (by rw [HJL.out]; exact HO.out) HSK.out HBW.out.size HBA.out HS9.out (by simp) (by rw [HJL.out, HK9.out, HN9.out]; exact hown2) hgrow hat
      rw [HJL.out] at hst
      rw [HTK.out]
      exact hst
    · obtain rfl : j = len := by omega
      have hln : decide ((j : Int) < (j : Int)) = false := by simp
      have HF : Hid ((ts.map g).take j = ts.map g) := by
        have : (ts.map g).take j = ts.map g := List.take_of_length_le (by rw [HUL.out]; exact Nat.le_refl _)
        exact this
      go_wp2_with fail
      go_ret
      exact ⟨_, rfl, by rw [← HF.out]; exact HOWN.out, HBW.out⟩

theorem eachl_all (ls : List Lv) (l : Value) (w : World) (P : Nat → Prop) (h : LvP w P (.mk 0 0 ls) l) (hn : ls.length ≤ 100000) (hm : ∀ a, a ∈ ls → nodes a ≤ 1000) :
    Calls Tryz.prog 54 #[l, .func (.func 49) #[] #[]] w (fun e w' => ∃ V, e = .returned V ∧ OwnL w' w.heap.size V ls ∧ Below w.heap.size w w') := by
  have h2 := lvS_of _ _ h
  rw [LvS] at h2
  obtain ⟨A, len, cap, rfl, h1, hlc, _, _, hs⟩ := h2
  have := eachl_own id ls A len cap w h1 hlc (by omega) hs (fun w' _ a ha v hv => ownLevel_is a v w' hv (hm a ha))
  rwa [List.map_id] at this
end Trm
end Go.Proofs.YtbkdecgfiiajnaaGreatDoor
/-
  Plain facts: a term's nodes in the order in which they are handed out, with how deep they stand, and in how many binders.
  Conditions: none.
-/
namespace Go.Proofs.YtbkdecgfiiajnaaGreatDoor
open Lvl
namespace Trm

/-- How many binders a node of m arguments lays about its argument at place i. -/
def bndP (k : Int) (m i : Nat) : Nat := if (k = 5 ∨ k = 6 ∨ k = 7) ∧ i + 1 = m then 1 else 0
theorem bndP_le (k : Int) (m i : Nat) : bndP k m i ≤ 1 := by
  unfold bndP
  split <;> omega
mutual
/-- The nodes, each ahead of its arguments. -/
def pre : Tm → Nat → Nat → List (Tm × Nat × Nat)
  | .mk k n m ls ts, d, b => (.mk k n m ls ts, d, b) :: preL k ts.length ts 0 (d + 1) b
def preL (k : Int) (len : Nat) : List Tm → Nat → Nat → Nat → List (Tm × Nat × Nat)
  | [], _, _, _ => []
  | a :: ts, i, d, b => pre a d (b + bndP k len i) ++ preL k len ts (i + 1) d b
end
theorem preL_append (k : Int) (len : Nat) : ∀ (l r : List Tm) (i d b : Nat), preL k len (l ++ r) i d b = preL k len l i d b ++ preL k len r (i + l.length) d b
  | [], r, i, d, b => by rw [List.nil_append, preL, List.nil_append, List.length_nil, Nat.add_zero]
  | a :: l, r, i, d, b => by
    rw [List.cons_append, preL, preL, preL_append k len l r, List.append_assoc, List.length_cons, show i + 1 + l.length = i + (l.length + 1) by omega]
theorem preL_take (k : Int) (len : Nat) {ts : List Tm} {j : Nat} (h : j < ts.length) (d b : Nat) : preL k len (ts.take (j + 1)) 0 d b = preL k len (ts.take j) 0 d b ++ pre ts[j] d (b + bndP k len j) := by
  rw [List.take_add_one, List.getElem?_eq_getElem h, preL_append, Nat.zero_add, List.length_take, Nat.min_eq_left (by omega)]
  simp [preL]
mutual
theorem pre_len : ∀ (t : Tm) (d b : Nat), (pre t d b).length ≤ tnodes t
  | .mk k n m ls ts, d, b => by
    rw [pre, tnodes, List.length_cons]
    have := preL_len k ts.length ts 0 (d + 1) b
    omega
theorem preL_len (k : Int) (len : Nat) : ∀ (ts : List Tm) (i d b : Nat), (preL k len ts i d b).length ≤ tnodesL ts
  | [], _, _, _ => by rw [preL, List.length_nil]; omega
  | a :: ts, i, d, b => by
    rw [preL, tnodesL, List.length_append]
    have := pre_len a d (b + bndP k len i)
    have := preL_len k len ts (i + 1) d b
    omega
end
theorem preL_pfx (k : Int) (len : Nat) (ts : List Tm) (j d b : Nat) : preL k len (ts.take j) 0 d b <+: preL k len ts 0 d b := by
  have := preL_append k len (ts.take j) (ts.drop j) 0 d b
  rw [List.take_append_drop] at this
  exact ⟨_, this.symm⟩
theorem pre_head (t : Tm) (d b : Nat) : (t, d, b) ∈ pre t d b := by
  cases t
  rw [pre]
  exact List.mem_cons_self
end Trm
end Go.Proofs.YtbkdecgfiiajnaaGreatDoor
