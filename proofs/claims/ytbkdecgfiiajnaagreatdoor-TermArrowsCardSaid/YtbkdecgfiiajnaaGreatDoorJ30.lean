import Derived.Test.YtbkdecgfiiajnaaGreatDoorJ27
import Derived.Test.YtbkdecgfiiajnaaGreatDoorJ29
import Derived.Test.YtbkdecgfiiajnaaGreatDoorJ20
import Derived.Test.YtbkdecgfiiajnaaGreatDoorJ16
import Derived.Test.YtbkdecgfiiajnaaGreatDoorJ25
/-
  The contracts of the program's functions Levels$1, Levels$2 and Levels, where every level can be put in.
  Conditions: the term lies in memory as told by 'TmV', the levels by 'LvL'; it has at most 100000 nodes, each level at most 1000.
-/
namespace Go.Proofs.YtbkdecgfiiajnaaGreatDoor
open Go.RowKit
open Lvl
namespace Trm
set_option maxRecDepth 100000 in
set_option maxHeartbeats 4000000 in
theorem put_is (bs : List Lv) (Bb Bk : Nat) (t : Lv) (v Vb : Value) (w : World) (hv : LvV w t v) (hm : nodes t ≤ 1000) (hbb : w.heap[Bb]? = some (.cells #[Vb] 22 (0, 0))) (hvb : LvL w Vb bs) (hmb : ∀ b ∈ bs, nodes b ≤ 1000) (hbk : w.heap[Bk]? = some (.cells #[.bool true] 4 (0, 0))) (hin : instB bs t = true) :
    Calls Tryz.prog 50 #[v, .pointer (some ⟨Bb, 0, none⟩), .pointer (some ⟨Bk, 0, none⟩)] w (LvRet w (instF bs t)) := by
  obtain ⟨i0, hi0, hz0, hz1, hz2⟩ := info_parts infoLv
  obtain ⟨s, rfl, hs⟩ := hv
  obtain ⟨sa, sl, sc, rfl⟩ := lvS_slice hs
  have HSS := Lib.hid hs
  obtain ⟨ba, bl, bc, rfl⟩ := lvS_slice hvb
  have HVB := Lib.hid hvb
  have HM := Lib.hid hm
  have HMB := Lib.hid hmb
  have HIN := Lib.hid hin
  have HBB := Lib.hid hbb
  have HBK := Lib.hid hbk
  have hlb : Bb < w.heap.size := (Array.getElem?_eq_some_iff.1 hbb).1
  have hlk : Bk < w.heap.size := (Array.getElem?_eq_some_iff.1 hbk).1
  obtain ⟨k, hk⟩ : ∃ k, kindOf t = k := ⟨_, rfl⟩
  obtain ⟨n, hn⟩ : ∃ n, numOf t = n := ⟨_, rfl⟩
  rw [hk, hn]
  have HKK := Lib.hid hk
  have HNN := Lib.hid hn
  clear hs hm hk hn hvb hmb hin hbb hbk
  have b00 : (((w.alloc (.cells #[.int .i64 k, .int .i64 n, .slice sa sl sc] 45)).alloc (.cells #[.int .i64 0, .int .i64 0, .slice none 0 0] 45))).cell? ⟨Bb, 0, none⟩ = some (.slice ba bl bc) := ((below_2 w (.cells #[.int .i64 k, .int .i64 n, .slice sa sl sc] 45) (.cells #[.int .i64 0, .int .i64 0, .slice none 0 0] 45)).cell (p := ⟨Bb, 0, none⟩) hlb).trans (cell_of_row w Bb 0 _ _ (0, 0) HBB.out)
  go_enter Tryz.func50, Tryz.ntmps50
  go_wp2_with fail
  clear b00
  have z1 : (w.alloc (.cells #[.int .i64 k, .int .i64 n, .slice sa sl sc] 45)).heap.size = w.heap.size + 1 := by simp
  have z2 : ((w.alloc (.cells #[.int .i64 k, .int .i64 n, .slice sa sl sc] 45)).alloc (.cells #[.int .i64 0, .int .i64 0, .slice none 0 0] 45)).heap.size = w.heap.size + 1 + 1 := by simp
  have r0 : (w.alloc (.cells #[.int .i64 k, .int .i64 n, .slice sa sl sc] 45)).heap[w.heap.size]? = some (Obj.cells #[.int .i64 k, .int .i64 n, .slice sa sl sc] 45 (0, 0)) := by
    have := heap_alloc_new w (.cells #[.int .i64 k, .int .i64 n, .slice sa sl sc] 45)
    exact this
  have r1 : ((w.alloc (.cells #[.int .i64 k, .int .i64 n, .slice sa sl sc] 45)).alloc (.cells #[.int .i64 0, .int .i64 0, .slice none 0 0] 45)).heap[w.heap.size + 1]? = some (Obj.cells #[.int .i64 0, .int .i64 0, .slice none 0 0] 45 (0, 0)) := by
    have := heap_alloc_new (w.alloc (.cells #[.int .i64 k, .int .i64 n, .slice sa sl sc] 45)) (.cells #[.int .i64 0, .int .i64 0, .slice none 0 0] 45)
    rwa [z1] at this
  have HB := Lib.hid ((below_lit w (.cells #[.int .i64 k, .int .i64 n, .slice sa sl sc] 45)).trans ((below_lit (w.alloc (.cells #[.int .i64 k, .int .i64 n, .slice sa sl sc] 45)) (.cells #[.int .i64 0, .int .i64 0, .slice none 0 0] 45)).mono (below_lit w (.cells #[.int .i64 k, .int .i64 n, .slice sa sl sc] 45)).size))
  have HR0 := Lib.hid ((heap_alloc_old (w.alloc (.cells #[.int .i64 k, .int .i64 n, .slice sa sl sc] 45)) (.cells #[.int .i64 0, .int .i64 0, .slice none 0 0] 45) (by rw [z1]; omega)).trans (r0))
  have HR1 := Lib.hid (r1)
  clear r0 r1
  generalize ((w.alloc (.cells #[.int .i64 k, .int .i64 n, .slice sa sl sc] 45)).alloc (.cells #[.int .i64 0, .int .i64 0, .slice none 0 0] 45)) = W2 at *
  have HZ := Lib.hid z2
  clear z1 z2
  have CI := Lib.hid (inst_any bs t _ (.slice ba bl bc) W2 ⟨_, rfl, lvS_below HB.out _ _ HSS.out⟩ (HVB.out.below HB.out) HM.out HMB.out)
  rw [HKK.out, HNN.out] at CI
  have hsz2 := HZ.out
  refine CI.out.mono ?_
  rintro e w3 ⟨s9, rfl, hs9, hb3⟩
  have hir : instR bs t = instF bs t := by unfold instR; rw [HIN.out]; rfl
  rw [hir] at hs9 ⊢
  rw [HIN.out]
  obtain ⟨va, vl, vc, rfl⟩ := lvP_slice hs9
  obtain ⟨kr, hkr⟩ : ∃ q, kindOf (instF bs t) = q := ⟨_, rfl⟩
  obtain ⟨nr, hnr⟩ : ∃ q, numOf (instF bs t) = q := ⟨_, rfl⟩
  rw [hkr, hnr]
  have HKR := Lib.hid hkr
  have HNR := Lib.hid hnr
  have HS9 := Lib.hid hs9
  have hs3 : w.heap.size + 1 + 1 ≤ w3.heap.size := by rw [← hsz2]; exact hb3.size
  have hbx := below_lit w3 (.cells #[.int .i64 kr, .int .i64 nr, .slice va vl vc] 45)
  have hb4 := hb3.trans (hbx.mono hb3.size)
  have HB4 := Lib.hid (HB.out.trans (hb4.mono HB.out.size))
  have HR1 := Lib.hid ((hb4.block (w.heap.size + 1) (by omega)).trans HR1.out)
  have HR4 := Lib.hid (heap_alloc_new w3 (.cells #[.int .i64 kr, .int .i64 nr, .slice va vl vc] 45))
  have HP := Lib.hid (lvP_move (w := w3) (w' := w3.alloc (.cells #[.int .i64 kr, .int .i64 nr, .slice va vl vc] 45)) (Q := fun b => w.heap.size + 1 + 1 ≤ b) (fun b hlt hp => ⟨by omega, hbx.block b hlt⟩) hbx.size _ _ hs9)
  clear hs9 hb3 hbx hb4 hkr hnr hir CI
  have hz4 : (w3.alloc (.cells #[.int .i64 kr, .int .i64 nr, .slice va vl vc] 45)).heap.size = w3.heap.size + 1 := by simp
  obtain ⟨W4, hW4⟩ : ∃ W, w3.alloc (.cells #[.int .i64 kr, .int .i64 nr, .slice va vl vc] 45) = W := ⟨_, rfl⟩
  rw [hW4] at HB4 HR4 HP HR1 hz4
  have hbk4 := (HB4.out.block Bk hlk).trans HBK.out
  have c00 : W4.cell? ⟨Bk, 0, none⟩ = some (.bool true) := cell_of_row W4 Bk 0 _ _ (0, 0) hbk4
  have f00 := frozen0 (p := 0) hbk4
  rw [← hW4] at c00 f00
  have hsame : ∀ b, (W4.setCell ⟨Bk, 0, none⟩ (.bool true)).heap[b]? = W4.heap[b]? := fun b => by
    by_cases hbk : b = Bk
    · subst hbk
      rw [setCell_arr hbk4, hbk4]
      rfl
    · exact setCell_far _ _ _ _ hbk
  have hszs : (W4.setCell ⟨Bk, 0, none⟩ (.bool true)).heap.size = W4.heap.size := setCell_size _ _ _
  have HB5 := Lib.hid (show Below w.heap.size w (W4.setCell ⟨Bk, 0, none⟩ (.bool true)) from ⟨HB4.out.os, HB4.out.tape, HB4.out.output, by rw [hszs]; exact HB4.out.size, fun b hb => (hsame b).trans (HB4.out.block b hb)⟩)
  have HP5 := Lib.hid (lvP_move (w := W4) (w' := W4.setCell ⟨Bk, 0, none⟩ (.bool true)) (Q := fun b => w.heap.size + 1 + 1 ≤ b) (fun b _ hp => ⟨hp, hsame b⟩) (by rw [hszs]; exact Nat.le_refl _) _ _ HP.out)
  have HR15 := Lib.hid ((hsame _).trans HR1.out)
  have HR45 := Lib.hid ((hsame _).trans HR4.out)
  clear hsame hszs hbk4
  obtain ⟨W5, hW5⟩ : ∃ W, W4.setCell ⟨Bk, 0, none⟩ (.bool true) = W := ⟨_, rfl⟩
  rw [hW5] at HB5 HP5 HR15 HR45
  have d0 := cell_of_row W5 _ 0 _ _ (0, 0) HR45.out
  have d1 := cell_of_row W5 _ 1 _ _ (0, 0) HR45.out
  have d2 := cell_of_row W5 _ 2 _ _ (0, 0) HR45.out
  have hrz := HR15.out
  have e0 := cell_of_row W5 _ 0 _ _ (0, 0) hrz
  have g0 := frozen0 (p := 0) hrz
  have e1 := cell_of_row W5 _ 1 _ _ (0, 0) hrz
  have g1 := frozen0 (p := 1) hrz
  have e2 := cell_of_row W5 _ 2 _ _ (0, 0) hrz
  have g2 := frozen0 (p := 2) hrz
  rw [← hW5, ← hW4] at d0 d1 d2 e0 e1 e2 g0 g1 g2
  have HW5 := Lib.hid (show (w3.alloc (.cells #[.int .i64 kr, .int .i64 nr, .slice va vl vc] 45)).setCell ⟨Bk, 0, none⟩ (.bool true) = W5 by rw [hW4]; exact hW5)
  clear hW4 hW5
  go_wp2_with fail
  rw [HW5.out]
  refine bodyPost_ret (results_cell_row rfl _ _ (w.heap.size + 1) 45 _ (0, 0) _ rfl (set3_row hrz) Tryz.underlying45 rfl (by rw [hi0, Option.map_some, hz1]; rfl)) rfl ?_
  refine ⟨_, by rw [HKR.out, HNR.out], lvP_move (w := W5) (fun b _ hp => ⟨by omega, ?_⟩) ?_ _ _ HP5.out, below_set (below_set (below_set HB5.out _ _ ?_) _ _ ?_) _ _ ?_⟩
  · rw [setCell_far _ _ _ _ ?_, setCell_far _ _ _ _ ?_, setCell_far _ _ _ _ ?_] <;> (show b ≠ w.heap.size + 1; omega)
  · rw [setCell_size, setCell_size, setCell_size]; exact Nat.le_refl _
  all_goals (show w.heap.size ≤ w.heap.size + 1; omega)
set_option maxRecDepth 100000 in
set_option maxHeartbeats 2000000 in
theorem eachl_put (Bb Bk : Nat) (g : Lv → Lv) (ts : List Lv) (A : Option Addr) (len cap : Nat) (w : World) (hl : ts.length = len) (hlc : len ≤ cap) (h1000 : len ≤ 100000) (hs : LsV w A 0 ts)
    (CE : ∀ w', Below w.heap.size w w' → ∀ a, a ∈ ts → ∀ v, LvV w' a v → Calls Tryz.prog 50 #[v, .pointer (some ⟨Bb, 0, none⟩), .pointer (some ⟨Bk, 0, none⟩)] w' (LvRet w' (g a))) :
    Calls Tryz.prog 54 #[.slice A len cap, .func (.func 50) #[] #[.pointer (some ⟨Bb, 0, none⟩), .pointer (some ⟨Bk, 0, none⟩)]] w (fun e w' => ∃ V, e = .returned V ∧ OwnL w' w.heap.size V (ts.map g) ∧ Below w.heap.size w w') := by
  obtain ⟨i0, hi0, hz0, hz1, hz2⟩ := info_parts infoLv
  have HCE := Lib.hid CE
  have HS := Lib.hid hs
  have HN := Lib.hid hl
  have HUL : Hid ((ts.map g).length = len) := by
    have : (ts.map g).length = len := by rw [List.length_map, hl]
    exact this
  clear CE hs hl
  go_enter Tryz.func54, Tryz.ntmps54
  go_wp2_with fail
  go_loopw [5, 10] (fun V i wr => ∃ j : Nat, j ≤ len ∧ i = .int .i64 j ∧ OwnL wr w.heap.size V ((ts.map g).take j) ∧ Below w.heap.size w wr) (fun _ i _ => len - (intOf i).toNat)
  case atStart => exact ⟨0, Nat.zero_le _, rfl, ownL_nil _ _, Below.refl _ _⟩
  case round =>
    obtain ⟨j, hj, rfl, hown, hb⟩ := hrel
    have HOWN := Lib.hid hown
    have HBW := Lib.hid hb
    have HSW := Lib.hid (lsV_below hb _ _ _ HS.out)
    clear hown hb
    by_cases hlt : j < len
    · have hx1 : j < ts.length := by rw [HN.out]; exact hlt
      have hln : decide ((j : Int) < (len : Int)) = true := by simp; omega
      obtain ⟨b, o, s, rfl, hbs, hc0, hc1, hc2, hls⟩ := lsV_get HSW.out j hx1
      obtain ⟨sa, sl, sc, rfl⟩ := lvS_slice hls
      have HLS : Hid (LvV wr ts[j] (.agg #[.int .i64 (kindOf ts[j]), .int .i64 (numOf ts[j]), .slice sa sl sc])) := ⟨_, rfl, hls⟩
      have HTK : Hid ((ts.map g).take (j + 1) = (ts.map g).take j ++ [g ts[j]]) := by
        have : (ts.map g).take (j + 1) = (ts.map g).take j ++ [g ts[j]] := by rw [List.take_add_one, List.getElem?_eq_getElem (by rw [List.length_map]; exact hx1), List.getElem_map]; rfl
        exact this
      have HME := Lib.hid (List.getElem_mem hx1)
      have q1 : (0 : Int) ≤ (j : Int) := by omega
      have q2 : (j : Int) < (len : Int) := by omega
      generalize kindOf ts[j] = ki at *
      generalize numOf ts[j] = nu at *
      generalize ts[j] = tj at *
      clear hls
      obtain ⟨ss, hsl, hso, hsk⟩ := HOWN.out
      have hjl : ((ts.map g).take j).length = j := by rw [List.length_take, HUL.out]; omega
      rw [hjl] at hso
      have HO := Lib.hid hso
      have HSL := Lib.hid hsl
      have HSK := Lib.hid hsk
      have HJL := Lib.hid hjl
      have hbo1 : j + 1 ≤ maxLen := by unfold maxLen; omega
      have hbo2 : (j + 1) * 40 ≤ 140737488355328 := by omega
      clear hso hsl hsk hjl
      go_wp2_with fail
      have hbl := below_lit wr (.cells #[.int .i64 ki, .int .i64 nu, .slice sa sl sc] 45)
      have HBL := Lib.hid hbl
      have HHL := Lib.hid (HLS.out.below hbl)
      generalize wr.alloc (.cells #[.int .i64 ki, .int .i64 nu, .slice sa sl sc] 45) = W1 at *
      clear hbl
      refine (HCE.out W1 (HBW.out.trans (HBL.out.mono HBW.out.size)) tj HME.out _ HHL.out).mono ?_
      rintro e wA ⟨s9, rfl, hs9, hbA⟩
      have HBA := Lib.hid (HBL.out.trans (hbA.mono HBL.out.size))
      have HS9 : Hid (LvP wA (fun b => wr.heap.size ≤ b) (g tj) s9) := lvP_move (w := wA) (w' := wA) (fun b _ hp => ⟨Nat.le_trans HBL.out.size hp, rfl⟩) (Nat.le_refl _) _ _ hs9
      obtain ⟨k9, hk9⟩ : ∃ k, kindOf (g tj) = k := ⟨_, rfl⟩
      obtain ⟨n9, hn9⟩ : ∃ n, numOf (g tj) = n := ⟨_, rfl⟩
      have HK9 := Lib.hid hk9
      have HN9 := Lib.hid hn9
      rw [hk9, hn9]
      have HBAS : Hid (w.heap.size ≤ wA.heap.size) := Nat.le_trans HBW.out.size HBA.out.size
      clear hs9 hbA hc0 hc1 hc2 hk9 hn9
      go_wp2_with (first | (refine wpList_append_lies _ rfl (.tmp 14) (.tmp 18) 22 rfl w.heap.size 45 i0 (.agg #[.int .i64 0, .int .i64 0, .slice none 0 0]) 3 40 Tryz.underlying22 hi0 hz0 hz1 hz2 rfl (by decide) u5 j (cells3 ((ts.map g).take j) ss) (by simp [Act.eval]) (own_alloc (own_below HO.out HBA.out) _) ⟨wA.heap.size, 0, none⟩ 1 1 [.int .i64 k9, .int .i64 n9, s9] (by simp [Act.eval]) rfl (World.news_of_block (heap_alloc_new wA _)) (three_oneCell (lvP_one HS9.out)) (by decide) hbo1 hbo2 (by have := HBAS.out; simp; omega) (wA.heap.size + 1) (by simp) ?_; intro g9 cap' w2 hown2 hgrow hat hlt2))
      have hA : Below w.heap.size w wA := HBW.out.trans (HBA.out.mono HBW.out.size)
      refine ⟨⟨j + 1, by omega, by go_num, ?_, (hA.alloc hA.size _).grown hgrow (by have := hA.size; simp; omega) (fun k e => own_block HO.out k e)⟩, by simp [intOf]; omega⟩
      have hst := ownL_step (w0 := wr) (w1 := wA) (w2 := w2) (base := w.heap.size) (V := u5) (ts := (ts.map g).take j) (ss := ss) (a := g tj) (s := s9) (H := wA.heap.size + 1) (O := .cells #[.int .i64 k9, .int .i64 n9, s9] 45) (g := g9) (cap := cap') HSL.out (by rw [HJL.out]; exact HO.out) HSK.out HBW.out.size HBA.out HS9.out (by simp) (by rw [HJL.out, HK9.out, HN9.out]; exact hown2) hgrow hat
      rw [HJL.out] at hst
      rw [HTK.out]
      exact hst
    · obtain rfl : j = len := by omega
      have hln : decide ((j : Int) < (j : Int)) = false := by simp
      have HF : Hid ((ts.map g).take j = ts.map g) := by
        have : (ts.map g).take j = ts.map g := List.take_of_length_le (by rw [HUL.out]; exact Nat.le_refl _)
        exact this
      go_wp2_with fail
      go_ret
      exact ⟨_, rfl, by rw [← HF.out]; exact HOWN.out, HBW.out⟩
def fL (bs : List Lv) : Int → Int → List Lv → Int → Int × List Lv := fun _ n ls _ => (n, ls.map (instF bs))
def cL (bs : List Lv) : Int → Int → List Lv → Int → Prop := fun _ _ ls _ => ∀ l ∈ ls, instB bs l = true
theorem set3of5 {w : World} {b : Nat} {x0 x1 x2 x3 x4 y : Value} {T : TypeId} (h : w.heap[b]? = some (.cells #[x0, x1, x2, x3, x4] T (0, 0))) : (w.setCell ⟨b, 3, none⟩ y).heap[b]? = some (.cells #[x0, x1, x2, y, x4] T (0, 0)) := by
  unfold World.setCell
  simp [Array.getElem?_modify, h]
set_option maxRecDepth 100000 in
set_option maxHeartbeats 4000000 in
theorem chg_levels (w0 : World) (Bc Bb Bk : Nat) (bs : List Lv) (Vb : Value) (hcell : w0.heap[Bc]? = some (.cells #[.func (.func 50) #[] #[.pointer (some ⟨Bb, 0, none⟩), .pointer (some ⟨Bk, 0, none⟩)]] 68 (0, 0))) (hbb : w0.heap[Bb]? = some (.cells #[Vb] 22 (0, 0))) (hvb : LvL w0 Vb bs) (hmb : ∀ b ∈ bs, nodes b ≤ 1000) (hbk : w0.heap[Bk]? = some (.cells #[.bool true] 4 (0, 0))) : ChgC w0 53 #[.pointer (some ⟨Bc, 0, none⟩)] (fL bs) (cL bs) := by
  intro w1 Bs Bo k n m V ls d hb hs0 hso hr hl hn hlen hC
  have hlc0 : Bc < w0.heap.size := (Array.getElem?_eq_some_iff.1 hcell).1
  have hlb0 : Bb < w0.heap.size := (Array.getElem?_eq_some_iff.1 hbb).1
  have hlk0 : Bk < w0.heap.size := (Array.getElem?_eq_some_iff.1 hbk).1
  have hs01 := hb.size
  have hBo : Bo < w1.heap.size := (Array.getElem?_eq_some_iff.1 hr).1
  have hBc : Bc < w1.heap.size := by omega
  have HBB := Lib.hid ((hb.block Bb hlb0).trans hbb)
  have HBK := Lib.hid ((hb.block Bk hlk0).trans hbk)
  have hcc := cell_of_row w1 Bc 0 _ _ (0, 0) ((hb.block Bc hlc0).trans hcell)
  have HVB := Lib.hid (hvb.below hb)
  have h2 := lvS_of _ _ hl
  obtain ⟨la, ll, lc, rfl⟩ := lvP_slice hl
  have hc3' := cell_of_row w1 Bo 3 _ _ (0, 0) hr
  have HRR := Lib.hid hr
  have HLL := Lib.hid hlen
  rw [LvS] at h2
  obtain ⟨A, len, cap, e, h1, hlc, _, _, hs⟩ := h2
  cases e
  have CE := Lib.hid (fun (w' : World) (hw : Below w1.heap.size w1 w') => eachl_put Bb Bk (instF bs) ls la ll lc w' h1 hlc (by omega) (lsV_below hw _ _ _ hs) (fun w2 hw2 a ha v hv => put_is bs Bb Bk a v Vb w2 hv (hn a ha) (((hw.trans (hw2.mono hw.size)).block Bb (by omega)).trans HBB.out) (HVB.out.below (hw.trans (hw2.mono hw.size))) hmb (((hw.trans (hw2.mono hw.size)).block Bk (by omega)).trans HBK.out) (hC a ha)))
  have HSB := Lib.hid hso
  have HS0 := Lib.hid hs0
  clear hl hr hcell hb hbb hvb hmb hbk hn hlen hC h1 hlc hs hs01 hso hs0
  show Calls Tryz.prog 53 #[.pointer (some ⟨Bo, 0, none⟩), .int .i64 d, .pointer (some ⟨Bc, 0, none⟩)] w1 _
  go_enter Tryz.func53, Tryz.ntmps53
  go_wp2_with fail
  refine region_E (S := fun W' => W'.cell? ⟨Bo, 3, none⟩ = some (.slice la ll lc) ∧ W'.cell? ⟨Bc, 0, none⟩ = some (.func (.func 50) #[] #[.pointer (some ⟨Bb, 0, none⟩), .pointer (some ⟨Bk, 0, none⟩)])) 9 (by kernel_rfl) ?_
  refine (fun (hHeld : (fun W' : World => W'.cell? ⟨Bo, 3, none⟩ = some (.slice la ll lc) ∧ W'.cell? ⟨Bc, 0, none⟩ = some (.func (.func 50) #[] #[.pointer (some ⟨Bb, 0, none⟩), .pointer (some ⟨Bk, 0, none⟩)])) _) => ?_) (⟨hc3', hcc⟩)
  refine take_E (i := 0) (v := ?_) 8 [7, 0] rfl (by kernel_rfl) (by kernel_rfl) (by kernel_rfl) (by kernel_rfl) rfl (by decide) (by kernel_rfl) rfl (fun _ _ _ h => h) (by rfl) ?_ hHeld ?_
  rotate_left
  · intro w hSw
    (try dsimp only at hSw)
    go_simp
    try with_reducible rfl
  try simp only [Act.put, List.setIfInBounds_toArray, List.set_cons_zero, List.set_cons_succ]
  refine take_E (i := 1) (v := ?_) 6 [4, 3, 2, 1] rfl (by kernel_rfl) (by kernel_rfl) (by kernel_rfl) (by kernel_rfl) rfl (by decide) (by kernel_rfl) rfl (fun _ _ _ h => h) (by rfl) ?_ hHeld ?_
  rotate_left
  · intro w hSw
    (try dsimp only at hSw)
    go_simp
    try with_reducible rfl
  try simp only [Act.put, List.setIfInBounds_toArray, List.set_cons_zero, List.set_cons_succ]
  refine take_E (i := 2) (v := ?_) 6 [4, 3, 2] rfl (by kernel_rfl) (by kernel_rfl) (by kernel_rfl) (by kernel_rfl) rfl (by decide) (by kernel_rfl) rfl (fun _ _ _ h => h) (by rfl) ?_ hHeld ?_
  rotate_left
  · intro w hSw
    (try dsimp only at hSw)
    go_simp
    try with_reducible rfl
  try simp only [Act.put, List.setIfInBounds_toArray, List.set_cons_zero, List.set_cons_succ]
  refine take_E (i := 3) (v := ?_) 6 [4, 3] rfl (by kernel_rfl) (by kernel_rfl) (by kernel_rfl) (by kernel_rfl) rfl (by decide) (by kernel_rfl) rfl (fun _ _ _ h => h) (by rfl) ?_ hHeld ?_
  rotate_left
  · intro w hSw
    (try dsimp only at hSw)
    go_simp
    try with_reducible rfl
  try simp only [Act.put, List.setIfInBounds_toArray, List.set_cons_zero, List.set_cons_succ]
  refine take_E (i := 4) (v := ?_) 6 [4] rfl (by kernel_rfl) (by kernel_rfl) (by kernel_rfl) (by kernel_rfl) rfl (by decide) (by kernel_rfl) rfl (fun _ _ _ h => h) (by rfl) ?_ hHeld ?_
  rotate_left
  · intro w hSw
    (try dsimp only at hSw)
    go_simp
    try with_reducible rfl
  try simp only [Act.put, List.setIfInBounds_toArray, List.set_cons_zero, List.set_cons_succ]
  refine take_E (i := 5) (v := ?_) 6 [5] rfl (by kernel_rfl) (by kernel_rfl) (by kernel_rfl) (by kernel_rfl) rfl (by decide) (by kernel_rfl) rfl (fun _ _ _ h => h) (by rfl) ?_ hHeld ?_
  rotate_left
  · intro w hSw
    (try dsimp only at hSw)
    go_simp
    try with_reducible rfl
  try simp only [Act.put, List.setIfInBounds_toArray, List.set_cons_zero, List.set_cons_succ]
  refine only_E (i := 6) rfl (by kernel_rfl) (fun K hK => ?_)
  clear hHeld
  go_simp
  go_at_call 54
  refine (CE.out _ (Below.refl _ _).drew).mono ?_
  rintro e w5 ⟨V5, rfl, hown5, hb5⟩
  obtain ⟨va, vl, vc, rfl⟩ := ownL_slice hown5
  have HB5 := Lib.hid ((Below.refl w1.heap.size w1).drew.trans hb5)
  have HP5 := Lib.hid (ownL_lvP hown5 (by rw [List.length_map]; have := HLL.out; omega) 0 0)
  have hro5 := (HB5.out.block Bo hBo).trans HRR.out
  have c3 := cell_of_row w5 Bo 3 _ _ (0, 0) hro5
  have f3 := frozen0 (p := 3) hro5
  have HRO5 := Lib.hid hro5
  clear hown5 hb5 hro5

  try (go_wp2_with fail)
  refine (fun (hHeld : (fun W' : World => W'.cell? ⟨Bo, 3, none⟩ = some (.slice la ll lc) ∧ W'.cell? ⟨Bc, 0, none⟩ = some (.func (.func 50) #[] #[.pointer (some ⟨Bb, 0, none⟩), .pointer (some ⟨Bk, 0, none⟩)])) _) => hK.out _ _ (fun _ => hHeld) ?_) (⟨(HB5.out.cell (p := ⟨Bo, 3, none⟩) hBo).trans hc3', (HB5.out.cell (p := ⟨Bc, 0, none⟩) hBc).trans hcc⟩)
  clear hK K
  try simp only [Act.put, List.setIfInBounds_toArray, List.set_cons_zero, List.set_cons_succ]
  refine take_E (i := 7) (v := ?_) 8 [7] rfl (by kernel_rfl) (by kernel_rfl) (by kernel_rfl) (by kernel_rfl) rfl (by decide) (by kernel_rfl) rfl (fun _ _ _ h => h) (by rfl) ?_ hHeld ?_
  rotate_left
  · intro w hSw
    (try dsimp only at hSw)
    go_simp
    try with_reducible rfl
  try simp only [Act.put, List.setIfInBounds_toArray, List.set_cons_zero, List.set_cons_succ]
  refine take_E (i := 8) (v := ?_) 8 [] rfl (by kernel_rfl) (by kernel_rfl) (by kernel_rfl) (by kernel_rfl) rfl (by decide) (by kernel_rfl) rfl (fun _ _ _ h => h) (by rfl) ?_ hHeld ?_
  rotate_left
  · intro w hSw
    (try dsimp only at hSw)
    go_simp
    try with_reducible rfl
  try simp only [Act.put, List.setIfInBounds_toArray, List.set_cons_zero, List.set_cons_succ]
  refine only_E (i := 9) rfl (by kernel_rfl) (fun K hK => ?_)
  clear hHeld
  go_simp
  go_simp
  refine hK.out _ _ (fun h => by cases h) ?_
  clear hK K
  refine done_E (by kernel_rfl) ?_ _
  go_wp2_with fail
  go_end0
  have hne : ∀ b, w1.heap.size ≤ b → b ≠ Bo := fun b h => by omega
  refine ⟨⟨_, rfl⟩, .slice va vl vc, ?_, ?_, ?_⟩
  · exact set3of5 HRO5.out
  · have hBs : Bs ≤ w1.heap.size := by have := HSB.out; omega
    refine lvP_move (w := w5) (fun b hlt hp => ⟨?_, ?_⟩) ?_ _ _ HP5.out
    · have h : w1.heap.size ≤ b := hp
      exact ⟨by omega, hne b h⟩
    · have h : w1.heap.size ≤ b := hp
      exact setCell_far _ _ _ _ (hne b h)
    · show w5.heap.size ≤ (w5.setCell ⟨Bo, 3, none⟩ (.slice va vl vc)).heap.size
      rw [setCell_size]
      exact Nat.le_refl _
  · exact set1_grown (p := 3) (x := .slice va vl vc) (grown_of (some Bo) HB5.out)
end Trm
end Go.Proofs.YtbkdecgfiiajnaaGreatDoor
/-
  The contract of the program's function Levels, where every level can be put in.
  Conditions: the term lies in memory as told by 'TmV', the levels by 'LvL'; it has at most 100000 nodes, each level at most 1000.
-/
namespace Go.Proofs.YtbkdecgfiiajnaaGreatDoor
open Go.RowKit
open Lvl
namespace Trm
theorem run_store_fn (P : Program) (a : Addr) (fn : Fn) (first captured : Array Value) (m : Mode) (w : World) : (store a (.func fn first captured) m).run P w = stored P w a (.func fn first captured) m := run_store P w a _ m rfl
attribute [local go_sem] run_store_fn
set_option maxRecDepth 100000 in
set_option maxHeartbeats 4000000 in
theorem levels_is (RN : ByteArray → Bool) (bs : List Lv) (t : Tm) (v Vb : Value) (w : World) (hv : TmV w t v) (hm : tnodes t ≤ 100000) (hnm : ∀ q, q ∈ pre t 0 0 → (tmOf q.1).size ≤ 140737488355328) (CN : NameC w RN) (hvb : LvL w Vb bs) (hmb : ∀ b ∈ bs, nodes b ≤ 1000)
    (hr : rightT RN bs.length t 1125899906842624 = true) (hok : okC (cL bs) t 0) (hT : tnodes (remT (fL bs) t 0) ≤ 2000) :
    Calls Tryz.prog 25 #[v, Vb] w (fun e w' => ∃ l s, e = .returned (.tuple #[tv (remT (fL bs) t 0) l s, .bool true]) ∧ TmP w' (fun b => w.heap.size ≤ b) (remT (fL bs) t 0) l s ∧ Below w.heap.size w w') := by
  obtain ⟨i0, hi0, hz0, hz1, hz2⟩ := info_parts infoTm
  have hvb2 := hvb
  unfold LvL at hvb2
  rw [LvS] at hvb2
  obtain ⟨ba, bl, bc, rfl, hbl, _⟩ := hvb2
  have HVB := Lib.hid hvb
  have HMB := Lib.hid hmb
  have HNM := Lib.hid hnm
  have HCN := Lib.hid CN
  have HRI := Lib.hid hr
  have HOK := Lib.hid hok
  have HTN := Lib.hid hT
  have HBL := Lib.hid hbl
  clear hvb hmb hnm CN hr hok hT hbl
  obtain ⟨l, s, rfl, ht⟩ := hv
  obtain ⟨⟨la, ll, lc, rfl⟩, sa, sl, sc, rfl⟩ := tmP_slices ht
  have HTT := Lib.hid ht
  obtain ⟨k, hk⟩ : ∃ k, tkOf t = k := ⟨_, rfl⟩
  obtain ⟨n, hn⟩ : ∃ n, tnOf t = n := ⟨_, rfl⟩
  obtain ⟨m, hmm⟩ : ∃ m, tmOf t = m := ⟨_, rfl⟩
  dsimp only [tv]
  rw [hk, hn, hmm]
  have HK := Lib.hid hk
  have HNN := Lib.hid hn
  have HMM := Lib.hid hmm
  have HM := Lib.hid hm
  clear hk hn hmm ht hm
  go_enter Tryz.func25, Tryz.ntmps25
  go_wp2_with fail
  have z1 : (w.alloc (.cells #[.int .i64 k, .int .i64 n, .string m, .slice la ll lc, .slice sa sl sc] 25)).heap.size = w.heap.size + 1 := by simp
  have z2 : ((w.alloc (.cells #[.int .i64 k, .int .i64 n, .string m, .slice la ll lc, .slice sa sl sc] 25)).alloc (.cells #[.slice ba bl bc] 22)).heap.size = w.heap.size + 1 + 1 := by simp
  have z3 : (((w.alloc (.cells #[.int .i64 k, .int .i64 n, .string m, .slice la ll lc, .slice sa sl sc] 25)).alloc (.cells #[.slice ba bl bc] 22)).alloc (.cells #[.int .i64 0, .int .i64 0, .string ⟨#[]⟩, .slice none 0 0, .slice none 0 0] 25)).heap.size = w.heap.size + 1 + 1 + 1 := by simp
  have r0 : (w.alloc (.cells #[.int .i64 k, .int .i64 n, .string m, .slice la ll lc, .slice sa sl sc] 25)).heap[w.heap.size]? = some (Obj.cells #[.int .i64 k, .int .i64 n, .string m, .slice la ll lc, .slice sa sl sc] 25 (0, 0)) := by
    have := heap_alloc_new w (.cells #[.int .i64 k, .int .i64 n, .string m, .slice la ll lc, .slice sa sl sc] 25)
    exact this
  have r1 : ((w.alloc (.cells #[.int .i64 k, .int .i64 n, .string m, .slice la ll lc, .slice sa sl sc] 25)).alloc (.cells #[.slice ba bl bc] 22)).heap[w.heap.size + 1]? = some (Obj.cells #[.slice ba bl bc] 22 (0, 0)) := by
    have := heap_alloc_new (w.alloc (.cells #[.int .i64 k, .int .i64 n, .string m, .slice la ll lc, .slice sa sl sc] 25)) (.cells #[.slice ba bl bc] 22)
    rwa [z1] at this
  have r2 : (((w.alloc (.cells #[.int .i64 k, .int .i64 n, .string m, .slice la ll lc, .slice sa sl sc] 25)).alloc (.cells #[.slice ba bl bc] 22)).alloc (.cells #[.int .i64 0, .int .i64 0, .string ⟨#[]⟩, .slice none 0 0, .slice none 0 0] 25)).heap[w.heap.size + 1 + 1]? = some (Obj.cells #[.int .i64 0, .int .i64 0, .string ⟨#[]⟩, .slice none 0 0, .slice none 0 0] 25 (0, 0)) := by
    have := heap_alloc_new ((w.alloc (.cells #[.int .i64 k, .int .i64 n, .string m, .slice la ll lc, .slice sa sl sc] 25)).alloc (.cells #[.slice ba bl bc] 22)) (.cells #[.int .i64 0, .int .i64 0, .string ⟨#[]⟩, .slice none 0 0, .slice none 0 0] 25)
    rwa [z2] at this
  have HB := Lib.hid (((below_lit w (.cells #[.int .i64 k, .int .i64 n, .string m, .slice la ll lc, .slice sa sl sc] 25)).trans ((below_lit (w.alloc (.cells #[.int .i64 k, .int .i64 n, .string m, .slice la ll lc, .slice sa sl sc] 25)) (.cells #[.slice ba bl bc] 22)).mono (below_lit w (.cells #[.int .i64 k, .int .i64 n, .string m, .slice la ll lc, .slice sa sl sc] 25)).size)).trans ((below_lit ((w.alloc (.cells #[.int .i64 k, .int .i64 n, .string m, .slice la ll lc, .slice sa sl sc] 25)).alloc (.cells #[.slice ba bl bc] 22)) (.cells #[.int .i64 0, .int .i64 0, .string ⟨#[]⟩, .slice none 0 0, .slice none 0 0] 25)).mono ((below_lit w (.cells #[.int .i64 k, .int .i64 n, .string m, .slice la ll lc, .slice sa sl sc] 25)).trans ((below_lit (w.alloc (.cells #[.int .i64 k, .int .i64 n, .string m, .slice la ll lc, .slice sa sl sc] 25)) (.cells #[.slice ba bl bc] 22)).mono (below_lit w (.cells #[.int .i64 k, .int .i64 n, .string m, .slice la ll lc, .slice sa sl sc] 25)).size)).size))
  have HR0 := Lib.hid ((heap_alloc_old ((w.alloc (.cells #[.int .i64 k, .int .i64 n, .string m, .slice la ll lc, .slice sa sl sc] 25)).alloc (.cells #[.slice ba bl bc] 22)) (.cells #[.int .i64 0, .int .i64 0, .string ⟨#[]⟩, .slice none 0 0, .slice none 0 0] 25) (by rw [z2]; omega)).trans ((heap_alloc_old (w.alloc (.cells #[.int .i64 k, .int .i64 n, .string m, .slice la ll lc, .slice sa sl sc] 25)) (.cells #[.slice ba bl bc] 22) (by rw [z1]; omega)).trans (r0)))
  have HR1 := Lib.hid ((heap_alloc_old ((w.alloc (.cells #[.int .i64 k, .int .i64 n, .string m, .slice la ll lc, .slice sa sl sc] 25)).alloc (.cells #[.slice ba bl bc] 22)) (.cells #[.int .i64 0, .int .i64 0, .string ⟨#[]⟩, .slice none 0 0, .slice none 0 0] 25) (by rw [z2]; omega)).trans (r1))
  have HR2 := Lib.hid (r2)
  clear r0 r1 r2
  generalize (((w.alloc (.cells #[.int .i64 k, .int .i64 n, .string m, .slice la ll lc, .slice sa sl sc] 25)).alloc (.cells #[.slice ba bl bc] 22)).alloc (.cells #[.int .i64 0, .int .i64 0, .string ⟨#[]⟩, .slice none 0 0, .slice none 0 0] 25)) = W3 at *
  have HZ := Lib.hid z3
  clear z1 z2 z3
  have hrm := right_is RN t _ W3 ⟨_, _, rfl, tmP_below HB.out HTT.out⟩ HM.out HNM.out (HCN.out.below HB.out) bs.length 1125899906842624 true HRI.out
  dsimp only [tv] at hrm
  rw [HK.out, HNN.out, HMM.out, HBL.out] at hrm
  refine hrm.mono ?_
  clear hrm
  rintro e w4 ⟨rfl, hb4⟩
  have hsz3 := HZ.out
  have hs4 : w.heap.size + 1 + 1 + 1 ≤ w4.heap.size := by rw [← hsz3]; exact hb4.size
  have hbx := below_2 w4 (.cells #[.bool true] 4) (.cells #[.func (.func 50) #[] #[.pointer (some ⟨w.heap.size + 1, 0, none⟩), .pointer (some ⟨w4.heap.size, 0, none⟩)]] 68)
  have hb6 := hb4.trans (hbx.mono hb4.size)
  have HB6 := Lib.hid (HB.out.trans (hb6.mono HB.out.size))
  have HR06 := Lib.hid ((hb6.block w.heap.size (by omega)).trans HR0.out)
  have HR16 := Lib.hid ((hb6.block (w.heap.size + 1) (by omega)).trans HR1.out)
  have HR26 := Lib.hid ((hb6.block (w.heap.size + 1 + 1) (by omega)).trans HR2.out)
  have hz5 : (w4.alloc (.cells #[.bool true] 4)).heap.size = w4.heap.size + 1 := by simp
  have hz6 : ((w4.alloc (.cells #[.bool true] 4)).alloc (.cells #[.func (.func 50) #[] #[.pointer (some ⟨w.heap.size + 1, 0, none⟩), .pointer (some ⟨w4.heap.size, 0, none⟩)]] 68)).heap.size = w4.heap.size + 1 + 1 := by simp
  have HROK := Lib.hid ((heap_alloc_old (w4.alloc (.cells #[.bool true] 4)) (.cells #[.func (.func 50) #[] #[.pointer (some ⟨w.heap.size + 1, 0, none⟩), .pointer (some ⟨w4.heap.size, 0, none⟩)]] 68) (r := w4.heap.size) (by omega)).trans (heap_alloc_new w4 (.cells #[.bool true] 4)))
  have HRPB := Lib.hid (row_2 w4 (.cells #[.bool true] 4) (.cells #[.func (.func 50) #[] #[.pointer (some ⟨w.heap.size + 1, 0, none⟩), .pointer (some ⟨w4.heap.size, 0, none⟩)]] 68))
  obtain ⟨a0, a1, a2, a3, a4⟩ := five_cells HR06.out
  clear hb4 hbx hb6 HR0 HR1 HR2 HB
  go_wp2_with fail
  generalize ((w4.alloc (.cells #[.bool true] 4)).alloc (.cells #[.func (.func 50) #[] #[.pointer (some ⟨w.heap.size + 1, 0, none⟩), .pointer (some ⟨w4.heap.size, 0, none⟩)]] 68)) = W6 at *
  clear a0 a1 a2 a3 a4
  have hch := chg_levels W6 (w4.heap.size + 1) (w.heap.size + 1) w4.heap.size bs (.slice ba bl bc) HRPB.out HR16.out (HVB.out.below HB6.out) HMB.out HROK.out
  have hrm := rem_levels W6 (w4.heap.size + 1) (fL bs) (cL bs) (Lib.hid hch) (tnodes t) t 0 _ W6 (Nat.le_refl _) HM.out (by have := HM.out; omega) HOK.out (Below.refl _ _) ⟨_, _, rfl, tmP_below HB6.out HTT.out⟩
  dsimp only [tv] at hrm
  rw [HK.out, HNN.out, HMM.out] at hrm
  refine hrm.mono ?_
  clear hrm hch
  rintro e w7 ⟨l9, s9, rfl, ht9, hb7⟩
  obtain ⟨⟨oa, ol, oc, rfl⟩, pa, pl, pc, rfl⟩ := tmP_slices ht9
  rw [Int.natCast_zero] at ht9
  rw [Int.natCast_zero]
  obtain ⟨ko, hko⟩ : ∃ q, tkOf (remT (fL bs) t 0) = q := ⟨_, rfl⟩
  obtain ⟨no, hno⟩ : ∃ q, tnOf (remT (fL bs) t 0) = q := ⟨_, rfl⟩
  obtain ⟨mo, hmo⟩ : ∃ q, tmOf (remT (fL bs) t 0) = q := ⟨_, rfl⟩
  dsimp only [tv]
  rw [hko, hno, hmo]
  have HOO := Lib.hid (And.intro hko (And.intro hno hmo))
  clear hko hno hmo
  have hs7 : w4.heap.size + 1 + 1 ≤ w7.heap.size := by rw [← hz6]; exact hb7.size
  have hbx := below_lit w7 (.cells #[.int .i64 ko, .int .i64 no, .string mo, .slice oa ol oc, .slice pa pl pc] 25)
  have hb8 := hb7.trans (hbx.mono hb7.size)
  have HB8 := Lib.hid (HB6.out.trans (hb8.mono HB6.out.size))
  have HR28 := Lib.hid ((hb8.block (w.heap.size + 1 + 1) (by omega)).trans HR26.out)
  have hok8 := (hb8.block w4.heap.size (by omega)).trans HROK.out
  have c0 : (w7.alloc (.cells #[.int .i64 ko, .int .i64 no, .string mo, .slice oa ol oc, .slice pa pl pc] 25)).cell? ⟨w4.heap.size, 0, none⟩ = some (.bool true) := cell_of_row _ _ 0 _ _ (0, 0) hok8
  have HRN := Lib.hid (heap_alloc_new w7 (.cells #[.int .i64 ko, .int .i64 no, .string mo, .slice oa ol oc, .slice pa pl pc] 25))
  have HT9 := Lib.hid (tmP_move (w := w7) (w' := w7.alloc (.cells #[.int .i64 ko, .int .i64 no, .string mo, .slice oa ol oc, .slice pa pl pc] 25)) (Q := fun b => w4.heap.size + 1 + 1 ≤ b) (fun b hlt hp => ⟨by rw [← hz6]; exact hp, hbx.block b hlt⟩) hbx.size _ _ _ ht9)
  have hz8 : (w7.alloc (.cells #[.int .i64 ko, .int .i64 no, .string mo, .slice oa ol oc, .slice pa pl pc] 25)).heap.size = w7.heap.size + 1 := by simp
  clear ht9 hb7 hbx hb8 hok8 HR06 HR16 HR26 HROK HRPB HB6
  go_wp2_with fail
  generalize w7.alloc (.cells #[.int .i64 ko, .int .i64 no, .string mo, .slice oa ol oc, .slice pa pl pc] 25) = W8 at *
  obtain ⟨R, hR⟩ : ∃ R, min (tnodes (remT (fL bs) t 0)) 2001 = R := ⟨_, rfl⟩
  have hT8 := HT9.out
  have hTn := HTN.out
  have hrm := tnodes_is (remT (fL bs) t 0) _ W8 ⟨_, _, rfl, tmP_weak (fun _ _ => trivial) hT8⟩ (by omega) R hR
  dsimp only [tv] at hrm
  rw [HOO.out.1, HOO.out.2.1, HOO.out.2.2] at hrm
  have hRl : R ≤ 2000 := by omega
  refine hrm.mono ?_
  clear hrm hT8 hTn hR c0
  rintro e w9 ⟨rfl, hb9⟩
  have hgt : decide ((2000 : Int) < (R : Int)) = false := by simp; omega
  have hrn := (hb9.block w7.heap.size (by omega)).trans HRN.out
  obtain ⟨q0, q1, q2, q3, q4⟩ := five_cells hrn
  have hrz := (hb9.block (w.heap.size + 1 + 1) (by omega)).trans HR28.out
  obtain ⟨e0, e1, e2, e3, e4⟩ := five_cells hrz
  have g0 := frozen0 (p := 0) hrz
  have g1 := frozen0 (p := 1) hrz
  have g2 := frozen0 (p := 2) hrz
  have g3 := frozen0 (p := 3) hrz
  have g4 := frozen0 (p := 4) hrz
  have HB9 := Lib.hid (HB8.out.trans (hb9.mono HB8.out.size))
  have HTZ := Lib.hid (tmP_below hb9 HT9.out)
  clear hb9 hrn
  go_wp2_with fail
  refine bodyPost_ret (results_row_tmp rfl _ _ (w.heap.size + 1 + 1) 25 _ (0, 0) _ rfl (set5_row hrz) Tryz.underlying25 rfl (by rw [hi0, Option.map_some, hz1]; rfl)) rfl ?_
  have hs5 := set5_sz w9 (w.heap.size + 1 + 1) 0 (.int .i64 ko) (.int .i64 no) (.string mo) (.slice oa ol oc) (.slice pa pl pc)
  refine ⟨_, _, by rw [HOO.out.1, HOO.out.2.1, HOO.out.2.2]; rfl, tmP_move (w := w9) (fun b _ (hp : w4.heap.size + 1 + 1 ≤ b) => ⟨by omega, set5_far' w9 (w.heap.size + 1 + 1) 0 b _ _ _ _ _ (by omega)⟩) (Nat.le_of_eq hs5.symm) _ _ _ HTZ.out, set5_below HB9.out _ 0 _ _ _ _ _ (by omega)⟩
end Trm
end Go.Proofs.YtbkdecgfiiajnaaGreatDoor
