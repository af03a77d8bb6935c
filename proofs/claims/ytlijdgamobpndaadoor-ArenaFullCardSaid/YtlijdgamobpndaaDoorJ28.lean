import Derived.Test.YtlijdgamobpndaaDoorJ26
import Derived.Test.YtlijdgamobpndaaDoorJ13
import Derived.Test.YtlijdgamobpndaaDoorJ27
import Derived.Test.YtlijdgamobpndaaDoorJ12
import Derived.IntWalk
import Derived.Deep.DeepCutAuto
import Derived.Test.YtlijdgamobpndaaDoorJ21
/-
  The contracts of package arena's 'firstLevel' and 'levelsOf': levels out of their bytes, in new memory.
  Conditions: the bytes are those of levels in which each number has room in a byte.
-/
namespace Go.Proofs.YtlijdgamobpndaaDoor
open Go.RowKit
open Lvl
open Trm
namespace Arn
/-- Bytes as a text. -/
def txt (l : List UInt8) : ByteArray := ⟨l.toArray⟩
theorem txt_size (l : List UInt8) : (txt l).size = l.length := rfl
theorem index_txt (l : List UInt8) (i : Nat) (h : i < l.length) (w : World) : (Instr.index 9 (.string (txt l)) (.int .i64 (i : Nat))).run Tryd.prog w = .ok (.int .u8 (l[i].toNat : Nat)) w := by
  rw [run_index_string w 9 (txt l) .i64 (i : Nat) Tryd.underlying9]
  rw [dif_pos ⟨by omega, by rw [txt_size]; omega⟩]
  rfl
theorem slice_txt (a b c : UInt8) (l : List UInt8) (w : World) : (Instr.slice 9 (.string (txt (a :: b :: c :: l))) (some (.int .i64 3)) none none).run Tryd.prog w = .ok (.string (txt l)) w := by
  rw [run_slice_string_l w 9 (txt (a :: b :: c :: l)) Tryd.underlying9 .i64 3 (by omega) (by rw [txt_size]; simp; omega)]
  congr 1
  congr 1
  unfold txt
  apply ByteArray.ext
  simp [ByteArray.data_extract]
  exact List.take_of_length_le (by show l.length ≤ (a :: b :: c :: l).length - 3; simp)
theorem wrapI {x : Int} (h0 : 0 ≤ x) (h1 : x ≤ 255) : IntKind.i64.wrap x = x := IntWalk.i64_in _ ⟨by omega, by omega⟩
def LvTup (w : World) (t : Lv) (r : List UInt8) (e : Ending) (w' : World) : Prop :=
  ∃ s, e = .returned (.tuple #[.agg #[.int .i64 (kindOf t), .int .i64 (numOf t), s], .string (txt r)]) ∧ LvP w' (fun b => w.heap.size ≤ b) t s ∧ Below w.heap.size w w'
theorem encL_drop {ts : List Lv} {j : Nat} (h : j < ts.length) : encL (ts.drop j) = encV ts[j] ++ encL (ts.drop (j + 1)) := by
  rw [List.drop_eq_getElem_cons h, encL]

set_option maxRecDepth 100000 in
set_option maxHeartbeats 1000000 in
theorem firstLevel_up : ∀ (N : Nat) (t : Lv) (r : List UInt8) (w : World), nodes t ≤ N → smV t →
    Calls Tryd.prog 51 #[.string (txt (encV t ++ r))] w (LvTup w t r) := by
  intro N
  induction N with
  | zero => intro t _ _ h; have := nodes_pos t; omega
  | succ N ih =>
  intro t r w hN hs
  obtain ⟨i0, hi0, hz0, hz1, hz2⟩ := info_parts infoLv
  cases t with
  | mk k n ts =>
  rw [smV] at hs
  obtain ⟨⟨g1, g2, g3, g4, g5⟩, g6⟩ := hs
  rw [nodes] at hN
  have IH := Lib.hid ih
  have HS := Lib.hid g6
  have HN := Lib.hid hN
  obtain ⟨m, hm⟩ : ∃ m, ts.length = m := ⟨_, rfl⟩
  rw [hm] at g5
  have HM := Lib.hid hm
  have hsl := slice_txt (bk k) (bk n) (bk (m : Int)) (encL ts ++ r)
  rw [show bk k :: bk n :: bk (m : Int) :: (encL ts ++ r) = encV (.mk k n ts) ++ r by rw [encV, hm]; rfl] at hsl
  have hlen3 : 3 ≤ (txt (encV (.mk k n ts) ++ r)).size := by rw [txt_size, encV]; simp
  have v0 : ∀ h, (((txt (encV (.mk k n ts) ++ r))[0]'h).toNat : Int) = k := fun h => bk_toNat g1 g2
  have v1 : ∀ h, (((txt (encV (.mk k n ts) ++ r))[1]'h).toNat : Int) = n := fun h => bk_toNat g3 g4
  have v2 : ∀ h, (((txt (encV (.mk k n ts) ++ r))[2]'h).toNat : Int) = (m : Int) := fun h => by
    have := bk_toNat (x := (ts.length : Int)) (by omega) (by omega)
    rw [← hm]
    exact this
  have e0 := wrapI g1 g2
  have e1 := wrapI g3 g4
  have e2 := wrapI (x := (m : Int)) (by omega) (by omega)
  clear ih g6 hN hm g1 g2 g3 g4
  generalize hS0 : txt (encV (.mk k n ts) ++ r) = S0 at *
  generalize hS1 : txt (encL ts ++ r) = S1 at *
  have HS1 := Lib.hid hS1
  clear hS0 hS1
  have p0 : 0 < S0.size := by omega
  have p0' : (0 : Int) < (S0.size : Int) := by omega
  have p1 : (1 : Int) < (S0.size : Int) := by omega
  have p2 : (2 : Int) < (S0.size : Int) := by omega
  go_enter Tryd.func51, Tryd.ntmps51
  go_wp2_with fail
  have hbw := below_lit w (.cells #[.int .i64 0, .int .i64 0, .slice none 0 0] 63)
  have hrw := heap_alloc_new w (.cells #[.int .i64 0, .int .i64 0, .slice none 0 0] 63)
  have hzw : (w.alloc (.cells #[.int .i64 0, .int .i64 0, .slice none 0 0] 63)).heap.size = w.heap.size + 1 := by simp
  have HB := Lib.hid hbw
  have HR := Lib.hid hrw
  have HZ := Lib.hid hzw
  clear hbw hrw hzw
  generalize w.alloc (.cells #[.int .i64 0, .int .i64 0, .slice none 0 0] 63) = W at *
  refine wp_region_held_drew (S := fun _ => True) (by kernel_rfl) trivial (fun hHeld => ?_)
  refine take_in (i := 0) (v := ?_) rfl (by kernel_rfl) (by kernel_rfl) (by kernel_rfl) (fun _ _ _ h => h) (by rfl) ?_ hHeld ?_
  rotate_left
  · intro w hSw
    (try dsimp only at hSw)
    go_simp
    try with_reducible rfl
  try simp only [Act.put, List.setIfInBounds_toArray, List.set_cons_zero, List.set_cons_succ]
  refine take_in (i := 1) (v := ?_) rfl (by kernel_rfl) (by kernel_rfl) (by kernel_rfl) (fun _ _ _ h => h) (by rfl) ?_ hHeld ?_
  rotate_left
  · intro w hSw
    (try dsimp only at hSw)
    go_simp
    try with_reducible rfl
  try simp only [Act.put, List.setIfInBounds_toArray, List.set_cons_zero, List.set_cons_succ]
  refine take_in (i := 2) (v := ?_) rfl (by kernel_rfl) (by kernel_rfl) (by kernel_rfl) (fun _ _ _ h => h) (by rfl) ?_ hHeld ?_
  rotate_left
  · intro w hSw
    (try dsimp only at hSw)
    go_simp
    try with_reducible rfl
  try simp only [Act.put, List.setIfInBounds_toArray, List.set_cons_zero, List.set_cons_succ]
  refine take_in (i := 3) (v := ?_) rfl (by kernel_rfl) (by kernel_rfl) (by kernel_rfl) (fun _ _ _ h => h) (by rfl) ?_ hHeld ?_
  rotate_left
  · intro w hSw
    (try dsimp only at hSw)
    go_simp
    try with_reducible rfl
  try simp only [Act.put, List.setIfInBounds_toArray, List.set_cons_zero, List.set_cons_succ]
  refine take_in (i := 4) (v := ?_) rfl (by kernel_rfl) (by kernel_rfl) (by kernel_rfl) (fun _ _ _ h => h) (by rfl) ?_ hHeld ?_
  rotate_left
  · intro w hSw
    (try dsimp only at hSw)
    go_simp
    try with_reducible rfl
  try simp only [Act.put, List.setIfInBounds_toArray, List.set_cons_zero, List.set_cons_succ]
  refine take_in (i := 5) (v := ?_) rfl (by kernel_rfl) (by kernel_rfl) (by kernel_rfl) (fun _ _ _ h => h) (by rfl) ?_ hHeld ?_
  rotate_left
  · intro w hSw
    (try dsimp only at hSw)
    go_simp
    try with_reducible rfl
  try simp only [Act.put, List.setIfInBounds_toArray, List.set_cons_zero, List.set_cons_succ]
  refine take_in (i := 6) (v := ?_) rfl (by kernel_rfl) (by kernel_rfl) (by kernel_rfl) (fun _ _ _ h => h) (by rfl) ?_ hHeld ?_
  rotate_left
  · intro w hSw
    (try dsimp only at hSw)
    go_simp
    try with_reducible rfl
  try simp only [Act.put, List.setIfInBounds_toArray, List.set_cons_zero, List.set_cons_succ]
  refine call_in (i := 7) rfl (by kernel_rfl) (fun K hK => ?_)
  clear hHeld
  go_simp
  try (go_wp2_with fail)
  refine hK.out _ _ trivial (fun hHeld => ?_)
  clear hK K
  try simp only [Act.put, List.setIfInBounds_toArray, List.set_cons_zero, List.set_cons_succ]
  refine call_in (i := 8) rfl (by kernel_rfl) (fun K hK => ?_)
  clear hHeld
  go_simp
  refine hK.out _ _ trivial (fun _ => ?_)
  clear hK K
  refine wpAnyH_done (by kernel_rfl) ?_ _

  go_wp2_with fail
  have hb2 := (below_lit W (.cells #[.int .i64 k, .int .i64 n, .slice none 0 0] 63)).drew
  have hz2 : ((W.alloc (.cells #[.int .i64 k, .int .i64 n, .slice none 0 0] 63)).drew).heap.size = w.heap.size + 1 + 1 := by
    show (W.alloc (.cells #[.int .i64 k, .int .i64 n, .slice none 0 0] 63)).heap.size = _
    simp [HZ.out]
  have hr2 : ((W.alloc (.cells #[.int .i64 k, .int .i64 n, .slice none 0 0] 63)).drew).heap[w.heap.size + 1]? = some (Obj.cells #[.int .i64 k, .int .i64 n, .slice none 0 0] 63 (0, 0)) := by
    have := heap_alloc_new W (.cells #[.int .i64 k, .int .i64 n, .slice none 0 0] 63)
    rw [HZ.out] at this
    exact this
  have hr0 := (hb2.block w.heap.size (by rw [HZ.out]; omega)).trans HR.out
  rw [HZ.out]
  have HB2 := Lib.hid (HB.out.trans (hb2.mono HB.out.size))
  generalize (W.alloc (.cells #[.int .i64 k, .int .i64 n, .slice none 0 0] 63)).drew = W2 at *
  have HR2 := Lib.hid hr2
  have HR0 := Lib.hid hr0
  have HZ2 := Lib.hid hz2
  clear hb2 hz2 hr2 hr0
  go_wp2_with fail
  go_loopw [0, 6, 20] (fun sv _ i wr => ∃ (j : Nat) (V : Value), j ≤ m ∧ i = .int .i64 j ∧ sv = .string (txt (encL (ts.drop j) ++ r)) ∧ Hid (wr.heap[w.heap.size + 1]? = some (.cells #[.int .i64 k, .int .i64 n, V] 63 (0, 0))) ∧ OwnL wr (w.heap.size + 1 + 1) V (ts.take j) ∧ Hid (Below (w.heap.size + 1) W2 wr)) (fun _ _ i _ => m - (intOf i).toNat)
  case atStart => exact ⟨0, .slice none 0 0, Nat.zero_le _, rfl, by rw [List.drop_zero, HS1.out], HR2.out, by rw [List.take_zero]; exact ownL_nil _ _, Below.refl _ _⟩
  case round =>
    obtain ⟨j, V, hj, rfl, rfl, hrow, hown, hgr⟩ := hrel
    obtain ⟨va, vl, vc, rfl⟩ := ownL_slice hown
    have HOWN := Lib.hid hown
    have hszg := hgr.out.size
    have hsz2 := HZ2.out
    obtain ⟨d0, d1, d2⟩ := three_cells' hrow.out
    clear hown
    by_cases hlt : j < m
    · have hx1 : j < ts.length := by rw [HM.out]; exact hlt
      have hln : decide ((j : Int) < (m : Int)) = true := by simp; omega
      have hcall := fun w' => IH.out ts[j] (encL (ts.drop (j + 1)) ++ r) w' (by have h1 := nodes_mem (List.getElem_mem hx1); have h2 := HN.out; omega) (smL_mem HS.out _ (List.getElem_mem hx1))
      rw [← List.append_assoc, ← encL_drop hx1] at hcall
      unfold LvTup at hcall
      have HTK := Lib.hid (show ts.take (j + 1) = ts.take j ++ [ts[j]] by rw [List.take_add_one, List.getElem?_eq_getElem hx1]; rfl)
      generalize hki : kindOf ts[j] = ki at *
      generalize hnu : numOf ts[j] = nu at *
      generalize ts[j] = tj at *
      generalize txt (encL (ts.drop j) ++ r) = S3 at *
      obtain ⟨S4, hS4⟩ : ∃ q, txt (encL (ts.drop (j + 1)) ++ r) = q := ⟨_, rfl⟩
      have HS4 := Lib.hid hS4
      rw [hS4] at hcall
      have HCALL := Lib.hid hcall
      have HKI := Lib.hid hki
      have HNU := Lib.hid hnu
      obtain ⟨ss, hsl, hso, hsk⟩ := HOWN.out
      have hjl : (ts.take j).length = j := by rw [List.length_take]; omega
      rw [hjl] at hso
      have HO := Lib.hid hso
      have HSL := Lib.hid hsl
      have HSK := Lib.hid hsk
      have HJL := Lib.hid hjl
      have hbo1 : j + 1 ≤ maxLen := by unfold maxLen; omega
      have hbo2 : (j + 1) * 40 ≤ 140737488355328 := by omega
      clear hcall hS4 hki hnu hso hsl hsk hjl d0 d1 d2
      go_wp2_with fail
      refine (HCALL.out _).mono ?_
      rintro e w6 ⟨s9, rfl, hs9, hb6⟩
      obtain ⟨ia, il, ic, rfl⟩ := lvP_slice hs9
      have hbz := below_lit wr (.cells #[.int .i64 0, .int .i64 0, .slice none 0 0] 63)
      have hrz := heap_alloc_new wr (.cells #[.int .i64 0, .int .i64 0, .slice none 0 0] 63)
      have hzz : (wr.alloc (.cells #[.int .i64 0, .int .i64 0, .slice none 0 0] 63)).heap.size = wr.heap.size + 1 := by simp
      have hr6 := (hb6.block wr.heap.size (by rw [hzz]; omega)).trans hrz
      have HB6 := Lib.hid (hbz.trans (hb6.mono hbz.size))
      have HR6 := Lib.hid hr6
      obtain ⟨x0, x1, x2⟩ := three_cells' hr6
      have f0 := frozen0 (p := 0) hr6
      have f1 := frozen0 (p := 1) hr6
      have f2 := frozen0 (p := 2) hr6
      have HS9 : Hid (LvP w6 (fun b => wr.heap.size + 1 ≤ b) tj (.slice ia il ic)) := lvP_move (w := w6) (w' := w6) (fun b _ hp => ⟨by rw [hzz] at hp; exact hp, rfl⟩) (Nat.le_refl _) _ _ hs9
      clear hbz hrz hzz hr6 hb6 hs9
      go_upto_region 8 with fail
      have HRA := Lib.hid (set3_row (x' := .int .i64 ki) (y' := .int .i64 nu) (z' := .slice ia il ic) HR6.out)
      have HBA : Hid (Below wr.heap.size wr (((w6.setCell ⟨wr.heap.size, 0, none⟩ (.int .i64 ki)).setCell ⟨wr.heap.size, 1, none⟩ (.int .i64 nu)).setCell ⟨wr.heap.size, 2, none⟩ (.slice ia il ic))) := below_set (below_set (below_set HB6.out _ _ (Nat.le_refl _)) _ _ (Nat.le_refl _)) _ _ (Nat.le_refl _)
      have HSA : Hid (LvP (((w6.setCell ⟨wr.heap.size, 0, none⟩ (.int .i64 ki)).setCell ⟨wr.heap.size, 1, none⟩ (.int .i64 nu)).setCell ⟨wr.heap.size, 2, none⟩ (.slice ia il ic)) (fun b => wr.heap.size ≤ b) tj (.slice ia il ic)) := lvP_move (w := w6) (fun b _ hp => ⟨by omega, (setCell_far _ _ _ _ (by show b ≠ wr.heap.size; omega)).trans ((setCell_far _ _ _ _ (by show b ≠ wr.heap.size; omega)).trans (setCell_far _ _ _ _ (by show b ≠ wr.heap.size; omega)))⟩) (by rw [setCell_size, setCell_size, setCell_size]; exact Nat.le_refl _) _ _ HS9.out
      generalize (((w6.setCell ⟨wr.heap.size, 0, none⟩ (.int .i64 ki)).setCell ⟨wr.heap.size, 1, none⟩ (.int .i64 nu)).setCell ⟨wr.heap.size, 2, none⟩ (.slice ia il ic)) = WA at *
      have hrl := (HBA.out.block (w.heap.size + 1) (by omega)).trans hrow.out
      have HRL := Lib.hid hrl
      have hszA := HBA.out.size
      have hoA := own_below HO.out HBA.out
      have HOA := Lib.hid hoA
      clear x0 x1 x2 f0 f1 f2 hoA
      obtain ⟨x0, x1, x2⟩ := three_cells' HRA.out
      obtain ⟨y0, y1, y2⟩ := three_cells' hrl
      clear hrl
      go_wp2_with (first | (refine wpList_append_lies _ rfl (.tmp 28) (.tmp 30) 22 rfl (w.heap.size + 1 + 1) 63 i0 (.agg #[.int .i64 0, .int .i64 0, .slice none 0 0]) 3 40 Tryd.underlying22 hi0 hz0 hz1 hz2 rfl (by decide) (.slice va vl vc) j (cells3 (ts.take j) ss) (by simp [Act.eval]) (own_alloc HOA.out _) ⟨WA.heap.size, 0, none⟩ 1 1 [.int .i64 ki, .int .i64 nu, .slice ia il ic] (by simp [Act.eval]) rfl (World.news_of_block (heap_alloc_new WA _)) (three_oneCell (lvP_one HSA.out)) (by decide) hbo1 hbo2 (by simp; omega) (WA.heap.size + 1) (by simp) ?_; intro g9 cap9 w8 hown8 hgrow8 hat8 hlt8; have hrow8 := (hgrow8.block (w.heap.size + 1) (by simp; omega) (fun e => by have := own_block HO.out (w.heap.size + 1) e.symm; omega)).trans ((heap_alloc_old WA _ (by omega)).trans HRL.out); have HR8 := Lib.hid hrow8; have HOW8 := Lib.hid hown8; have HGW8 := Lib.hid hgrow8; have HAT8 := Lib.hid hat8; obtain ⟨q0, q1, q2⟩ := three_cells' hrow8; have f2 := frozen0 (p := 2) hrow8; clear hrow8 hown8 hgrow8 hat8))
      have hbr := box_round (B := w.heap.size + 1) (W := W2) (wr := wr) (wA := WA) (w2 := w8) (j := j) (g := g9) (cap' := cap9) (k := k) (n := n) (ki := ki) (nu := nu) (V := .slice va vl vc) (s9 := .slice ia il ic) (ts := ts) (ss := ss) (tj := tj) (by omega) HSL.out HJL.out HO.out (by exact HSK.out) HKI.out HNU.out HTK.out hgr.out ⟨HBA.out.os, HBA.out.tape, HBA.out.output, HBA.out.size, HBA.out.block⟩ HSA.out HOW8.out HGW8.out HAT8.out HR8.out
      have HBR := Lib.hid hbr
      clear hbr
      go_wp2_with fail
      go_roundw
      case rel => exact ⟨j + 1, _, by omega, by go_num, by rw [HS4.out], HBR.out.1, HBR.out.2.1, HBR.out.2.2⟩
      case measure => simp [intOf]; omega
    · obtain rfl : j = m := by omega
      have hln : decide ((j : Int) < (j : Int)) = false := by simp
      have htk : ts.take j = ts := List.take_of_length_le (by rw [HM.out]; exact Nat.le_refl _)
      have hdk : ts.drop j = [] := List.drop_of_length_le (by rw [HM.out]; exact Nat.le_refl _)
      rw [hdk, encL, List.nil_append]
      rw [htk] at HOWN
      have hr9 := (hgr.out.block w.heap.size (by omega)).trans HR0.out
      obtain ⟨x0, x1, x2⟩ := three_cells' hr9
      have f0 := frozen0 (p := 0) hr9
      have f1 := frozen0 (p := 1) hr9
      have f2 := frozen0 (p := 2) hr9
      have HR9 := Lib.hid hr9
      clear hdk htk hr9
      go_wp2_with fail
      refine bodyPost_ret (results_row_tmp rfl _ _ (w.heap.size) 63 _ (0, 0) _ rfl (set3_row HR9.out) Tryd.underlying63 rfl (by rw [hi0, Option.map_some, hz1]; rfl)) rfl ?_
      have hlv := ownL_lvP HOWN.out (by rw [HM.out]; omega) k n
      have hbw : Below w.heap.size w wr := HB2.out.trans (hgr.out.mono (by omega))
      exact ⟨_, rfl, lvP_move (w := wr) (fun b _ (hp : w.heap.size + 1 + 1 ≤ b) => ⟨by omega, (setCell_far _ _ _ _ (by show b ≠ w.heap.size; omega)).trans ((setCell_far _ _ _ _ (by show b ≠ w.heap.size; omega)).trans (setCell_far _ _ _ _ (by show b ≠ w.heap.size; omega)))⟩) (by rw [setCell_size, setCell_size, setCell_size]; exact Nat.le_refl _) _ _ hlv, below_set (below_set (below_set hbw _ _ (Nat.le_refl _)) _ _ (Nat.le_refl _)) _ _ (Nat.le_refl _)⟩
end Arn
end Go.Proofs.YtlijdgamobpndaaDoor
/-
  The contract of package arena's 'levelsOf': levels out of their bytes, in a row of its own.
  Conditions: the bytes are those of levels in which each number has room in a byte.
-/
namespace Go.Proofs.YtlijdgamobpndaaDoor
open Go.RowKit
open Lvl
open Trm
namespace Arn
abbrev strLen : Value → Nat | .string s => s.size | _ => 0
set_option maxRecDepth 100000 in
set_option maxHeartbeats 1500000 in
theorem levelsOf_is (ls : List Lv) (S : ByteArray) (w : World) (hS : lvB ls = S) (hs : smL ls) (hn : nodesL ls ≤ 100000) :
    Calls Tryd.prog 38 #[.string S] w (fun e w' => ∃ V, e = .returned V ∧ OwnL w' w.heap.size V ls ∧ Below w.heap.size w w') := by
  obtain ⟨i0, hi0, hz0, hz1, hz2⟩ := info_parts infoLv
  have HSM := Lib.hid hs
  have HLN := Lib.hid (Nat.le_trans (len_nodes ls) hn)
  have HS0 := Lib.hid (show txt (encL ls) = S from hS)
  clear hS hs hn
  go_enter Tryd.func38, Tryd.ntmps38
  go_wp2_with fail
  go_loopw [0, 3, 4] (fun sv lv _ wr => ∃ (j : Nat), j ≤ ls.length ∧ sv = .string (txt (encL (ls.drop j))) ∧ OwnL wr w.heap.size lv (ls.take j) ∧ Hid (Below w.heap.size w wr)) (fun sv _ _ _ => strLen sv)
  case atStart => exact ⟨0, Nat.zero_le _, by rw [List.drop_zero, HS0.out], by rw [List.take_zero]; exact ownL_nil _ _, Below.refl _ _⟩
  case round =>
    obtain ⟨j, hj, rfl, hown, HB⟩ := hrel
    have HOWN := Lib.hid hown
    have hbs := HB.out.size
    by_cases hlt : j < ls.length
    · have hne : (txt (encL (ls.drop j))).toList.isEmpty = false := isEmpty_no (by
        rw [txt_size, encL_drop hlt, List.length_append]
        have := List.length_pos_iff.2 (encV_ne ls[j])
        omega)
      have hcall := fun w' => firstLevel_up (nodes ls[j]) ls[j] (encL (ls.drop (j + 1))) w' (Nat.le_refl _) (smL_mem HSM.out _ (List.getElem_mem hlt))
      rw [← encL_drop hlt] at hcall
      unfold LvTup at hcall
      have HTK := Lib.hid (show ls.take (j + 1) = ls.take j ++ [ls[j]] by rw [List.take_add_one, List.getElem?_eq_getElem hlt]; rfl)
      have HSZ : Hid ((txt (encL (ls.drop (j + 1)))).size < (txt (encL (ls.drop j))).size) := by
        have : (txt (encL (ls.drop (j + 1)))).size < (txt (encL (ls.drop j))).size := by
          rw [txt_size, txt_size, encL_drop hlt, List.length_append]
          have := List.length_pos_iff.2 (encV_ne ls[j])
          omega
        exact this
      generalize hki : kindOf ls[j] = ki at *
      generalize hnu : numOf ls[j] = nu at *
      generalize ls[j] = tj at *
      generalize txt (encL (ls.drop j)) = S3 at *
      obtain ⟨S4, hS4⟩ : ∃ q, txt (encL (ls.drop (j + 1))) = q := ⟨_, rfl⟩
      have HS4 := Lib.hid hS4
      rw [hS4] at hcall HSZ
      have HCALL := Lib.hid hcall
      have HKI := Lib.hid hki
      have HNU := Lib.hid hnu
      obtain ⟨ss, hsl, hso, hsk⟩ := HOWN.out
      have hjl : (ls.take j).length = j := by rw [List.length_take]; omega
      rw [hjl] at hso
      have HO := Lib.hid hso
      have HSL := Lib.hid hsl
      have HSK := Lib.hid hsk
      have HJL := Lib.hid hjl
      have hj5 : j < 100000 := Nat.lt_of_lt_of_le hlt HLN.out
      have hbo1 : j + 1 ≤ maxLen := by unfold maxLen; omega
      have hbo2 : (j + 1) * 40 ≤ 140737488355328 := by omega
      clear hcall hS4 hki hnu hso hsl hsk hjl hown
      go_wp2_with fail
      refine (HCALL.out _).mono ?_
      rintro e w6 ⟨s9, rfl, hs9, hb6⟩
      obtain ⟨ia, il, ic, rfl⟩ := lvP_slice hs9
      have hbz := below_lit wr (.cells #[.int .i64 0, .int .i64 0, .slice none 0 0] 63)
      have hrz := heap_alloc_new wr (.cells #[.int .i64 0, .int .i64 0, .slice none 0 0] 63)
      have hzz : (wr.alloc (.cells #[.int .i64 0, .int .i64 0, .slice none 0 0] 63)).heap.size = wr.heap.size + 1 := by simp
      have hr6 := (hb6.block wr.heap.size (by rw [hzz]; omega)).trans hrz
      have HB6 := Lib.hid (hbz.trans (hb6.mono hbz.size))
      have HR6 := Lib.hid hr6
      obtain ⟨x0, x1, x2⟩ := three_cells' hr6
      have f0 := frozen0 (p := 0) hr6
      have f1 := frozen0 (p := 1) hr6
      have f2 := frozen0 (p := 2) hr6
      have HS9 : Hid (LvP w6 (fun b => wr.heap.size + 1 ≤ b) tj (.slice ia il ic)) := lvP_move (w := w6) (w' := w6) (fun b _ hp => ⟨by rw [hzz] at hp; exact hp, rfl⟩) (Nat.le_refl _) _ _ hs9
      clear hbz hrz hzz hr6 hb6 hs9
      go_upto_region 5 with fail
      have HRA := Lib.hid (set3_row (x' := .int .i64 ki) (y' := .int .i64 nu) (z' := .slice ia il ic) HR6.out)
      have HBA : Hid (Below wr.heap.size wr (((w6.setCell ⟨wr.heap.size, 0, none⟩ (.int .i64 ki)).setCell ⟨wr.heap.size, 1, none⟩ (.int .i64 nu)).setCell ⟨wr.heap.size, 2, none⟩ (.slice ia il ic))) := below_set (below_set (below_set HB6.out _ _ (Nat.le_refl _)) _ _ (Nat.le_refl _)) _ _ (Nat.le_refl _)
      have HSA : Hid (LvP (((w6.setCell ⟨wr.heap.size, 0, none⟩ (.int .i64 ki)).setCell ⟨wr.heap.size, 1, none⟩ (.int .i64 nu)).setCell ⟨wr.heap.size, 2, none⟩ (.slice ia il ic)) (fun b => wr.heap.size ≤ b) tj (.slice ia il ic)) := lvP_move (w := w6) (fun b _ hp => ⟨by omega, (setCell_far _ _ _ _ (by show b ≠ wr.heap.size; omega)).trans ((setCell_far _ _ _ _ (by show b ≠ wr.heap.size; omega)).trans (setCell_far _ _ _ _ (by show b ≠ wr.heap.size; omega)))⟩) (by rw [setCell_size, setCell_size, setCell_size]; exact Nat.le_refl _) _ _ HS9.out
      generalize (((w6.setCell ⟨wr.heap.size, 0, none⟩ (.int .i64 ki)).setCell ⟨wr.heap.size, 1, none⟩ (.int .i64 nu)).setCell ⟨wr.heap.size, 2, none⟩ (.slice ia il ic)) = WA at *
      have hszA := HBA.out.size
      have HOA := Lib.hid (own_below HO.out HBA.out)
      have HHA : Hid (w.heap.size ≤ WA.heap.size) := Nat.le_trans hbs hszA
      clear x0 x1 x2 f0 f1 f2
      obtain ⟨x0, x1, x2⟩ := three_cells' HRA.out
      go_wp2_with (first | (refine wpList_append_lies _ rfl (.tmp 12) (.tmp 14) 22 rfl w.heap.size 63 i0 (.agg #[.int .i64 0, .int .i64 0, .slice none 0 0]) 3 40 Tryd.underlying22 hi0 hz0 hz1 hz2 rfl (by decide) u3 j (cells3 (ls.take j) ss) (by simp [Act.eval]) (own_alloc HOA.out _) ⟨WA.heap.size, 0, none⟩ 1 1 [.int .i64 ki, .int .i64 nu, .slice ia il ic] (by simp [Act.eval]) rfl (World.news_of_block (heap_alloc_new WA _)) (three_oneCell (lvP_one HSA.out)) (by decide) hbo1 hbo2 (by have := HHA.out; simp; omega) (WA.heap.size + 1) (by simp) ?_; intro g9 cap9 w8 hown8 hgrow8 hat8 hlt8; have HOW8 := Lib.hid hown8; have HGW8 := Lib.hid hgrow8; have HAT8 := Lib.hid hat8; clear hown8 hgrow8 hat8))
      have hA : Below w.heap.size w WA := HB.out.trans (HBA.out.mono HB.out.size)
      have hst := ownL_step (w0 := wr) (w1 := WA) (w2 := w8) (base := w.heap.size) (V := u3) (ts := ls.take j) (ss := ss) (a := tj) (s := .slice ia il ic) (H := WA.heap.size + 1) (O := .cells #[.int .i64 ki, .int .i64 nu, .slice ia il ic] 63) (g := g9) (cap := cap9) HSL.out (by rw [HJL.out]; exact HO.out) HSK.out HB.out.size HBA.out HSA.out (by simp) (by rw [HJL.out, HKI.out, HNU.out]; exact HOW8.out) HGW8.out HAT8.out
      rw [HJL.out, ← HTK.out] at hst
      have HST := Lib.hid hst
      have HBW : Hid (Below w.heap.size w w8) := (hA.alloc hA.size _).grown HGW8.out (by have := hA.size; simp; omega) (fun k e => own_block HO.out k e)
      clear hst hA
      first
      | (refine ⟨⟨j + 1, by omega, by rw [HS4.out], HST.out, HBW.out⟩, HSZ.out⟩)
      | (go_roundw
         case rel => exact ⟨j + 1, by omega, by rw [HS4.out], HST.out, HBW.out⟩
         case measure => exact HSZ.out)
    · obtain rfl : j = ls.length := by omega
      have hne : (txt (encL (ls.drop ls.length))).toList.isEmpty = true := isEmpty_yes (by rw [List.drop_length, encL]; rfl)
      have HTK : Hid (ls.take ls.length = ls) := List.take_length
      generalize txt (encL (ls.drop ls.length)) = S3 at *
      go_wp2_with fail
      go_ret
      exact ⟨_, rfl, by rw [← HTK.out]; exact HOWN.out, HB.out⟩
end Arn
end Go.Proofs.YtlijdgamobpndaaDoor
