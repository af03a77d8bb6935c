/-
  The contracts of the program's functions Leq, Same, Zero and Never: levels are held against each other by their forms.
  Conditions: the levels lie in memory as told by 'LvV', and have at most 1000 nodes.
-/
import Derived.Test.YteghldgopidhhaaLvForms
import Derived.Test.YteghldgopidhhaaLvLeq2
namespace Go.Proofs.Yteghldgopidhhaa
open Go.RowKit
open Lvl

/-- A level's row of forms: noughts, if it isn't right. -/
def RowIs (t : Lv) (Fs : List Fm) : Prop := (rightB 4 t = true ∧ ∃ x, IsL 4 t x ∧ Fs = formsOf x) ∨ (rightB 4 t = false ∧ Fs = noForms)
theorem rowIs_ex (t : Lv) : ∃ Fs, RowIs t Fs := by
  cases h : rightB 4 t
  · exact ⟨_, .inr ⟨h, rfl⟩⟩
  · obtain ⟨_, x, hx⟩ := rightB_is h
    exact ⟨_, .inl ⟨h, x, hx, rfl⟩⟩
theorem rowIs_len {t : Lv} {Fs : List Fm} (h : RowIs t Fs) : Fs.length = 16 := by
  rcases h with ⟨_, x, _, rfl⟩ | ⟨_, rfl⟩
  · simp [formsOf]
  · rfl
theorem rowIs_sm {t : Lv} {Fs : List Fm} (h : RowIs t Fs) : ∀ F ∈ Fs, F.Sm := by
  rcases h with ⟨hr, x, hx, rfl⟩ | ⟨_, rfl⟩
  · intro F hF
    obtain ⟨z, _, rfl⟩ := List.mem_map.1 hF
    exact formF_sm (isL_ok (m := 4) hx) (by rw [← isL_nodes hx]; have := (rightB_is hr).1; omega)
  · intro F hF
    rw [List.eq_of_mem_replicate hF]
    exact zeroF_sm
theorem forms_any (t : Lv) (v : Value) (w : World) (hv : LvV w t v) (hm : nodes t ≤ 1000) (b : Bool) (hb : rightB 4 t = b) (Fs : List Fm) (hF : RowIs t Fs) :
    Calls Try.prog 35 #[v] w (Ret w (.tuple #[.agg (fmsL Fs).toArray, .bool b])) := by
  rcases hF with ⟨hr, x, hx, rfl⟩ | ⟨hr, rfl⟩
  · obtain rfl : b = true := hb.symm.trans hr
    exact forms_yes t v x w hv hm hr hx
  · obtain rfl : b = false := hb.symm.trans hr
    exact forms_no t v w hv hm hr
theorem kt_forms : Try.prog.keyTypeAt 4 47 = true := by kernel_rfl
theorem cells_forms : Try.prog.cellsOf 47 = 80 := by kernel_rfl
def litsL : List Fm → List Lit
  | [] => []
  | F :: Fs => fmLits F ++ litsL Fs
theorem litsL_inj : ∀ {Fs Gs : List Fm}, Fs.length = Gs.length → litsL Fs = litsL Gs → Fs = Gs
  | [], [], _, _ => rfl
  | F :: Fs, G :: Gs, h, e => by
    simp only [litsL] at e
    obtain ⟨e1, e2⟩ := List.append_inj e rfl
    rw [fmLits_inj e1, litsL_inj (by simpa using h) e2]
theorem lits_rows (D : Nat) : ∀ (Fs : List Fm), (∀ F ∈ Fs, F.Sm) → ∀ (pre : List Value) (k : Nat), pre.length = k * 5 →
    (List.range' k Fs.length).mapM (fun i => Try.prog.keyLits (D + 3) 46 (((pre ++ fmsL Fs).drop (i * 5)).take 5)) = some (Fs.map fmLits)
  | [], _, _, _, _ => by simp
  | F :: Fs, h, pre, k, hp => by
    have h1 : ((pre ++ fmsL (F :: Fs)).drop (k * 5)).take 5 = fmCells F := by
      rw [← hp, List.drop_left]
      rfl
    have h2 := lits_rows D Fs (fun G hG => h G (List.mem_cons_of_mem _ hG)) (pre ++ fmCells F) (k + 1) (by rw [List.length_append, hp]; show k * 5 + 5 = _; omega)
    have h3 : pre ++ fmsL (F :: Fs) = (pre ++ fmCells F) ++ fmsL Fs := by rw [List.append_assoc]; rfl
    rw [List.length_cons, List.range'_succ, List.mapM_cons, h1, lits_form D (h F (List.mem_cons_self ..)), h3, h2]
    rfl
theorem lits_flat : ∀ Fs : List Fm, (Fs.map fmLits).flatten = litsL Fs
  | [] => rfl
  | F :: Fs => by rw [List.map_cons, List.flatten_cons, lits_flat Fs]; rfl
theorem lits_forms (D : Nat) {Fs : List Fm} (hl : Fs.length = 16) (hs : ∀ F ∈ Fs, F.Sm) : Try.prog.keyLits (D + 4) 47 (fmsL Fs) = some (litsL Fs) := by
  have := lits_rows D Fs hs [] 0 rfl
  rw [hl, List.nil_append] at this
  unfold Program.keyLits
  rw [u_forms]
  simp only [cells_forms, cells_form, fmsL_len, hl]
  rw [List.range_eq_range', this]
  simp [lits_flat]
theorem formed_forms {Fs : List Fm} (hl : Fs.length = 16) : (Value.agg (fmsL Fs).toArray).formed Try.prog 47 = true := by
  unfold Value.formed
  simp only [u_forms, cells_forms]
  simp [fmsL_len, hl]
/-- Two rows of forms are held against each other. -/
theorem eql_forms {Fs Gs : List Fm} (hF : Fs.length = 16) (hG : Gs.length = 16) (sF : ∀ F ∈ Fs, F.Sm) (sG : ∀ F ∈ Gs, F.Sm) (b : Bool) (hb : b = true ↔ Fs = Gs) (w : World) :
    (binOp .eql 47 (.agg (fmsL Fs).toArray) (.agg (fmsL Gs).toArray)).run Try.prog w = .ok (.bool b) w := by
  obtain ⟨r, h1, h2⟩ := run_equalIn_deep 9996 4 47 kt_forms w 4 4 (.agg (fmsL Fs).toArray) (.agg (fmsL Gs).toArray) (litsL Fs) (litsL Gs) (formed_forms hF) (formed_forms hG) (lits_forms 0 hF sF) (lits_forms 0 hG sG)
  have e : r = b := by
    rw [Bool.eq_iff_iff, h2, hb]
    exact ⟨fun e => litsL_inj (hF.trans hG.symm) e, fun e => by rw [e]⟩
  subst e
  rw [run_eql_struct, show (10000 : Nat) = 9996 + 4 from rfl, h1]
  rfl
/-! ## The walks -/
def atF (Fs : List Fm) (z : Nat) : Fm := Fs.getD z zeroF
theorem atF_mem {Fs : List Fm} {z : Nat} (h : z < Fs.length) : atF Fs z ∈ Fs := by
  unfold atF
  rw [List.getD_eq_getElem?_getD, List.getElem?_eq_getElem h]
  exact List.getElem_mem h
theorem atF_get (Fs : List Fm) (z : Nat) (h : z < Fs.length) : (fmsL Fs)[z * 5]? = some (.int .i64 (atF Fs z).l) ∧ (fmsL Fs)[z * 5 + 1]? = some (.int .i64 (atF Fs z).a0) ∧ (fmsL Fs)[z * 5 + 2]? = some (.int .i64 (atF Fs z).a1) ∧ (fmsL Fs)[z * 5 + 3]? = some (.int .i64 (atF Fs z).a2) ∧ (fmsL Fs)[z * 5 + 4]? = some (.int .i64 (atF Fs z).a3) := by
  have e : atF Fs z = Fs[z] := by
    unfold atF
    rw [List.getD_eq_getElem?_getD, List.getElem?_eq_getElem h]
    rfl
  rw [e]
  exact fmsL_get Fs z h
theorem atF_of (x : L) {z : Nat} (h : z < 16) : atF (formsOf x) z = formF z x := by
  unfold atF formsOf
  rw [List.getD_eq_getElem?_getD, List.getElem?_map, List.getElem?_range h]
  rfl
theorem joinF_sm {F G : Fm} (hF : F.Sm) (hG : G.Sm) : (joinF F G).Sm := by
  obtain ⟨a0, a1, a2, a3, a4⟩ := hF
  obtain ⟨b0, b1, b2, b3, b4⟩ := hG
  exact ⟨Nat.max_le.2 ⟨a0, b0⟩, Nat.max_le.2 ⟨a1, b1⟩, Nat.max_le.2 ⟨a2, b2⟩, Nat.max_le.2 ⟨a3, b3⟩, Nat.max_le.2 ⟨a4, b4⟩⟩
theorem formsOf_ext {x y : L} : formsOf x = formsOf y ↔ ∀ z, z < 16 → formF z x = formF z y := by
  constructor
  · intro h z hz
    rw [← atF_of x hz, ← atF_of y hz, h]
  · intro h
    unfold formsOf
    exact List.map_congr_left fun z hz => h z (List.mem_range.1 hz)
theorem rowIs_of {t : Lv} {x : L} {Fs : List Fm} (hr : rightB 4 t = true) (hx : IsL 4 t x) (h : RowIs t Fs) : Fs = formsOf x := by
  rcases h with ⟨_, y, hy, rfl⟩ | ⟨h, _⟩
  · rw [isL_one hy hx]
  · rw [hr] at h; cases h
theorem size_right {t : Lv} {x : L} (hr : rightB 4 t = true) (hx : IsL 4 t x) : size x ≤ 500 := by
  rw [← isL_nodes hx]
  have := (rightB_is hr).1
  omega
/-- What the rows tell of being at most. -/
theorem leq_rows {t u : Lv} {Fs Gs : List Fm} {b : Bool} (hF : RowIs t Fs) (hG : RowIs u Gs) (hb : LeqIs t u b) :
    (rightB 4 t = true ∧ rightB 4 u = true ∧ (b = true ↔ ∀ z, z < 16 → joinF (atF Fs z) (atF Gs z) = atF Gs z)) ∨ ((rightB 4 t = true → rightB 4 u = false) ∧ b = false) := by
  rcases hb with ⟨h1, h2, x, y, hx, hy, h3⟩ | ⟨h1, h2⟩
  · left
    obtain rfl := rowIs_of h1 hx hF
    obtain rfl := rowIs_of h2 hy hG
    refine ⟨h1, h2, h3.trans ?_⟩
    rw [← forms_leq (isL_ok (m := 4) hx) (isL_ok (m := 4) hy) (size_right h2 hy)]
    constructor
    · intro h z hz
      rw [atF_of x hz, atF_of y hz]
      exact h z hz
    · intro h z hz
      have := h z hz
      rwa [atF_of x hz, atF_of y hz] at this
  · right
    refine ⟨fun h => ?_, h2⟩
    rcases h1 with h1 | h1
    · rw [h] at h1; cases h1
    · exact h1
/-- Of being alike. -/
theorem same_rows {t u : Lv} {Fs Gs : List Fm} {b c : Bool} (hF : RowIs t Fs) (hG : RowIs u Gs) (hb : LeqIs t u b) (hc : LeqIs u t c) :
    (rightB 4 t = true ∧ rightB 4 u = true ∧ ((b && c) = true ↔ Fs = Gs)) ∨ ((rightB 4 t = true → rightB 4 u = false) ∧ (b && c) = false) := by
  rcases hb with ⟨h1, h2, x, y, hx, hy, h3⟩ | ⟨h1, h2⟩
  · left
    obtain rfl := rowIs_of h1 hx hF
    obtain rfl := rowIs_of h2 hy hG
    refine ⟨h1, h2, ?_⟩
    have h4 : c = true ↔ Lvl.Leq y x := by
      rcases hc with ⟨_, _, y', x', hy', hx', h4⟩ | ⟨h4, _⟩
      · rw [isL_one hx' hx, isL_one hy' hy] at h4
        exact h4
      · rcases h4 with h | h
        · rw [h2] at h; cases h
        · rw [h1] at h; cases h
    rw [Bool.and_eq_true, h3, h4, formsOf_ext, forms_same (isL_ok (m := 4) hx) (isL_ok (m := 4) hy) (size_right h1 hx) (size_right h2 hy)]
  · right
    refine ⟨fun h => ?_, by rw [h2]; rfl⟩
    rcases h1 with h1 | h1
    · rw [h] at h1; cases h1
    · exact h1
def numLv (n : Int) : Lv := .mk 1 n []
theorem numLv_right {n : Nat} (h : n ≤ 100) : rightB 4 (numLv n) = true := by
  unfold rightB numLv
  simp [okB, nodes, nodesL]
  omega
/-- Of being 0. -/
theorem zero_rows {t : Lv} {Fs : List Fm} {b : Bool} (hF : RowIs t Fs) (hb : LeqIs t (numLv 0) b) :
    (rightB 4 t = true ∧ (b = true ↔ Fs = noForms)) ∨ (rightB 4 t = false ∧ b = false) := by
  rcases hb with ⟨h1, h2, x, y, hx, hy, h3⟩ | ⟨h1, h2⟩
  · left
    obtain rfl := rowIs_of h1 hx hF
    refine ⟨h1, h3.trans ?_⟩
    have hy0 : y = .num 0 := isL_one hy (show IsL 4 (numLv 0) (.num 0) from .num 0 (by omega))
    rw [hy0, ← forms_zero (isL_ok (m := 4) hx)]
    constructor
    · intro h
      apply List.ext_getElem
      · simp [formsOf, noForms]
      · intro z h1 h2
        have hz : z < 16 := by simpa [formsOf] using h1
        simp only [formsOf, noForms, List.getElem_map, List.getElem_range, List.getElem_replicate]
        exact h z hz
    · intro h z hz
      rw [← atF_of x hz, h]
      unfold atF noForms
      rw [List.getD_eq_getElem?_getD, List.getElem?_replicate, if_pos hz]
      rfl
  · right
    refine ⟨?_, h2⟩
    rcases h1 with h1 | h1
    · exact h1
    · have := numLv_right (n := 0) (by omega)
      rw [show (numLv ((0 : Nat) : Int)) = numLv 0 from rfl, h1] at this
      cases this
/-- Of never being 0. -/
theorem never_rows {t : Lv} {Fs : List Fm} {b : Bool} (hF : RowIs t Fs) (hb : LeqIs (numLv 1) t b) :
    (rightB 4 t = true ∧ (b = true ↔ ∀ z, z < 16 → atF Fs z ≠ zeroF)) ∨ (rightB 4 t = false ∧ b = false) := by
  rcases hb with ⟨h1, h2, x, y, hx, hy, h3⟩ | ⟨h1, h2⟩
  · left
    obtain rfl := rowIs_of h2 hy hF
    refine ⟨h2, h3.trans ?_⟩
    have hx0 : x = .num 1 := isL_one hx (show IsL 4 (numLv 1) (.num 1) from .num 1 (by omega))
    rw [hx0, ← forms_never (isL_ok (m := 4) hy)]
    constructor
    · intro h z hz
      rw [atF_of y hz]
      exact h z hz
    · intro h z hz
      have := h z hz
      rwa [atF_of y hz] at this
  · right
    refine ⟨?_, h2⟩
    rcases h1 with h1 | h1
    · have := numLv_right (n := 1) (by omega)
      rw [show (numLv ((1 : Nat) : Int)) = numLv 1 from rfl, h1] at this
      cases this
    · exact h1

set_option maxRecDepth 100000 in
set_option maxHeartbeats 2000000 in
theorem leq_any (t u : Lv) (v v' : Value) (w : World) (hv : LvV w t v) (hv' : LvV w u v') (hm : nodes t ≤ 1000) (hm' : nodes u ≤ 1000) (b : Bool) (hb : LeqIs t u b) :
    Calls Try.prog 17 #[v, v'] w (Ret w (.bool b)) := by
  obtain ⟨s, rfl, hs⟩ := hv
  obtain ⟨s', rfl, hs'⟩ := hv'
  have HVT := Lib.hid (show LvV w t _ from ⟨s, rfl, hs⟩)
  have HVU := Lib.hid (show LvV w u _ from ⟨s', rfl, hs'⟩)
  obtain ⟨Fs, hFs⟩ := rowIs_ex t
  obtain ⟨Gs, hGs⟩ := rowIs_ex u
  have HX := Lib.hid (leq_rows hFs hGs hb)
  clear hb
  obtain ⟨ra, hra⟩ : ∃ r, rightB 4 t = r := ⟨_, rfl⟩
  obtain ⟨rb, hrb⟩ : ∃ r, rightB 4 u = r := ⟨_, rfl⟩
  rw [hra, hrb] at HX
  obtain ⟨LA, hLA⟩ : ∃ X, fmsL Fs = X := ⟨_, rfl⟩
  obtain ⟨LB, hLB⟩ : ∃ X, fmsL Gs = X := ⟨_, rfl⟩
  have CA : Hid (∀ v w, LvV w t v → Calls Try.prog 35 #[v] w (Ret w (.tuple #[.agg LA.toArray, .bool ra]))) := fun v w h => by rw [← hLA]; exact forms_any t v w h hm ra hra Fs hFs
  have CB : Hid (∀ v w, LvV w u v → Calls Try.prog 35 #[v] w (Ret w (.tuple #[.agg LB.toArray, .bool rb]))) := fun v w h => by rw [← hLB]; exact forms_any u v w h hm' rb hrb Gs hGs
  have HLA : Hid (LA.length = 80 ∧ ∀ v ∈ LA, v.oneCell' = true) := by rw [← hLA]; exact ⟨by rw [fmsL_len, rowIs_len hFs], fmsL_one Fs⟩
  have HLB : Hid (LB.length = 80 ∧ ∀ v ∈ LB, v.oneCell' = true) := by rw [← hLB]; exact ⟨by rw [fmsL_len, rowIs_len hGs], fmsL_one Gs⟩
  have HEA := Lib.hid hLA
  have HEB := Lib.hid hLB
  have HFS := Lib.hid (show Fs.length = 16 ∧ ∀ F ∈ Fs, F.Sm from ⟨rowIs_len hFs, rowIs_sm hFs⟩)
  have HGS := Lib.hid (show Gs.length = 16 ∧ ∀ F ∈ Gs, F.Sm from ⟨rowIs_len hGs, rowIs_sm hGs⟩)
  have hzv := (zero_of_info zero_forms).1
  have HSZ := Lib.hid (zero_of_info zero_forms).2
  have HLZ := Lib.hid (show (fmsL noForms).length = 80 by rw [fmsL_len]; rfl)
  obtain ⟨C0, hC0⟩ : ∃ C, fmsL noForms = C := ⟨_, rfl⟩
  rw [hC0] at hzv HLZ
  generalize kindOf t = k1 at *
  generalize numOf t = n1 at *
  generalize kindOf u = k2 at *
  generalize numOf u = n2 at *
  clear hs hs' hra hrb hLA hLB hFs hGs hC0 hm hm'
  obtain ⟨a0, a1, a2⟩ := box_cells w (.int .i64 k1) (.int .i64 n1) s 24
  obtain ⟨b0, b1, b2⟩ := box_cells (w.alloc (.cells #[.int .i64 k1, .int .i64 n1, s] 24)) (.int .i64 k2) (.int .i64 n2) s' 24
  rw [show (w.alloc (.cells #[.int .i64 k1, .int .i64 n1, s] 24)).heap.size = w.heap.size + 1 by simp] at b0 b1 b2
  go_enter Try.func17, Try.ntmps17
  go_wp2_with fail
  have HB := Lib.hid (below_two w (.cells #[.int .i64 k1, .int .i64 n1, s] 24) (.cells #[.int .i64 k2, .int .i64 n2, s'] 24))
  have z1 : ((w.alloc (.cells #[.int .i64 k1, .int .i64 n1, s] 24)).alloc (.cells #[.int .i64 k2, .int .i64 n2, s'] 24)).heap.size = w.heap.size + 1 + 1 := by simp
  generalize (w.alloc (.cells #[.int .i64 k1, .int .i64 n1, s] 24)).alloc (.cells #[.int .i64 k2, .int .i64 n2, s'] 24) = W at *
  refine (CA.out _ W (HVT.out.below HB.out)).mono ?_
  rintro e w2 ⟨rfl, hb⟩
  have HZ2 : Hid (w.heap.size + 1 + 1 ≤ w2.heap.size) := by have := hb.size; rw [z1] at this; exact this
  have hb2 := hb.trans ((below_lit w2 (.cells LA.toArray 47)).mono hb.size)
  have c0 := (hb2.cell (p := ⟨w.heap.size + 1, 0, none⟩) (by show w.heap.size + 1 < W.heap.size; omega)).trans b0
  have c1 := (hb2.cell (p := ⟨w.heap.size + 1, 1, none⟩) (by show w.heap.size + 1 < W.heap.size; omega)).trans b1
  have c2 := (hb2.cell (p := ⟨w.heap.size + 1, 2, none⟩) (by show w.heap.size + 1 < W.heap.size; omega)).trans b2
  have HB2 := Lib.hid (HB.out.trans (hb2.mono HB.out.size))
  have hrA := heap_alloc_new w2 (.cells LA.toArray 47)
  have hzA : (w2.alloc (.cells LA.toArray 47)).heap.size = w2.heap.size + 1 := by simp
  clear hb hb2 a0 a1 a2 b0 b1 b2 z1
  go_wp2_with (first | (refine wpList_store_row rfl 47 (.tmp 5) (.tmp 13) rfl w2.heap.size LA.toArray rfl rfl 47 C0.toArray (heap_alloc_new w2 _) (by rw [HSZ.out, List.size_toArray, HLA.out.1]) (by rw [List.size_toArray, List.size_toArray, HLA.out.1, HLZ.out]) (all_oneCell_toArray HLA.out.2) ?_; rw [World.setRow_alloc_new]))
  generalize w2.alloc (.cells LA.toArray 47) = W3 at *
  refine (CB.out _ W3 (HVU.out.below HB2.out)).mono ?_
  rintro e w4 ⟨rfl, hb⟩
  have hb4 := hb.trans ((below_lit w4 (.cells LB.toArray 47)).mono hb.size)
  have HZ4 : Hid (w2.heap.size < w4.heap.size) := by
    have h1 := hb.size
    rw [hzA] at h1
    have : w2.heap.size < w4.heap.size := by omega
    exact this
  have HRA := Lib.hid ((hb4.block w2.heap.size (by omega)).trans hrA)
  have HRB := Lib.hid (heap_alloc_new w4 (.cells LB.toArray 47))
  have HB4 := Lib.hid (HB2.out.trans (hb4.mono HB2.out.size))
  have HZ5 : Hid (w4.heap.size < (w4.alloc (.cells LB.toArray 47)).heap.size) := by
    have : w4.heap.size < (w4.alloc (.cells LB.toArray 47)).heap.size := by simp
    exact this
  clear hb hb4 c0 c1 c2 hrA hzA
  rcases HX.out with ⟨rfl, rfl, hbz⟩ | ⟨hno, rfl⟩
  case inr =>
    cases ra
    · go_wp2_with (first | (refine wpList_store_row rfl 47 (.tmp 7) (.tmp 18) rfl w4.heap.size LB.toArray rfl rfl 47 C0.toArray (heap_alloc_new w4 _) (by rw [HSZ.out, List.size_toArray, HLB.out.1]) (by rw [List.size_toArray, List.size_toArray, HLB.out.1, HLZ.out]) (all_oneCell_toArray HLB.out.2) ?_; rw [World.setRow_alloc_new]))
      go_ret
      exact ⟨rfl, HB4.out⟩
    · obtain rfl : rb = false := hno rfl
      go_wp2_with (first | (refine wpList_store_row rfl 47 (.tmp 7) (.tmp 18) rfl w4.heap.size LB.toArray rfl rfl 47 C0.toArray (heap_alloc_new w4 _) (by rw [HSZ.out, List.size_toArray, HLB.out.1]) (by rw [List.size_toArray, List.size_toArray, HLB.out.1, HLZ.out]) (all_oneCell_toArray HLB.out.2) ?_; rw [World.setRow_alloc_new]))
      go_ret
      exact ⟨rfl, HB4.out⟩
  have HBZ := Lib.hid hbz
  clear hbz HX
  go_wp2_with (first | (refine wpList_store_row rfl 47 (.tmp 7) (.tmp 18) rfl w4.heap.size LB.toArray rfl rfl 47 C0.toArray (heap_alloc_new w4 _) (by rw [HSZ.out, List.size_toArray, HLB.out.1]) (by rw [List.size_toArray, List.size_toArray, HLB.out.1, HLZ.out]) (all_oneCell_toArray HLB.out.2) ?_; rw [World.setRow_alloc_new]))
  generalize w4.alloc (.cells LB.toArray 47) = W5 at *
  clear hzv
  go_loopw [26] (fun i wr => ∃ j : Nat, j ≤ 16 ∧ i = .int .i64 j ∧ Hid (∀ z, z < j → joinF (atF Fs z) (atF Gs z) = atF Gs z) ∧ Below W5.heap.size W5 wr) (fun i _ => 16 - (intOf i).toNat)
  case atStart => exact ⟨0, by omega, rfl, fun _ h => absurd h (Nat.not_lt_zero _), Below.refl _ _⟩
  case round =>
    obtain ⟨j, hj, rfl, hall, hb⟩ := hrel
    have HBR := Lib.hid hb
    have HB6 := Lib.hid (HB4.out.trans (hb.mono HB4.out.size))
    by_cases hlt : j < 16
    · have hln : decide ((j : Int) < 16) = true := by simp; omega
      have hi0 : (0 : Int) ≤ (j : Int) := by omega
      have hi1 : (j : Int) < 16 := by omega
      have hrA := (hb.block w2.heap.size (by have := HZ4.out; have := HZ5.out; omega)).trans HRA.out
      have hrB := (hb.block w4.heap.size HZ5.out).trans HRB.out
      have gA := atF_get Fs j (by rw [HFS.out.1]; exact hlt)
      have gB := atF_get Gs j (by rw [HGS.out.1]; exact hlt)
      rw [HEA.out] at gA
      rw [HEB.out] at gB
      have sA := HFS.out.2 _ (atF_mem (z := j) (by rw [HFS.out.1]; exact hlt))
      have sB := HGS.out.2 _ (atF_mem (z := j) (by rw [HGS.out.1]; exact hlt))
      obtain ⟨r, hr⟩ : ∃ r : Bool, r = true ↔ joinF (atF Fs j) (atF Gs j) = atF Gs j := by
        by_cases h : joinF (atF Fs j) (atF Gs j) = atF Gs j
        · exact ⟨true, fun _ => h, fun _ => rfl⟩
        · exact ⟨false, (fun e => by cases e), fun e => absurd e h⟩
      have HR : Hid (∀ i, i = j → (r = true ↔ joinF (atF Fs i) (atF Gs i) = atF Gs i)) := fun i h => by rw [h]; exact hr
      have CJ := Lib.hid (join_is (atF Fs j) (atF Gs j))
      have NE := Lib.hid (neq_form (joinF_sm sA sB) sB r hr)
      clear hr sA sB
      generalize joinF (atF Fs j) (atF Gs j) = J at *
      generalize atF Fs j = F at *
      generalize atF Gs j = G at *
      obtain ⟨fl, f0, f1, f2, f3⟩ := F
      obtain ⟨gl, g0, g1, g2, g3⟩ := G
      obtain ⟨jl, j0, j1, j2, j3⟩ := J
      unfold fmV at CJ NE
      dsimp only at CJ NE gA gB
      have rd : ∀ (W' : World) (B : Nat) (C : List Value) (k : Nat) (v : Value), W'.heap[B]? = some (.cells C.toArray 47 (0, 0)) → C[k]? = some v → W'.cell? ⟨B, k, none⟩ = some v := fun W' B C k v h h2 => by
        rw [cell_of_row W' B k C.toArray 47 (0, 0) h]
        simpa using h2
      have hk : Hid (∀ W', Below wr.heap.size wr W' → W'.cell? ⟨w2.heap.size, j * 5, none⟩ = some (.int .i64 fl) ∧ W'.cell? ⟨w2.heap.size, j * 5 + 1, none⟩ = some (.int .i64 f0) ∧ W'.cell? ⟨w2.heap.size, j * 5 + 2, none⟩ = some (.int .i64 f1) ∧ W'.cell? ⟨w2.heap.size, j * 5 + 3, none⟩ = some (.int .i64 f2) ∧ W'.cell? ⟨w2.heap.size, j * 5 + 4, none⟩ = some (.int .i64 f3) ∧ W'.cell? ⟨w4.heap.size, j * 5, none⟩ = some (.int .i64 gl) ∧ W'.cell? ⟨w4.heap.size, j * 5 + 1, none⟩ = some (.int .i64 g0) ∧ W'.cell? ⟨w4.heap.size, j * 5 + 2, none⟩ = some (.int .i64 g1) ∧ W'.cell? ⟨w4.heap.size, j * 5 + 3, none⟩ = some (.int .i64 g2) ∧ W'.cell? ⟨w4.heap.size, j * 5 + 4, none⟩ = some (.int .i64 g3)) := fun W' h => by
        have pA := (h.block w2.heap.size (by have := hb.size; have := HZ4.out; have := HZ5.out; omega)).trans hrA
        have pB := (h.block w4.heap.size (by have := hb.size; have := HZ5.out; omega)).trans hrB
        exact ⟨rd _ _ _ _ _ pA gA.1, rd _ _ _ _ _ pA gA.2.1, rd _ _ _ _ _ pA gA.2.2.1, rd _ _ _ _ _ pA gA.2.2.2.1, rd _ _ _ _ _ pA gA.2.2.2.2, rd _ _ _ _ _ pB gB.1, rd _ _ _ _ _ pB gB.2.1, rd _ _ _ _ _ pB gB.2.2.1, rd _ _ _ _ _ pB gB.2.2.2.1, rd _ _ _ _ _ pB gB.2.2.2.2⟩
      have F1 : Hid (∀ W', Below wr.drew.heap.size wr.drew W' → Below wr.heap.size wr W') := fun W' hb => (Below.refl _ _).drew.trans hb
      clear hb hrA hrB gA gB rd
      go_wp2_with fail
      have ne := NE.out
      go_region_held3 (fun W' => W'.cell? ⟨w2.heap.size, j * 5, none⟩ = some (.int .i64 fl) ∧ W'.cell? ⟨w2.heap.size, j * 5 + 1, none⟩ = some (.int .i64 f0) ∧ W'.cell? ⟨w2.heap.size, j * 5 + 2, none⟩ = some (.int .i64 f1) ∧ W'.cell? ⟨w2.heap.size, j * 5 + 3, none⟩ = some (.int .i64 f2) ∧ W'.cell? ⟨w2.heap.size, j * 5 + 4, none⟩ = some (.int .i64 f3) ∧ W'.cell? ⟨w4.heap.size, j * 5, none⟩ = some (.int .i64 gl) ∧ W'.cell? ⟨w4.heap.size, j * 5 + 1, none⟩ = some (.int .i64 g0) ∧ W'.cell? ⟨w4.heap.size, j * 5 + 2, none⟩ = some (.int .i64 g1) ∧ W'.cell? ⟨w4.heap.size, j * 5 + 3, none⟩ = some (.int .i64 g2) ∧ W'.cell? ⟨w4.heap.size, j * 5 + 4, none⟩ = some (.int .i64 g3)) (first | exact hk.out _ ((Below.refl _ _).drew) | exact hk.out _ (F1.out _ hbA)) (first | (go_at_call 36; refine (CJ.out _).mono ?_; rintro e wA ⟨rfl, hbA⟩))
      have HBA := Lib.hid (HBR.out.trans ((F1.out _ hbA).mono HBR.out.size))
      clear hbA ne
      cases r
      · have HF : Hid (b = false) := by
          cases hbb : b
          · rfl
          · have h1 := HBZ.out.1 hbb j hlt
            have := (HR.out j rfl).2 h1
            cases this
        go_wp2_with fail
        go_ret
        exact ⟨by rw [HF.out]; rfl, HB4.out.trans (HBA.out.mono HB4.out.size)⟩
      · have HN : Hid (∀ z, z < j + 1 → joinF (atF Fs z) (atF Gs z) = atF Gs z) := fun z hz => by
          by_cases h : z < j
          · exact hall.out z h
          · exact (HR.out z (by omega)).1 rfl
        go_wp2_with fail
        go_roundw
        case rel => exact ⟨j + 1, by omega, by go_num, HN, HBA.out⟩
        case measure => simp [intOf]; omega
    · obtain rfl : j = 16 := by omega
      have HF : Hid (b = true) := HBZ.out.2 hall.out
      clear hb
      go_wp2_with fail
      go_ret
      exact ⟨by rw [HF.out]; rfl, HB6.out⟩
end Go.Proofs.Yteghldgopidhhaa
