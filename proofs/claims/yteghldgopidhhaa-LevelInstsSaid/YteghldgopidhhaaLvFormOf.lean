/-
  The contract of the program's function formOf: a right level's form where the parameters of a set are 0.
  Conditions: the level lies in memory as told by 'LvV', is right for 4, and has at most 1000 nodes.
-/
import Derived.Test.YteghldgopidhhaaLvForm
import Derived.DeepKeys
import Derived.Deep.RegionLaw
namespace Go.Proofs.Yteghldgopidhhaa
open Go.RowKit
open Lvl

theorem u_form : Try.prog.underlying 46 = some (.struct (Try.prog.fieldsOf 46)) := by kernel_rfl
theorem kt_form : Try.prog.keyTypeAt 3 46 = true := by kernel_rfl
theorem fields_form : (Try.prog.fieldsOf 46).toList.map (fun f => (f.type, f.offset)) = [(3, 0), (44, 1)] := by kernel_rfl
theorem cells_int : Try.prog.cellsOf 3 = 1 := by kernel_rfl
theorem cells_four : Try.prog.cellsOf 44 = 4 := by kernel_rfl
theorem cells_form : Try.prog.cellsOf 46 = 5 := by kernel_rfl
theorem fields_named : (Try.prog.fieldsOf 46).all (·.name != "_") = true := by kernel_rfl
theorem wf_small {n : Nat} (h : n ≤ 100000) : (Lit.int .i64 (n : Int)).wf = true := by
  simp [Lit.wf, IntKind.min, IntKind.max, IntKind.signed, IntKind.bits]
  omega
theorem lits_int (D : Nat) {n : Nat} (h : n ≤ 100000) : Try.prog.keyLits (D + 1) 3 [.int .i64 n] = some [.int .i64 n] := by
  unfold Program.keyLits
  simp only [Try.underlying3]
  simp [wf_small h]
theorem lits_four (D : Nat) {a b c d : Nat} (h0 : a ≤ 100000) (h1 : b ≤ 100000) (h2 : c ≤ 100000) (h3 : d ≤ 100000) :
    Try.prog.keyLits (D + 2) 44 [.int .i64 a, .int .i64 b, .int .i64 c, .int .i64 d] = some [.int .i64 a, .int .i64 b, .int .i64 c, .int .i64 d] := by
  unfold Program.keyLits
  simp only [Try.underlying44, cells_four, cells_int]
  simp [List.range_succ, lits_int D h0, lits_int D h1, lits_int D h2, lits_int D h3]
/-- Its numbers are small. -/
def Lvl.Fm.Sm (F : Fm) : Prop := F.l ≤ 100000 ∧ F.a0 ≤ 100000 ∧ F.a1 ≤ 100000 ∧ F.a2 ≤ 100000 ∧ F.a3 ≤ 100000
def fmCells (F : Fm) : List Value := [.int .i64 F.l, .int .i64 F.a0, .int .i64 F.a1, .int .i64 F.a2, .int .i64 F.a3]
def fmLits (F : Fm) : List Lit := [.int .i64 F.l, .int .i64 F.a0, .int .i64 F.a1, .int .i64 F.a2, .int .i64 F.a3]
theorem fmLits_inj {F G : Fm} (h : fmLits F = fmLits G) : F = G := by
  cases F; cases G
  simp only [fmLits, List.cons.injEq, Lit.int.injEq, true_and, and_true] at h
  obtain ⟨e0, e1, e2, e3, e4⟩ := h
  simp only [Fm.mk.injEq]
  omega
theorem lits_form (D : Nat) {F : Fm} (h : F.Sm) : Try.prog.keyLits (D + 3) 46 (fmCells F) = some (fmLits F) := by
  obtain ⟨h0, h1, h2, h3, h4⟩ := h
  unfold Program.keyLits
  rw [u_form]
  have hf : ∃ f g, (Try.prog.fieldsOf 46).toList = [f, g] ∧ f.type = 3 ∧ f.offset = 0 ∧ g.type = 44 ∧ g.offset = 1 := by
    have hm := fields_form
    have hl : (Try.prog.fieldsOf 46).toList.length = 2 := by
      have := congrArg List.length hm
      rw [List.length_map] at this
      exact this
    have two : ∀ l : List Field, l.length = 2 → ∃ f g, l = [f, g] := fun l h => by
      cases l with
      | nil => cases h
      | cons f l => cases l with
        | nil => cases h
        | cons g l => cases l with
          | nil => exact ⟨f, g, rfl⟩
          | cons _ _ => simp at h
    obtain ⟨f, g, e⟩ := two _ hl
    rw [e] at hm
    simp at hm
    exact ⟨f, g, e, hm.1.1, hm.1.2, hm.2.1, hm.2.2⟩
  obtain ⟨f, g, hfg, e1, e2, e3, e4⟩ := hf
  simp only [cells_form, fields_named, hfg]
  simp [fmCells, e1, e2, e3, e4, cells_int, cells_four, lits_int (D + 1) h0, lits_four D h1 h2 h3 h4, fmLits]
theorem formed_form (F : Fm) : (fmV F).formed Try.prog 46 = true := by
  unfold Value.formed fmV
  simp only [u_form, cells_form]
  rfl
/-- Two forms are held against each other. -/
theorem eql_form {F G : Fm} (hF : F.Sm) (hG : G.Sm) (b : Bool) (hb : b = true ↔ F = G) (w : World) : (binOp .eql 46 (fmV F) (fmV G)).run Try.prog w = .ok (.bool b) w := by
  obtain ⟨r, h1, h2⟩ := run_equalIn_deep 9997 3 46 kt_form w 3 3 (fmV F) (fmV G) (fmLits F) (fmLits G) (formed_form F) (formed_form G) (lits_form 0 hF) (lits_form 0 hG)
  have e : r = b := by
    rw [Bool.eq_iff_iff, h2, hb]
    exact ⟨fmLits_inj, fun e => by rw [e]⟩
  subst e
  show (binOp .eql 46 (.agg _) (.agg _)).run Try.prog w = _
  rw [run_eql_struct]
  show (Result.andThen ((Op.equalIn 10000 46 (fmV F) (fmV G)).run Try.prog w) _) = _
  rw [show (10000 : Nat) = 9997 + 3 from rfl, h1]
  rfl
theorem neq_form {F G : Fm} (hF : F.Sm) (hG : G.Sm) (b : Bool) (hb : b = true ↔ F = G) (w : World) : (binOp .neq 46 (fmV F) (fmV G)).run Try.prog w = .ok (.bool (!b)) w := by
  obtain ⟨r, h1, h2⟩ := run_equalIn_deep 9997 3 46 kt_form w 3 3 (fmV F) (fmV G) (fmLits F) (fmLits G) (formed_form F) (formed_form G) (lits_form 0 hF) (lits_form 0 hG)
  have e : r = b := by
    rw [Bool.eq_iff_iff, h2, hb]
    exact ⟨fmLits_inj, fun e => by rw [e]⟩
  subst e
  show (binOp .neq 46 (.agg _) (.agg _)).run Try.prog w = _
  rw [run_neq_struct]
  show (Result.andThen ((Op.equalIn 10000 46 (fmV F) (fmV G)).run Try.prog w) _) = _
  rw [show (10000 : Nat) = 9997 + 3 from rfl, h1]
  rfl
theorem formF_sm {z : Nat} {x : L} (h : Ok 4 x) (hs : size x ≤ 1000) : (formF z x).Sm := by
  have h1 := sound_of z x h
  have h2 := h1.small
  have g0 := h1.le 0 (by omega)
  have g1 := h1.le 1 (by omega)
  have g2 := h1.le 2 (by omega)
  have g3 := h1.le 3 (by omega)
  simp only [Fm.at_] at g0 g1 g2 g3
  exact ⟨by omega, by omega, by omega, by omega, by omega⟩
theorem zeroF_sm : zeroF.Sm := ⟨by decide, by decide, by decide, by decide, by decide⟩

theorem row_second (w : World) (O O' : Obj) : ((w.alloc O).alloc O').heap[w.heap.size + 1]? = some O' := by
  have := heap_alloc_new (w.alloc O) O'
  rwa [show (w.alloc O).heap.size = w.heap.size + 1 by simp] at this
set_option maxRecDepth 100000 in
set_option maxHeartbeats 2000000 in
theorem formOf_is (z : Nat) (hz16 : z < 16) {t : Lv} {x : L} (h : IsL 4 t x) : ∀ (v : Value) (w : World), LvV w t v → size x ≤ 1000 →
    Calls Try.prog 47 #[v, .int .i64 z] w (Ret w (fmV (formF z x))) := by
  obtain ⟨i0, hi0, hz0, hz1, hz2⟩ := info_parts infoFm
  induction h with
  | num n hn =>
    intro v w hv hsz
    obtain ⟨s, rfl, hs⟩ := hv
    rw [LvS] at hs
    obtain ⟨A, len, cap, rfl, h1, h2, h2b, h3, h4⟩ := hs
    clear h4 h1 h3
    show Calls Try.prog 47 #[.agg #[.int .i64 1, .int .i64 n, .slice A len cap], .int .i64 z] w (Ret w (.agg #[.int .i64 n, .int .i64 0, .int .i64 0, .int .i64 0, .int .i64 0]))
    go_enter Try.func47, Try.ntmps47
    go_wp2_with fail
    refine bodyPost_ret (results_cell_row rfl _ _ (w.heap.size + 1) 46 _ (0, 0) _ rfl (row_second w _ _) Try.underlying46 rfl (by rw [hi0, Option.map_some, hz1]; rfl)) rfl ?_
    exact ⟨rfl, below_two _ _ _⟩
  | par i hi =>
    intro v w hv hsz
    obtain ⟨s, rfl, hs⟩ := hv
    rw [LvS] at hs
    obtain ⟨A, len, cap, rfl, h1, h2, h2b, h3, h4⟩ := hs
    clear h4 h1 h3
    obtain ⟨F, hF⟩ : ∃ F, parmF i z = F := ⟨_, rfl⟩
    have CP : Hid (∀ w', Calls Try.prog 53 #[.int .i64 i, .int .i64 z] w' (Ret w' (fmV F))) := fun w' => by
      have := param_is i z w' (by omega) hz16
      rwa [hF] at this
    show Calls Try.prog 47 #[.agg #[.int .i64 2, .int .i64 i, .slice A len cap], .int .i64 z] w (Ret w (fmV (parmF i z)))
    rw [hF]
    clear hF
    obtain ⟨fl, f0, f1, f2, f3⟩ := F
    unfold fmV at CP ⊢
    dsimp only at CP ⊢
    obtain ⟨hb0, hb1, hb2⟩ := box_cells w (.int .i64 2) (.int .i64 i) (.slice A len cap) 24
    have H0 := Lib.hid (below_lit w (.cells #[.int .i64 2, .int .i64 i, .slice A len cap] 24))
    have H1 := Lib.hid (below_lit (w.alloc (.cells #[.int .i64 2, .int .i64 i, .slice A len cap] 24)) (.cells #[.int .i64 0, .int .i64 0, .int .i64 0, .int .i64 0, .int .i64 0] 46))
    have hr1 := row_second w (.cells #[.int .i64 2, .int .i64 i, .slice A len cap] 24) (.cells #[.int .i64 0, .int .i64 0, .int .i64 0, .int .i64 0, .int .i64 0] 46)
    have hz : ((w.alloc (.cells #[.int .i64 2, .int .i64 i, .slice A len cap] 24)).alloc (.cells #[.int .i64 0, .int .i64 0, .int .i64 0, .int .i64 0, .int .i64 0] 46)).heap.size = w.heap.size + 1 + 1 := by simp
    have HB := Lib.hid (below_two w (.cells #[.int .i64 2, .int .i64 i, .slice A len cap] 24) (.cells #[.int .i64 0, .int .i64 0, .int .i64 0, .int .i64 0, .int .i64 0] 46))
    have hx0 := (H1.out.cell (p := ⟨w.heap.size, 0, none⟩) (by simp)).trans hb0
    have hx1 := (H1.out.cell (p := ⟨w.heap.size, 1, none⟩) (by simp)).trans hb1
    have hx2 := (H1.out.cell (p := ⟨w.heap.size, 2, none⟩) (by simp)).trans hb2
    clear H0 H1 hb0 hb1 hb2
    go_enter Try.func47, Try.ntmps47
    go_wp2_with fail
    generalize (w.alloc (.cells #[.int .i64 2, .int .i64 i, .slice A len cap] 24)).alloc (.cells #[.int .i64 0, .int .i64 0, .int .i64 0, .int .i64 0, .int .i64 0] 46) = W at *
    refine (CP.out W).mono ?_
    rintro e w2 ⟨rfl, hb⟩
    have hr := (hb.block (w.heap.size + 1) (by omega)).trans hr1
    have HB2 := Lib.hid (HB.out.trans (hb.mono (by omega)))
    clear hb
    have e0 := cell_of_row w2 _ 0 #[.int .i64 0, .int .i64 0, .int .i64 0, .int .i64 0, .int .i64 0] 46 (0, 0) hr
    have g0 := frozen0 (p := 0) hr
    have e1 := cell_of_row w2 _ 1 #[.int .i64 0, .int .i64 0, .int .i64 0, .int .i64 0, .int .i64 0] 46 (0, 0) hr
    have g1 := frozen0 (p := 1) hr
    have e2 := cell_of_row w2 _ 2 #[.int .i64 0, .int .i64 0, .int .i64 0, .int .i64 0, .int .i64 0] 46 (0, 0) hr
    have g2 := frozen0 (p := 2) hr
    have e3 := cell_of_row w2 _ 3 #[.int .i64 0, .int .i64 0, .int .i64 0, .int .i64 0, .int .i64 0] 46 (0, 0) hr
    have g3 := frozen0 (p := 3) hr
    have e4 := cell_of_row w2 _ 4 #[.int .i64 0, .int .i64 0, .int .i64 0, .int .i64 0, .int .i64 0] 46 (0, 0) hr
    have g4 := frozen0 (p := 4) hr
    go_wp2_with fail
    refine bodyPost_ret (results_cell_row rfl _ _ (w.heap.size + 1) 46 _ (0, 0) _ rfl (row_ret hr) Try.underlying46 rfl (by rw [hi0, Option.map_some, hz1]; rfl)) rfl ?_
    exact ⟨rfl, below_set (below_set (below_set (below_set (below_set (HB2.out) _ _ (Nat.le_succ _)) _ _ (Nat.le_succ _)) _ _ (Nat.le_succ _)) _ _ (Nat.le_succ _)) _ _ (Nat.le_succ _)⟩
  | succ ha ih =>
    rename_i a x
    intro v w hv hsz
    obtain ⟨s, rfl, hs⟩ := hv
    rw [LvS] at hs
    obtain ⟨A, len, cap, rfl, h1, h2, h2b, h3, h4⟩ := hs
    obtain rfl : 1 = len := h1
    have hsx : size x ≤ 1000 := by simp only [size] at hsz; omega
    obtain ⟨F, hF⟩ : ∃ F, formF z x = F := ⟨_, rfl⟩
    have hsm : F.Sm := by rw [← hF]; exact formF_sm (isL_ok (m := 4) ha) hsx
    have CP : Hid (∀ v w', LvV w' a v → Calls Try.prog 47 #[v, .int .i64 z] w' (Ret w' (fmV F))) := fun v w' h => by
      have := ih v w' h hsx
      rwa [hF] at this
    obtain ⟨G, hG⟩ : ∃ G, raiseF F = G := ⟨_, rfl⟩
    have CR : Hid (∀ w', Calls Try.prog 54 #[fmV F] w' (Ret w' (fmV G))) := fun w' => by
      have := raised_is F w' hsm.1 hsm.2.1 hsm.2.2.1 hsm.2.2.2.1 hsm.2.2.2.2
      rwa [hG] at this
    show Calls Try.prog 47 #[.agg #[.int .i64 3, .int .i64 0, .slice A 1 cap], .int .i64 z] w (Ret w (fmV (raiseF (formF z x))))
    rw [hF, hG]
    clear hF hG hsm ih
    obtain ⟨fl, f0, f1, f2, f3⟩ := F
    obtain ⟨gl, g0', g1', g2', g3'⟩ := G
    unfold fmV at CP CR ⊢
    dsimp only at CP CR ⊢
    have HL4 := Lib.hid h4
    clear h4
    obtain ⟨hb0, hb1, hb2⟩ := box_cells w (.int .i64 3) (.int .i64 0) (.slice A 1 cap) 24
    have H0 := Lib.hid (below_lit w (.cells #[.int .i64 3, .int .i64 0, .slice A 1 cap] 24))
    have H1 := Lib.hid (below_lit (w.alloc (.cells #[.int .i64 3, .int .i64 0, .slice A 1 cap] 24)) (.cells #[.int .i64 0, .int .i64 0, .int .i64 0, .int .i64 0, .int .i64 0] 46))
    have hr1 := row_second w (.cells #[.int .i64 3, .int .i64 0, .slice A 1 cap] 24) (.cells #[.int .i64 0, .int .i64 0, .int .i64 0, .int .i64 0, .int .i64 0] 46)
    have hz : ((w.alloc (.cells #[.int .i64 3, .int .i64 0, .slice A 1 cap] 24)).alloc (.cells #[.int .i64 0, .int .i64 0, .int .i64 0, .int .i64 0, .int .i64 0] 46)).heap.size = w.heap.size + 1 + 1 := by simp
    have HB := Lib.hid (below_two w (.cells #[.int .i64 3, .int .i64 0, .slice A 1 cap] 24) (.cells #[.int .i64 0, .int .i64 0, .int .i64 0, .int .i64 0, .int .i64 0] 46))
    have hx0 := (H1.out.cell (p := ⟨w.heap.size, 0, none⟩) (by simp)).trans hb0
    have hx1 := (H1.out.cell (p := ⟨w.heap.size, 1, none⟩) (by simp)).trans hb1
    have hx2 := (H1.out.cell (p := ⟨w.heap.size, 2, none⟩) (by simp)).trans hb2
    clear H0 H1 hb0 hb1 hb2
    obtain ⟨bk, o, s0, rfl, hbs, hd0, hd1, hd2, hls⟩ := lsV_get (lsV_below HB.out _ _ _ HL4.out) 0 (by simp)
    have HLS := Lib.hid (show LvV _ a (.agg #[.int .i64 (kindOf a), .int .i64 (numOf a), s0]) from ⟨s0, rfl, hls⟩)
    simp only [Nat.zero_mul, Nat.add_zero, List.getElem_cons_zero] at hd0 hd1 hd2
    clear hls
    generalize kindOf a = ka at *
    generalize numOf a = na at *
    go_enter Try.func47, Try.ntmps47
    go_wp2_with fail
    generalize (w.alloc (.cells #[.int .i64 3, .int .i64 0, .slice (some ⟨bk, o, none⟩) 1 cap] 24)).alloc (.cells #[.int .i64 0, .int .i64 0, .int .i64 0, .int .i64 0, .int .i64 0] 46) = W at *
    refine (CP.out _ W HLS.out).mono ?_
    rintro e w2 ⟨rfl, hb⟩
    have HR2 := Lib.hid ((hb.block (w.heap.size + 1) (by omega)).trans hr1)
    have HB2 := Lib.hid (HB.out.trans (hb.mono (by omega)))
    have hz2 : w.heap.size + 1 + 1 ≤ w2.heap.size := by rw [← hz]; exact hb.size
    clear hb hd0 hd1 hd2 hx0 hx1 hx2 hr1
    go_wp2_with fail
    refine (CR.out w2).mono ?_
    rintro e w3 ⟨rfl, hb⟩
    have hr := (hb.block (w.heap.size + 1) (by omega)).trans HR2.out
    have HB3 := Lib.hid (HB2.out.trans (hb.mono (by omega)))
    clear hb
    have e0 := cell_of_row w3 _ 0 #[.int .i64 0, .int .i64 0, .int .i64 0, .int .i64 0, .int .i64 0] 46 (0, 0) hr
    have g0 := frozen0 (p := 0) hr
    have e1 := cell_of_row w3 _ 1 #[.int .i64 0, .int .i64 0, .int .i64 0, .int .i64 0, .int .i64 0] 46 (0, 0) hr
    have g1 := frozen0 (p := 1) hr
    have e2 := cell_of_row w3 _ 2 #[.int .i64 0, .int .i64 0, .int .i64 0, .int .i64 0, .int .i64 0] 46 (0, 0) hr
    have g2 := frozen0 (p := 2) hr
    have e3 := cell_of_row w3 _ 3 #[.int .i64 0, .int .i64 0, .int .i64 0, .int .i64 0, .int .i64 0] 46 (0, 0) hr
    have g3 := frozen0 (p := 3) hr
    have e4 := cell_of_row w3 _ 4 #[.int .i64 0, .int .i64 0, .int .i64 0, .int .i64 0, .int .i64 0] 46 (0, 0) hr
    have g4 := frozen0 (p := 4) hr
    go_wp2_with fail
    refine bodyPost_ret (results_cell_row rfl _ _ (w.heap.size + 1) 46 _ (0, 0) _ rfl (row_ret hr) Try.underlying46 rfl (by rw [hi0, Option.map_some, hz1]; rfl)) rfl ?_
    exact ⟨rfl, below_set (below_set (below_set (below_set (below_set (HB3.out) _ _ (Nat.le_succ _)) _ _ (Nat.le_succ _)) _ _ (Nat.le_succ _)) _ _ (Nat.le_succ _)) _ _ (Nat.le_succ _)⟩
  | max ha hb iha ihb =>
    rename_i a c x y
    intro v w hv hsz
    obtain ⟨s, rfl, hs⟩ := hv
    rw [LvS] at hs
    obtain ⟨A, len, cap, rfl, h1, h2, h2b, h3, h4⟩ := hs
    obtain rfl : 2 = len := h1
    have hsx : size x ≤ 1000 := by simp only [size] at hsz; omega
    have hsy : size y ≤ 1000 := by simp only [size] at hsz; omega
    obtain ⟨E, hE⟩ : ∃ E, formF z x = E := ⟨_, rfl⟩
    obtain ⟨F, hF⟩ : ∃ F, formF z y = F := ⟨_, rfl⟩
    obtain ⟨G, hG⟩ : ∃ G, joinF E F = G := ⟨_, rfl⟩
    have CA : Hid (∀ v w', LvV w' a v → Calls Try.prog 47 #[v, .int .i64 z] w' (Ret w' (fmV E))) := fun v w' h => by
      have := iha v w' h hsx
      rwa [hE] at this
    have CC : Hid (∀ v w', LvV w' c v → Calls Try.prog 47 #[v, .int .i64 z] w' (Ret w' (fmV F))) := fun v w' h => by
      have := ihb v w' h hsy
      rwa [hF] at this
    have CJ : Hid (∀ w', Calls Try.prog 36 #[fmV E, fmV F] w' (Ret w' (fmV G))) := fun w' => by
      have := join_is E F w'
      rwa [hG] at this
    show Calls Try.prog 47 #[.agg #[.int .i64 4, .int .i64 0, .slice A 2 cap], .int .i64 z] w (Ret w (fmV (joinF (formF z x) (formF z y))))
    rw [hE, hF, hG]
    clear hE hF hG iha ihb
    obtain ⟨el, e0, e1, e2, e3⟩ := E
    obtain ⟨fl, f0, f1, f2, f3⟩ := F
    obtain ⟨gl, g0', g1', g2', g3'⟩ := G
    unfold fmV at CA CC CJ ⊢
    dsimp only at CA CC CJ ⊢
    have HL4 := Lib.hid h4
    clear h4
    obtain ⟨hb0, hb1, hb2⟩ := box_cells w (.int .i64 4) (.int .i64 0) (.slice A 2 cap) 24
    have H0 := Lib.hid (below_lit w (.cells #[.int .i64 4, .int .i64 0, .slice A 2 cap] 24))
    have H1 := Lib.hid (below_lit (w.alloc (.cells #[.int .i64 4, .int .i64 0, .slice A 2 cap] 24)) (.cells #[.int .i64 0, .int .i64 0, .int .i64 0, .int .i64 0, .int .i64 0] 46))
    have hr1 := row_second w (.cells #[.int .i64 4, .int .i64 0, .slice A 2 cap] 24) (.cells #[.int .i64 0, .int .i64 0, .int .i64 0, .int .i64 0, .int .i64 0] 46)
    have hz : ((w.alloc (.cells #[.int .i64 4, .int .i64 0, .slice A 2 cap] 24)).alloc (.cells #[.int .i64 0, .int .i64 0, .int .i64 0, .int .i64 0, .int .i64 0] 46)).heap.size = w.heap.size + 1 + 1 := by simp
    have HB := Lib.hid (below_two w (.cells #[.int .i64 4, .int .i64 0, .slice A 2 cap] 24) (.cells #[.int .i64 0, .int .i64 0, .int .i64 0, .int .i64 0, .int .i64 0] 46))
    have hx0 := (H1.out.cell (p := ⟨w.heap.size, 0, none⟩) (by simp)).trans hb0
    have hx1 := (H1.out.cell (p := ⟨w.heap.size, 1, none⟩) (by simp)).trans hb1
    have hx2 := (H1.out.cell (p := ⟨w.heap.size, 2, none⟩) (by simp)).trans hb2
    clear H0 H1 hb0 hb1 hb2
    obtain ⟨bk, o, s1, rfl, hbs, hc0, hc1, hc2, hls1⟩ := lsV_get (lsV_below HB.out _ _ _ HL4.out) 1 (by simp)
    obtain ⟨bk', o', s0, e9, _, hd0, hd1, hd2, hls0⟩ := lsV_get (lsV_below HB.out _ _ _ HL4.out) 0 (by simp)
    cases e9
    simp only [Nat.zero_mul, Nat.one_mul, Nat.add_zero, List.getElem_cons_zero, List.getElem_cons_succ] at hc0 hc1 hc2 hd0 hd1 hd2
    change World.cell? _ ⟨bk, o + 4, none⟩ = _ at hc1
    change World.cell? _ ⟨bk, o + 5, none⟩ = _ at hc2
    have HLS1 := Lib.hid (show LvV _ c (.agg #[.int .i64 (kindOf c), .int .i64 (numOf c), s1]) from ⟨s1, rfl, hls1⟩)
    have HLS0 := Lib.hid (show LvV _ a (.agg #[.int .i64 (kindOf a), .int .i64 (numOf a), s0]) from ⟨s0, rfl, hls0⟩)
    clear hls1 hls0
    generalize kindOf a = ka at *
    generalize numOf a = na at *
    generalize kindOf c = kc at *
    generalize numOf c = nc at *
    go_enter Try.func47, Try.ntmps47
    go_wp2_with fail
    generalize (w.alloc (.cells #[.int .i64 4, .int .i64 0, .slice (some ⟨bk, o, none⟩) 2 cap] 24)).alloc (.cells #[.int .i64 0, .int .i64 0, .int .i64 0, .int .i64 0, .int .i64 0] 46) = W at *
    refine (CC.out _ W HLS1.out).mono ?_
    rintro e w2 ⟨rfl, hb⟩
    have hz2 : w.heap.size + 1 + 1 ≤ w2.heap.size := by rw [← hz]; exact hb.size
    have hN := below_lit w2 (.cells #[.int .i64 fl, .int .i64 f0, .int .i64 f1, .int .i64 f2, .int .i64 f3] 46)
    have hb2 := hb.trans (hN.mono hb.size)
    have hrow5 := heap_alloc_new w2 (.cells #[.int .i64 fl, .int .i64 f0, .int .i64 f1, .int .i64 f2, .int .i64 f3] 46)
    have hz3 : w2.heap.size < (w2.alloc (.cells #[.int .i64 fl, .int .i64 f0, .int .i64 f1, .int .i64 f2, .int .i64 f3] 46)).heap.size := by simp
    have y0 := cell_of_row _ _ 0 _ 46 (0, 0) hrow5
    have k0 := (hb2.cell (p := ⟨w.heap.size, 0, none⟩) (by show w.heap.size < W.heap.size; omega)).trans hx0
    go_wp2_with fail
    generalize w2.alloc (.cells #[.int .i64 fl, .int .i64 f0, .int .i64 f1, .int .i64 f2, .int .i64 f3] 46) = W3 at *
    have hk : Hid (∀ W', Below W3.heap.size W3 W' → W'.cell? ⟨w.heap.size, 2, none⟩ = some (.slice (some ⟨bk, o, none⟩) 2 cap) ∧ W'.cell? ⟨bk, o, none⟩ = some (.int .i64 ka) ∧ W'.cell? ⟨bk, o + 1, none⟩ = some (.int .i64 na) ∧ W'.cell? ⟨bk, o + 2, none⟩ = some s0 ∧ W'.cell? ⟨w2.heap.size, 0, none⟩ = some (.int .i64 fl) ∧ W'.cell? ⟨w2.heap.size, 1, none⟩ = some (.int .i64 f0) ∧ W'.cell? ⟨w2.heap.size, 2, none⟩ = some (.int .i64 f1) ∧ W'.cell? ⟨w2.heap.size, 3, none⟩ = some (.int .i64 f2) ∧ W'.cell? ⟨w2.heap.size, 4, none⟩ = some (.int .i64 f3) ∧ W'.heap[w.heap.size + 1]? = some (.cells #[.int .i64 0, .int .i64 0, .int .i64 0, .int .i64 0, .int .i64 0] 46 (0, 0)) ∧ Below w.heap.size w W') := fun W' h => by
      have q1 : w.heap.size < W3.heap.size := by omega
      have q2 := hb2.trans (h.mono hb2.size)
      exact ⟨(q2.cell (p := ⟨w.heap.size, 2, none⟩) (by show w.heap.size < W.heap.size; omega)).trans hx2, (q2.cell (p := ⟨bk, _, none⟩) hbs).trans hd0, (q2.cell (p := ⟨bk, _, none⟩) hbs).trans hd1, (q2.cell (p := ⟨bk, _, none⟩) hbs).trans hd2,
        (h.cell (p := ⟨w2.heap.size, 0, none⟩) hz3).trans (cell_of_row _ _ 0 _ 46 (0, 0) hrow5), (h.cell (p := ⟨w2.heap.size, 1, none⟩) hz3).trans (cell_of_row _ _ 1 _ 46 (0, 0) hrow5), (h.cell (p := ⟨w2.heap.size, 2, none⟩) hz3).trans (cell_of_row _ _ 2 _ 46 (0, 0) hrow5), (h.cell (p := ⟨w2.heap.size, 3, none⟩) hz3).trans (cell_of_row _ _ 3 _ 46 (0, 0) hrow5), (h.cell (p := ⟨w2.heap.size, 4, none⟩) hz3).trans (cell_of_row _ _ 4 _ 46 (0, 0) hrow5),
        (q2.block (w.heap.size + 1) (by omega)).trans hr1, HB.out.trans (q2.mono (by omega))⟩
    have HL0 := Lib.hid (HLS0.out.below hb2)
    have HZ := Lib.hid hz3
    obtain ⟨m1, m2, m3, m4, m5, m6, m7, m8, m9, m10, m11⟩ := hk.out W3 (Below.refl _ _)
    have HB3 := Lib.hid m11
    clear y0 k0 hrow5 hN hb2 hb hx0 hx1 hx2 hc0 hc1 hc2 hd0 hd1 hd2 hr1 HLS0 HLS1 m10 m11
    go_region_law (first | (go_simp; go_at_call 47; refine (CA.out _ _ (HL0.out.below ((Below.refl _ _).drew))).mono ?_; rintro e wA ⟨rfl, hbA⟩; have hbA' := (Below.refl W3.heap.size W3).drew.trans hbA; clear hbA; obtain ⟨n1, n2, n3, n4, n5, n6, n7, n8, n9, n10, n11⟩ := hk.out wA hbA') | (go_simp; go_at_call 36; refine (CJ.out _).mono ?_; rintro e wB ⟨rfl, hbB⟩; have hbB' := hbA'.trans (hbB.mono hbA'.size); clear hbB; obtain ⟨_, _, _, _, _, _, _, _, _, hr, hbw⟩ := hk.out wB hbB'; have e0 := cell_of_row wB _ 0 #[.int .i64 0, .int .i64 0, .int .i64 0, .int .i64 0, .int .i64 0] 46 (0, 0) hr; have e1 := cell_of_row wB _ 1 #[.int .i64 0, .int .i64 0, .int .i64 0, .int .i64 0, .int .i64 0] 46 (0, 0) hr; have e2 := cell_of_row wB _ 2 #[.int .i64 0, .int .i64 0, .int .i64 0, .int .i64 0, .int .i64 0] 46 (0, 0) hr; have e3 := cell_of_row wB _ 3 #[.int .i64 0, .int .i64 0, .int .i64 0, .int .i64 0, .int .i64 0] 46 (0, 0) hr; have e4 := cell_of_row wB _ 4 #[.int .i64 0, .int .i64 0, .int .i64 0, .int .i64 0, .int .i64 0] 46 (0, 0) hr; have g0 := frozen0 (p := 0) hr; have g1 := frozen0 (p := 1) hr; have g2 := frozen0 (p := 2) hr; have g3 := frozen0 (p := 3) hr; have g4 := frozen0 (p := 4) hr))
    all_goals (
      go_wp2_with fail
      refine bodyPost_ret (results_cell_row rfl _ _ (w.heap.size + 1) 46 _ (0, 0) _ rfl (row_ret hr) Try.underlying46 rfl (by rw [hi0, Option.map_some, hz1]; rfl)) rfl ?_
      exact ⟨rfl, below_set (below_set (below_set (below_set (below_set (hbw) _ _ (Nat.le_succ _)) _ _ (Nat.le_succ _)) _ _ (Nat.le_succ _)) _ _ (Nat.le_succ _)) _ _ (Nat.le_succ _)⟩)
  | imax ha hb iha ihb =>
    rename_i a c x y
    cases hn : (formF z y).nil
    · have hres : formF z (.imax x y) = joinF (formF z x) (formF z y) := by
        show (if (formF z y).nil then zeroF else joinF (formF z x) (formF z y)) = _
        rw [hn]; rfl
      intro v w hv hsz
      obtain ⟨s, rfl, hs⟩ := hv
      rw [LvS] at hs
      obtain ⟨A, len, cap, rfl, h1, h2, h2b, h3, h4⟩ := hs
      obtain rfl : 2 = len := h1
      have hsx : size x ≤ 1000 := by simp only [size] at hsz; omega
      have hsy : size y ≤ 1000 := by simp only [size] at hsz; omega
      obtain ⟨E, hE⟩ : ∃ E, formF z x = E := ⟨_, rfl⟩
      obtain ⟨F, hF⟩ : ∃ F, formF z y = F := ⟨_, rfl⟩
      obtain ⟨G, hG⟩ : ∃ G, joinF E F = G := ⟨_, rfl⟩
      have CA : Hid (∀ v w', LvV w' a v → Calls Try.prog 47 #[v, .int .i64 z] w' (Ret w' (fmV E))) := fun v w' h => by
        have := iha v w' h hsx
        rwa [hE] at this
      have CC : Hid (∀ v w', LvV w' c v → Calls Try.prog 47 #[v, .int .i64 z] w' (Ret w' (fmV F))) := fun v w' h => by
        have := ihb v w' h hsy
        rwa [hF] at this
      have CJ : Hid (∀ w', Calls Try.prog 36 #[fmV E, fmV F] w' (Ret w' (fmV G))) := fun w' => by
        have := join_is E F w'
        rwa [hG] at this
      have hsm : F.Sm := by rw [← hF]; exact formF_sm (isL_ok (m := 4) hb) hsy
      have hnf : F.nil = false := by rw [← hF]; exact hn
      have QE : Hid (∀ w', (binOp .eql 46 (fmV F) (.agg #[.int .i64 0, .int .i64 0, .int .i64 0, .int .i64 0, .int .i64 0])).run Try.prog w' = .ok (.bool false) w') := fun w' => eql_form hsm zeroF_sm false (by rw [← Fm.nil_iff, hnf]) w'
      rw [hres]
      clear hsm hnf hn
      show Calls Try.prog 47 #[.agg #[.int .i64 5, .int .i64 0, .slice A 2 cap], .int .i64 z] w (Ret w (fmV (joinF (formF z x) (formF z y))))
      rw [hE, hF, hG]
      clear hE hF hG iha ihb
      obtain ⟨el, e0, e1, e2, e3⟩ := E
      obtain ⟨fl, f0, f1, f2, f3⟩ := F
      obtain ⟨gl, g0', g1', g2', g3'⟩ := G
      unfold fmV at CA CC CJ ⊢
      dsimp only at CA CC CJ ⊢
      unfold fmV at QE
      dsimp only at QE
      have HL4 := Lib.hid h4
      clear h4
      obtain ⟨hb0, hb1, hb2⟩ := box_cells w (.int .i64 5) (.int .i64 0) (.slice A 2 cap) 24
      have H0 := Lib.hid (below_lit w (.cells #[.int .i64 5, .int .i64 0, .slice A 2 cap] 24))
      have H1 := Lib.hid (below_lit (w.alloc (.cells #[.int .i64 5, .int .i64 0, .slice A 2 cap] 24)) (.cells #[.int .i64 0, .int .i64 0, .int .i64 0, .int .i64 0, .int .i64 0] 46))
      have hr1 := row_second w (.cells #[.int .i64 5, .int .i64 0, .slice A 2 cap] 24) (.cells #[.int .i64 0, .int .i64 0, .int .i64 0, .int .i64 0, .int .i64 0] 46)
      have hz : ((w.alloc (.cells #[.int .i64 5, .int .i64 0, .slice A 2 cap] 24)).alloc (.cells #[.int .i64 0, .int .i64 0, .int .i64 0, .int .i64 0, .int .i64 0] 46)).heap.size = w.heap.size + 1 + 1 := by simp
      have HB := Lib.hid (below_two w (.cells #[.int .i64 5, .int .i64 0, .slice A 2 cap] 24) (.cells #[.int .i64 0, .int .i64 0, .int .i64 0, .int .i64 0, .int .i64 0] 46))
      have hx0 := (H1.out.cell (p := ⟨w.heap.size, 0, none⟩) (by simp)).trans hb0
      have hx1 := (H1.out.cell (p := ⟨w.heap.size, 1, none⟩) (by simp)).trans hb1
      have hx2 := (H1.out.cell (p := ⟨w.heap.size, 2, none⟩) (by simp)).trans hb2
      clear H0 H1 hb0 hb1 hb2
      obtain ⟨bk, o, s1, rfl, hbs, hc0, hc1, hc2, hls1⟩ := lsV_get (lsV_below HB.out _ _ _ HL4.out) 1 (by simp)
      obtain ⟨bk', o', s0, e9, _, hd0, hd1, hd2, hls0⟩ := lsV_get (lsV_below HB.out _ _ _ HL4.out) 0 (by simp)
      cases e9
      simp only [Nat.zero_mul, Nat.one_mul, Nat.add_zero, List.getElem_cons_zero, List.getElem_cons_succ] at hc0 hc1 hc2 hd0 hd1 hd2
      change World.cell? _ ⟨bk, o + 4, none⟩ = _ at hc1
      change World.cell? _ ⟨bk, o + 5, none⟩ = _ at hc2
      have HLS1 := Lib.hid (show LvV _ c (.agg #[.int .i64 (kindOf c), .int .i64 (numOf c), s1]) from ⟨s1, rfl, hls1⟩)
      have HLS0 := Lib.hid (show LvV _ a (.agg #[.int .i64 (kindOf a), .int .i64 (numOf a), s0]) from ⟨s0, rfl, hls0⟩)
      clear hls1 hls0
      generalize kindOf a = ka at *
      generalize numOf a = na at *
      generalize kindOf c = kc at *
      generalize numOf c = nc at *
      go_enter Try.func47, Try.ntmps47
      go_wp2_with fail
      generalize (w.alloc (.cells #[.int .i64 5, .int .i64 0, .slice (some ⟨bk, o, none⟩) 2 cap] 24)).alloc (.cells #[.int .i64 0, .int .i64 0, .int .i64 0, .int .i64 0, .int .i64 0] 46) = W at *
      refine (CC.out _ W HLS1.out).mono ?_
      rintro e w2 ⟨rfl, hb⟩
      have hz2 : w.heap.size + 1 + 1 ≤ w2.heap.size := by rw [← hz]; exact hb.size
      have hN := below_lit w2 (.cells #[.int .i64 fl, .int .i64 f0, .int .i64 f1, .int .i64 f2, .int .i64 f3] 46)
      have hb2 := hb.trans (hN.mono hb.size)
      have hrow5 := heap_alloc_new w2 (.cells #[.int .i64 fl, .int .i64 f0, .int .i64 f1, .int .i64 f2, .int .i64 f3] 46)
      have hz3 : w2.heap.size < (w2.alloc (.cells #[.int .i64 fl, .int .i64 f0, .int .i64 f1, .int .i64 f2, .int .i64 f3] 46)).heap.size := by simp
      have y0 := cell_of_row _ _ 0 _ 46 (0, 0) hrow5
      have k0 := (hb2.cell (p := ⟨w.heap.size, 0, none⟩) (by show w.heap.size < W.heap.size; omega)).trans hx0
      have hq := QE.out
      go_wp2_with fail
      clear hq
      generalize w2.alloc (.cells #[.int .i64 fl, .int .i64 f0, .int .i64 f1, .int .i64 f2, .int .i64 f3] 46) = W3 at *
      have hk : Hid (∀ W', Below W3.heap.size W3 W' → W'.cell? ⟨w.heap.size, 2, none⟩ = some (.slice (some ⟨bk, o, none⟩) 2 cap) ∧ W'.cell? ⟨bk, o, none⟩ = some (.int .i64 ka) ∧ W'.cell? ⟨bk, o + 1, none⟩ = some (.int .i64 na) ∧ W'.cell? ⟨bk, o + 2, none⟩ = some s0 ∧ W'.cell? ⟨w2.heap.size, 0, none⟩ = some (.int .i64 fl) ∧ W'.cell? ⟨w2.heap.size, 1, none⟩ = some (.int .i64 f0) ∧ W'.cell? ⟨w2.heap.size, 2, none⟩ = some (.int .i64 f1) ∧ W'.cell? ⟨w2.heap.size, 3, none⟩ = some (.int .i64 f2) ∧ W'.cell? ⟨w2.heap.size, 4, none⟩ = some (.int .i64 f3) ∧ W'.heap[w.heap.size + 1]? = some (.cells #[.int .i64 0, .int .i64 0, .int .i64 0, .int .i64 0, .int .i64 0] 46 (0, 0)) ∧ Below w.heap.size w W') := fun W' h => by
        have q1 : w.heap.size < W3.heap.size := by omega
        have q2 := hb2.trans (h.mono hb2.size)
        exact ⟨(q2.cell (p := ⟨w.heap.size, 2, none⟩) (by show w.heap.size < W.heap.size; omega)).trans hx2, (q2.cell (p := ⟨bk, _, none⟩) hbs).trans hd0, (q2.cell (p := ⟨bk, _, none⟩) hbs).trans hd1, (q2.cell (p := ⟨bk, _, none⟩) hbs).trans hd2,
          (h.cell (p := ⟨w2.heap.size, 0, none⟩) hz3).trans (cell_of_row _ _ 0 _ 46 (0, 0) hrow5), (h.cell (p := ⟨w2.heap.size, 1, none⟩) hz3).trans (cell_of_row _ _ 1 _ 46 (0, 0) hrow5), (h.cell (p := ⟨w2.heap.size, 2, none⟩) hz3).trans (cell_of_row _ _ 2 _ 46 (0, 0) hrow5), (h.cell (p := ⟨w2.heap.size, 3, none⟩) hz3).trans (cell_of_row _ _ 3 _ 46 (0, 0) hrow5), (h.cell (p := ⟨w2.heap.size, 4, none⟩) hz3).trans (cell_of_row _ _ 4 _ 46 (0, 0) hrow5),
          (q2.block (w.heap.size + 1) (by omega)).trans hr1, HB.out.trans (q2.mono (by omega))⟩
      have HL0 := Lib.hid (HLS0.out.below hb2)
      have HZ := Lib.hid hz3
      obtain ⟨m1, m2, m3, m4, m5, m6, m7, m8, m9, m10, m11⟩ := hk.out W3 (Below.refl _ _)
      have HB3 := Lib.hid m11
      clear y0 k0 hrow5 hN hb2 hb hx0 hx1 hx2 hc0 hc1 hc2 hd0 hd1 hd2 hr1 HLS0 HLS1 m10 m11
      go_region_law (first | (go_simp; go_at_call 47; refine (CA.out _ _ (HL0.out.below ((Below.refl _ _).drew))).mono ?_; rintro e wA ⟨rfl, hbA⟩; have hbA' := (Below.refl W3.heap.size W3).drew.trans hbA; clear hbA; obtain ⟨n1, n2, n3, n4, n5, n6, n7, n8, n9, n10, n11⟩ := hk.out wA hbA') | (go_simp; go_at_call 36; refine (CJ.out _).mono ?_; rintro e wB ⟨rfl, hbB⟩; have hbB' := hbA'.trans (hbB.mono hbA'.size); clear hbB; obtain ⟨_, _, _, _, _, _, _, _, _, hr, hbw⟩ := hk.out wB hbB'; have e0 := cell_of_row wB _ 0 #[.int .i64 0, .int .i64 0, .int .i64 0, .int .i64 0, .int .i64 0] 46 (0, 0) hr; have e1 := cell_of_row wB _ 1 #[.int .i64 0, .int .i64 0, .int .i64 0, .int .i64 0, .int .i64 0] 46 (0, 0) hr; have e2 := cell_of_row wB _ 2 #[.int .i64 0, .int .i64 0, .int .i64 0, .int .i64 0, .int .i64 0] 46 (0, 0) hr; have e3 := cell_of_row wB _ 3 #[.int .i64 0, .int .i64 0, .int .i64 0, .int .i64 0, .int .i64 0] 46 (0, 0) hr; have e4 := cell_of_row wB _ 4 #[.int .i64 0, .int .i64 0, .int .i64 0, .int .i64 0, .int .i64 0] 46 (0, 0) hr; have g0 := frozen0 (p := 0) hr; have g1 := frozen0 (p := 1) hr; have g2 := frozen0 (p := 2) hr; have g3 := frozen0 (p := 3) hr; have g4 := frozen0 (p := 4) hr))
      all_goals (
        go_wp2_with fail
        refine bodyPost_ret (results_cell_row rfl _ _ (w.heap.size + 1) 46 _ (0, 0) _ rfl (row_ret hr) Try.underlying46 rfl (by rw [hi0, Option.map_some, hz1]; rfl)) rfl ?_
        exact ⟨rfl, below_set (below_set (below_set (below_set (below_set (hbw) _ _ (Nat.le_succ _)) _ _ (Nat.le_succ _)) _ _ (Nat.le_succ _)) _ _ (Nat.le_succ _)) _ _ (Nat.le_succ _)⟩)
    · have hres : formF z (.imax x y) = zeroF := by
        show (if (formF z y).nil then zeroF else joinF (formF z x) (formF z y)) = _
        rw [hn]; rfl
      intro v w hv hsz
      obtain ⟨s, rfl, hs⟩ := hv
      rw [LvS] at hs
      obtain ⟨A, len, cap, rfl, h1, h2, h2b, h3, h4⟩ := hs
      obtain rfl : 2 = len := h1
      have hsx : size x ≤ 1000 := by simp only [size] at hsz; omega
      have hsy : size y ≤ 1000 := by simp only [size] at hsz; omega
      have CC : Hid (∀ v w', LvV w' c v → Calls Try.prog 47 #[v, .int .i64 z] w' (Ret w' (.agg #[.int .i64 0, .int .i64 0, .int .i64 0, .int .i64 0, .int .i64 0]))) := fun v w' h => by
        have := ihb v w' h hsy
        rw [Fm.nil_iff.1 hn] at this
        exact this
      have QE : Hid (∀ w', (binOp .eql 46 (.agg #[.int .i64 0, .int .i64 0, .int .i64 0, .int .i64 0, .int .i64 0]) (.agg #[.int .i64 0, .int .i64 0, .int .i64 0, .int .i64 0, .int .i64 0])).run Try.prog w' = .ok (.bool true) w') := fun w' => eql_form zeroF_sm zeroF_sm true (by simp) w'
      rw [hres]
      show Calls Try.prog 47 #[.agg #[.int .i64 5, .int .i64 0, .slice A 2 cap], .int .i64 z] w (Ret w (fmV (zeroF)))
      show Calls Try.prog 47 #[.agg #[.int .i64 5, .int .i64 0, .slice A 2 cap], .int .i64 z] w (Ret w (.agg #[.int .i64 0, .int .i64 0, .int .i64 0, .int .i64 0, .int .i64 0]))
      clear iha ihb hres hn
      have HL4 := Lib.hid h4
      clear h4
      obtain ⟨hb0, hb1, hb2⟩ := box_cells w (.int .i64 5) (.int .i64 0) (.slice A 2 cap) 24
      have H0 := Lib.hid (below_lit w (.cells #[.int .i64 5, .int .i64 0, .slice A 2 cap] 24))
      have H1 := Lib.hid (below_lit (w.alloc (.cells #[.int .i64 5, .int .i64 0, .slice A 2 cap] 24)) (.cells #[.int .i64 0, .int .i64 0, .int .i64 0, .int .i64 0, .int .i64 0] 46))
      have hr1 := row_second w (.cells #[.int .i64 5, .int .i64 0, .slice A 2 cap] 24) (.cells #[.int .i64 0, .int .i64 0, .int .i64 0, .int .i64 0, .int .i64 0] 46)
      have hz : ((w.alloc (.cells #[.int .i64 5, .int .i64 0, .slice A 2 cap] 24)).alloc (.cells #[.int .i64 0, .int .i64 0, .int .i64 0, .int .i64 0, .int .i64 0] 46)).heap.size = w.heap.size + 1 + 1 := by simp
      have HB := Lib.hid (below_two w (.cells #[.int .i64 5, .int .i64 0, .slice A 2 cap] 24) (.cells #[.int .i64 0, .int .i64 0, .int .i64 0, .int .i64 0, .int .i64 0] 46))
      have hx0 := (H1.out.cell (p := ⟨w.heap.size, 0, none⟩) (by simp)).trans hb0
      have hx1 := (H1.out.cell (p := ⟨w.heap.size, 1, none⟩) (by simp)).trans hb1
      have hx2 := (H1.out.cell (p := ⟨w.heap.size, 2, none⟩) (by simp)).trans hb2
      clear H0 H1 hb0 hb1 hb2
      obtain ⟨bk, o, s1, rfl, hbs, hc0, hc1, hc2, hls1⟩ := lsV_get (lsV_below HB.out _ _ _ HL4.out) 1 (by simp)
      obtain ⟨bk', o', s0, e9, _, hd0, hd1, hd2, hls0⟩ := lsV_get (lsV_below HB.out _ _ _ HL4.out) 0 (by simp)
      cases e9
      simp only [Nat.zero_mul, Nat.one_mul, Nat.add_zero, List.getElem_cons_zero, List.getElem_cons_succ] at hc0 hc1 hc2 hd0 hd1 hd2
      change World.cell? _ ⟨bk, o + 4, none⟩ = _ at hc1
      change World.cell? _ ⟨bk, o + 5, none⟩ = _ at hc2
      have HLS1 := Lib.hid (show LvV _ c (.agg #[.int .i64 (kindOf c), .int .i64 (numOf c), s1]) from ⟨s1, rfl, hls1⟩)
      have HLS0 := Lib.hid (show LvV _ a (.agg #[.int .i64 (kindOf a), .int .i64 (numOf a), s0]) from ⟨s0, rfl, hls0⟩)
      clear hls1 hls0
      generalize kindOf a = ka at *
      generalize numOf a = na at *
      generalize kindOf c = kc at *
      generalize numOf c = nc at *
      go_enter Try.func47, Try.ntmps47
      go_wp2_with fail
      generalize (w.alloc (.cells #[.int .i64 5, .int .i64 0, .slice (some ⟨bk, o, none⟩) 2 cap] 24)).alloc (.cells #[.int .i64 0, .int .i64 0, .int .i64 0, .int .i64 0, .int .i64 0] 46) = W at *
      refine (CC.out _ W HLS1.out).mono ?_
      rintro e w2 ⟨rfl, hb⟩
      have hz2 : w.heap.size + 1 + 1 ≤ w2.heap.size := by rw [← hz]; exact hb.size
      have hN := below_lit w2 (.cells #[.int .i64 0, .int .i64 0, .int .i64 0, .int .i64 0, .int .i64 0] 46)
      have hb2 := hb.trans (hN.mono hb.size)
      have hrow5 := heap_alloc_new w2 (.cells #[.int .i64 0, .int .i64 0, .int .i64 0, .int .i64 0, .int .i64 0] 46)
      have hz3 : w2.heap.size < (w2.alloc (.cells #[.int .i64 0, .int .i64 0, .int .i64 0, .int .i64 0, .int .i64 0] 46)).heap.size := by simp
      have y0 := cell_of_row _ _ 0 _ 46 (0, 0) hrow5
      have k0 := (hb2.cell (p := ⟨w.heap.size, 0, none⟩) (by show w.heap.size < W.heap.size; omega)).trans hx0
      have hr := (hb2.block (w.heap.size + 1) (by omega)).trans hr1
      have HB3 := Lib.hid (HB.out.trans (hb2.mono (by omega)))
      have hq := QE.out
      have e0 := cell_of_row (w2.alloc (.cells #[.int .i64 0, .int .i64 0, .int .i64 0, .int .i64 0, .int .i64 0] 46)) _ 0 #[.int .i64 0, .int .i64 0, .int .i64 0, .int .i64 0, .int .i64 0] 46 (0, 0) hr
      have g0 := frozen0 (p := 0) hr
      have e1 := cell_of_row (w2.alloc (.cells #[.int .i64 0, .int .i64 0, .int .i64 0, .int .i64 0, .int .i64 0] 46)) _ 1 #[.int .i64 0, .int .i64 0, .int .i64 0, .int .i64 0, .int .i64 0] 46 (0, 0) hr
      have g1 := frozen0 (p := 1) hr
      have e2 := cell_of_row (w2.alloc (.cells #[.int .i64 0, .int .i64 0, .int .i64 0, .int .i64 0, .int .i64 0] 46)) _ 2 #[.int .i64 0, .int .i64 0, .int .i64 0, .int .i64 0, .int .i64 0] 46 (0, 0) hr
      have g2 := frozen0 (p := 2) hr
      have e3 := cell_of_row (w2.alloc (.cells #[.int .i64 0, .int .i64 0, .int .i64 0, .int .i64 0, .int .i64 0] 46)) _ 3 #[.int .i64 0, .int .i64 0, .int .i64 0, .int .i64 0, .int .i64 0] 46 (0, 0) hr
      have g3 := frozen0 (p := 3) hr
      have e4 := cell_of_row (w2.alloc (.cells #[.int .i64 0, .int .i64 0, .int .i64 0, .int .i64 0, .int .i64 0] 46)) _ 4 #[.int .i64 0, .int .i64 0, .int .i64 0, .int .i64 0, .int .i64 0] 46 (0, 0) hr
      have g4 := frozen0 (p := 4) hr
      clear hb hb2 hN hx0 hx1 hx2 hc0 hc1 hc2 hd0 hd1 hd2 hr1 HLS0 HLS1
      go_wp2_with fail
      refine bodyPost_ret (results_cell_row rfl _ _ (w.heap.size + 1) 46 _ (0, 0) _ rfl (row_ret hr) Try.underlying46 rfl (by rw [hi0, Option.map_some, hz1]; rfl)) rfl ?_
      exact ⟨rfl, below_set (below_set (below_set (below_set (below_set (HB3.out) _ _ (Nat.le_succ _)) _ _ (Nat.le_succ _)) _ _ (Nat.le_succ _)) _ _ (Nat.le_succ _)) _ _ (Nat.le_succ _)⟩
end Go.Proofs.Yteghldgopidhhaa
