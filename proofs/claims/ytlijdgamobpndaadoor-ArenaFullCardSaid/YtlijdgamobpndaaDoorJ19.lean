import Derived.Test.YtlijdgamobpndaaDoorJ18
import Derived.Test.YtlijdgamobpndaaDoorJ13
import Derived.Test.YtlijdgamobpndaaDoorJ17
/-
  The contract of an arena's 'node': the node of a number; noughts, if there is none.
  Conditions: the arena lies in memory as told by 'ArM'.
-/
namespace Go.Proofs.YtlijdgamobpndaaDoor
open Go.RowKit Go.Maps
open Lvl
open Trm
namespace Arn
theorem in_i64 {i : Nat} (h : i ≤ 1048576) : IntKind.i64.wrap ((i : Int) + 1 - 1) = (i : Int) ∧ wrap64 (i : Int) = (i : Int) := by
  have e : (i : Int) + 1 - 1 = (i : Int) := by omega
  rw [e]
  exact ⟨IntWalk.i64_in _ ⟨by omega, by omega⟩, IntWalk.wrap64_in _ ⟨by omega, by omega⟩⟩
theorem set8_row {w : World} {b : Nat} {x0 x1 x2 x3 x4 x5 x6 x7 y0 y1 y2 y3 y4 y5 y6 y7 : Value} {T : TypeId} (h : w.heap[b]? = some (.cells #[x0, x1, x2, x3, x4, x5, x6, x7] T (0, 0))) : ((((((((w.setCell ⟨b, 0, none⟩ y0).setCell ⟨b, 1, none⟩ y1).setCell ⟨b, 2, none⟩ y2).setCell ⟨b, 3, none⟩ y3).setCell ⟨b, 4, none⟩ y4).setCell ⟨b, 5, none⟩ y5).setCell ⟨b, 6, none⟩ y6).setCell ⟨b, 7, none⟩ y7).heap[b]? = some (.cells #[y0, y1, y2, y3, y4, y5, y6, y7] T (0, 0)) := by
  unfold World.setCell
  simp [Array.getElem?_modify, h]
theorem set8_below {n₀ : Nat} {w0 w : World} (hb : Below n₀ w0 w) (b : Nat) (x0 x1 x2 x3 x4 x5 x6 x7 : Value) (h : n₀ ≤ b) : Below n₀ w0 ((((((((w.setCell ⟨b, 0, none⟩ x0).setCell ⟨b, 1, none⟩ x1).setCell ⟨b, 2, none⟩ x2).setCell ⟨b, 3, none⟩ x3).setCell ⟨b, 4, none⟩ x4).setCell ⟨b, 5, none⟩ x5).setCell ⟨b, 6, none⟩ x6).setCell ⟨b, 7, none⟩ x7) :=
  below_set (below_set (below_set (below_set (below_set (below_set (below_set (below_set hb _ _ h) _ _ h) _ _ h) _ _ h) _ _ h) _ _ h) _ _ h) _ _ h
theorem eight_cells {w : World} {b : Nat} {x0 x1 x2 x3 x4 x5 x6 x7 : Value} {T : TypeId} (h : w.heap[b]? = some (.cells #[x0, x1, x2, x3, x4, x5, x6, x7] T (0, 0))) : w.cell? ⟨b, 0, none⟩ = some x0 ∧ w.cell? ⟨b, 1, none⟩ = some x1 ∧ w.cell? ⟨b, 2, none⟩ = some x2 ∧ w.cell? ⟨b, 3, none⟩ = some x3 ∧ w.cell? ⟨b, 4, none⟩ = some x4 ∧ w.cell? ⟨b, 5, none⟩ = some x5 ∧ w.cell? ⟨b, 6, none⟩ = some x6 ∧ w.cell? ⟨b, 7, none⟩ = some x7 :=
  ⟨cell_of_row _ _ 0 _ T (0, 0) h, cell_of_row _ _ 1 _ T (0, 0) h, cell_of_row _ _ 2 _ T (0, 0) h, cell_of_row _ _ 3 _ T (0, 0) h, cell_of_row _ _ 4 _ T (0, 0) h, cell_of_row _ _ 5 _ T (0, 0) h, cell_of_row _ _ 6 _ T (0, 0) h, cell_of_row _ _ 7 _ T (0, 0) h⟩
theorem ArM.slice {w : World} {base p bm most : Nat} {V : Value} {ns : List Nd} (h : ArM w base p bm most V ns) : ∃ A cap, V = .slice A ns.length cap ∧ ns.length ≤ cap := by
  rcases h.own.2 with ⟨rfl, h0⟩ | ⟨g, cap, cur, rfl, _, _, hc, _⟩
  · rw [h0]; exact ⟨none, 0, rfl, Nat.le_refl _⟩
  · exact ⟨_, _, rfl, hc⟩
theorem ArM.three {w : World} {base p bm most : Nat} {V : Value} {ns : List Nd} (h : ArM w base p bm most V ns) : w.cell? ⟨p, 0, none⟩ = some (.int .i64 most) ∧ w.cell? ⟨p, 1, none⟩ = some V ∧ w.cell? ⟨p, 2, none⟩ = some (.map (some bm)) :=
  ⟨cell_of_row _ _ 0 _ _ (0, 0) h.row, cell_of_row _ _ 1 _ _ (0, 0) h.row, cell_of_row _ _ 2 _ _ (0, 0) h.row⟩
/-- The cells of a node. -/
theorem ArM.cells {w : World} {base p bm most : Nat} {V : Value} {ns : List Nd} (h : ArM w base p bm most V ns) (i : Nat) (hi : i < ns.length) : ∃ g cap, V = .slice (some ⟨g, 0, none⟩) ns.length cap ∧ ns.length ≤ cap ∧ g < w.heap.size ∧
    w.cell? ⟨g, i * 8, none⟩ = some (.int .i64 ns[i].key.kd) ∧ w.cell? ⟨g, i * 8 + 1, none⟩ = some (.int .i64 ns[i].key.n) ∧ w.cell? ⟨g, i * 8 + 2, none⟩ = some (.string ns[i].key.nm) ∧ w.cell? ⟨g, i * 8 + 3, none⟩ = some (.string ns[i].key.lv) ∧
    w.cell? ⟨g, i * 8 + 4, none⟩ = some (.int .i64 ns[i].key.a0) ∧ w.cell? ⟨g, i * 8 + 5, none⟩ = some (.int .i64 ns[i].key.a1) ∧ w.cell? ⟨g, i * 8 + 6, none⟩ = some (.int .i64 ns[i].key.a2) ∧ w.cell? ⟨g, i * 8 + 7, none⟩ = some (.int .i64 ns[i].lo) := by
  rcases h.own.2 with ⟨rfl, h0⟩ | ⟨g, cap, cur, rfl, _, hg, hc, hm, hs, ht⟩
  · omega
  · have each : ∀ c, c < 8 → w.cell? ⟨g, i * 8 + c, none⟩ = (nc ns[i])[c]? := fun c hc8 => by
      rw [cell_of_row w g _ cur _ (0, 0) hg, ← cells8_get ns i hi c hc8, ← ht, List.getElem?_take, if_pos (by omega), Array.getElem?_toList]
    exact ⟨g, cap, rfl, hc, (Array.getElem?_eq_some_iff.1 hg).1, each 0 (by omega), each 1 (by omega), each 2 (by omega), each 3 (by omega), each 4 (by omega), each 5 (by omega), each 6 (by omega), each 7 (by omega)⟩

set_option maxRecDepth 100000 in
set_option maxHeartbeats 800000 in
theorem node_is (w : World) (base p bm most : Nat) (V : Value) (ns : List Nd) (ha : ArM w base p bm most V ns) (id : Int) (d : Nd) (hd : nodeAt ns id = d) :
    Calls Tryd.prog 27 #[.pointer (some ⟨p, 0, none⟩), .int .i64 id] w (Ret w (.agg (nc d))) := by
  obtain ⟨i0, hi0, hz0, hz1, hz2⟩ := info_parts infoNd
  have HA := Lib.hid ha
  have hp := ha.plt
  obtain ⟨c0, c1, c2⟩ := ha.three
  obtain ⟨A, cap, rfl, hcap⟩ := ha.slice
  have HD := Lib.hid hd
  clear ha hd
  obtain ⟨len, hlen⟩ : ∃ n, ns.length = n := ⟨_, rfl⟩
  have HL := Lib.hid hlen
  rw [hlen] at c1 hcap
  clear hlen
  have hbx := below_lit w (.cells #[.int .i64 0, .int .i64 0, .string ⟨#[]⟩, .string ⟨#[]⟩, .int .i64 0, .int .i64 0, .int .i64 0, .int .i64 0] 58)
  have hrx := heap_alloc_new w (.cells #[.int .i64 0, .int .i64 0, .string ⟨#[]⟩, .string ⟨#[]⟩, .int .i64 0, .int .i64 0, .int .i64 0, .int .i64 0] 58)
  have HBX := Lib.hid hbx
  have HRX := Lib.hid hrx
  clear hbx hrx
  obtain ⟨e0, e1, e2, e3, e4, e5, e6, e7⟩ := eight_cells HRX.out
  have g0 := frozen0 (p := 0) HRX.out
  have g1 := frozen0 (p := 1) HRX.out
  have g2 := frozen0 (p := 2) HRX.out
  have g3 := frozen0 (p := 3) HRX.out
  have g4 := frozen0 (p := 4) HRX.out
  have g5 := frozen0 (p := 5) HRX.out
  have g6 := frozen0 (p := 6) HRX.out
  have g7 := frozen0 (p := 7) HRX.out
  have b1 := (HBX.out.cell (p := ⟨p, 1, none⟩) hp).trans c1
  by_cases h1 : id < 1
  · have d1 : decide (id < 1) = true := by simp; omega
    go_enter Tryd.func27, Tryd.ntmps27
    go_wp2_with fail
    refine bodyPost_ret (results_cell_row rfl _ _ (w.heap.size) 58 _ (0, 0) _ rfl HRX.out Tryd.underlying58 rfl (by rw [hi0, Option.map_some, hz1]; rfl)) rfl ?_
    have e9 : d = nd0 := by rw [← HD.out]; exact nodeAt_none (.inl h1)
    rw [e9]
    exact ⟨rfl, HBX.out⟩
  have d1 : decide (id < 1) = false := by simp; omega
  by_cases h2 : (len : Int) < id
  · have d2 : decide ((len : Int) < id) = true := by simp; omega
    go_enter Tryd.func27, Tryd.ntmps27
    go_wp2_with fail
    refine bodyPost_ret (results_cell_row rfl _ _ (w.heap.size) 58 _ (0, 0) _ rfl HRX.out Tryd.underlying58 rfl (by rw [hi0, Option.map_some, hz1]; rfl)) rfl ?_
    have e9 : d = nd0 := by rw [← HD.out]; exact nodeAt_none (.inr (by rw [HL.out]; exact h2))
    rw [e9]
    exact ⟨rfl, HBX.out⟩
  have d2 : decide ((len : Int) < id) = false := by simp; omega
  obtain ⟨i, rfl⟩ : ∃ i : Nat, id = (i : Int) + 1 := ⟨(id - 1).toNat, by omega⟩
  have hil : i < ns.length := by rw [HL.out]; omega
  obtain ⟨g, cap', eV, _, hg, y0, y1, y2, y3, y4, y5, y6, y7⟩ := HA.out.cells i hil
  cases eV
  have hgb := Nat.lt_succ_of_lt hg
  have z0 := (HBX.out.cell (p := ⟨g, i * 8, none⟩) hg).trans y0
  have z1 := (HBX.out.cell (p := ⟨g, i * 8 + 1, none⟩) hg).trans y1
  have z2 := (HBX.out.cell (p := ⟨g, i * 8 + 2, none⟩) hg).trans y2
  have z3 := (HBX.out.cell (p := ⟨g, i * 8 + 3, none⟩) hg).trans y3
  have z4 := (HBX.out.cell (p := ⟨g, i * 8 + 4, none⟩) hg).trans y4
  have z5 := (HBX.out.cell (p := ⟨g, i * 8 + 5, none⟩) hg).trans y5
  have z6 := (HBX.out.cell (p := ⟨g, i * 8 + 6, none⟩) hg).trans y6
  have z7 := (HBX.out.cell (p := ⟨g, i * 8 + 7, none⟩) hg).trans y7
  have ed : d = ns[i] := by
    rw [← HD.out, show (i : Int) + 1 = ((i + 1 : Nat) : Int) by omega]
    exact nodeAt_some (by omega) (by rw [Nat.add_sub_cancel]; exact List.getElem?_eq_getElem hil)
  rw [← ed] at z0 z1 z2 z3 z4 z5 z6 z7
  have hi20 : i ≤ 1048576 := by have := HA.out.le; have := HA.out.room; omega
  have q1 : (0 : Int) ≤ (i : Int) := by omega
  have q2 : (i : Int) < (len : Int) := by omega
  obtain ⟨hw, hw2⟩ := in_i64 hi20
  clear y0 y1 y2 y3 y4 y5 y6 y7 ed c0 c2 hi20 h1 h2
  go_enter Tryd.func27, Tryd.ntmps27
  go_wp2_with fail
  refine bodyPost_ret (results_cell_row rfl _ _ (w.heap.size) 58 _ (0, 0) _ rfl (heap_alloc_new w _) Tryd.underlying58 rfl (by rw [hi0, Option.map_some, hz1]; rfl)) rfl ?_
  exact ⟨rfl, below_lit w _⟩
end Arn
end Go.Proofs.YtlijdgamobpndaaDoor
/-
  The contracts of package arena's small functions: binder, Kind, Arg, Count, New.
  Conditions: the arena lies in memory as told by 'ArM'.
-/
namespace Go.Proofs.YtlijdgamobpndaaDoor
open Go.RowKit Go.Maps
open Lvl
open Trm
namespace Arn
theorem fieldKey (c0 c1 c2 c3 c4 c5 c6 c7 : Value) (w : World) : (Instr.field 58 (.agg #[c0, c1, c2, c3, c4, c5, c6, c7]) 0).run Tryd.prog w = .ok (.agg #[c0, c1, c2, c3, c4, c5, c6]) w := by kernel_rfl
theorem fieldLo (c0 c1 c2 c3 c4 c5 c6 c7 : Value) (w : World) : (Instr.field 58 (.agg #[c0, c1, c2, c3, c4, c5, c6, c7]) 1).run Tryd.prog w = .ok c7 w := by kernel_rfl
theorem keyKind (c0 c1 c2 c3 c4 c5 c6 : Value) (w : World) : (Instr.field 56 (.agg #[c0, c1, c2, c3, c4, c5, c6]) 0).run Tryd.prog w = .ok c0 w := by kernel_rfl
theorem keyArgs (c0 c1 c2 c3 c4 c5 c6 : Value) (w : World) : (Instr.field 56 (.agg #[c0, c1, c2, c3, c4, c5, c6]) 4).run Tryd.prog w = .ok (.agg #[c4, c5, c6]) w := by kernel_rfl
set_option maxRecDepth 100000 in
set_option maxHeartbeats 1000000 in
theorem binder_is (k : Int) (w : World) (b : Int) (hb : bindAt k = b) : Calls Tryd.prog 63 #[.int .i64 k] w (Ret w (.int .i64 b)) := by
  unfold bindAt at hb
  by_cases h5 : k = 5
  · subst h5
    obtain rfl : 1 = b := hb
    go_enter Tryd.func63, Tryd.ntmps63
    go_wp2_with fail
    go_ret
    exact ⟨rfl, Below.refl _ _⟩
  · have e5 : (k == 5) = false := by simp; omega
    by_cases h6 : k = 6
    · subst h6
      obtain rfl : 1 = b := hb
      go_enter Tryd.func63, Tryd.ntmps63
      go_wp2_with fail
      go_ret
      exact ⟨rfl, Below.refl _ _⟩
    · have e6 : (k == 6) = false := by simp; omega
      rw [if_neg (by omega)] at hb
      by_cases h7 : k = 7
      · subst h7
        obtain rfl : 2 = b := hb
        go_enter Tryd.func63, Tryd.ntmps63
        go_wp2_with fail
        go_ret
        exact ⟨rfl, Below.refl _ _⟩
      · have e7 : (k == 7) = false := by simp; omega
        rw [if_neg h7] at hb
        subst hb
        go_enter Tryd.func63, Tryd.ntmps63
        go_wp2_with fail
        go_ret
        exact ⟨rfl, Below.refl _ _⟩
set_option maxRecDepth 100000 in
set_option maxHeartbeats 1000000 in
theorem kind_is (w : World) (base p bm most : Nat) (V : Value) (ns : List Nd) (ha : ArM w base p bm most V ns) (id k : Int) (hk : (nodeAt ns id).key.kd = k) :
    Calls Tryd.prog 13 #[.pointer (some ⟨p, 0, none⟩), .int .i64 id] w (Ret w (.int .i64 k)) := by
  have hf1 := fieldKey
  have hf2 := keyKind
  have hf3 := keyArgs
  have HN := Lib.hid (node_is w base p bm most V ns ha id _ rfl)
  clear ha
  obtain ⟨⟨⟨k0, n0, m0, l0, a0, a1, a2⟩, lo⟩, hd⟩ : ∃ d, nodeAt ns id = d := ⟨_, rfl⟩
  rw [hd] at hk HN
  obtain rfl : k0 = k := hk
  go_enter Tryd.func13, Tryd.ntmps13
  go_wp2_with fail
  refine HN.out.mono ?_
  rintro e w1 ⟨rfl, hb⟩
  dsimp only [nc]
  go_wp2_with fail
  go_ret
  exact ⟨rfl, hb⟩
def argOf (x : Ky) (i : Int) : Nat := if i = 0 then x.a0 else if i = 1 then x.a1 else if i = 2 then x.a2 else 0
set_option maxRecDepth 100000 in
set_option maxHeartbeats 2000000 in
theorem arg_is (w : World) (base p bm most : Nat) (V : Value) (ns : List Nd) (ha : ArM w base p bm most V ns) (id i : Int) (k : Nat) (hk : argOf (nodeAt ns id).key i = k) :
    Calls Tryd.prog 14 #[.pointer (some ⟨p, 0, none⟩), .int .i64 id, .int .i64 i] w (Ret w (.int .i64 k)) := by
  have hf1 := fieldKey
  have hf2 := keyKind
  have hf3 := keyArgs
  have HN := Lib.hid (node_is w base p bm most V ns ha id _ rfl)
  clear ha
  obtain ⟨⟨⟨k0, n0, m0, l0, a0, a1, a2⟩, lo⟩, hd⟩ : ∃ d, nodeAt ns id = d := ⟨_, rfl⟩
  rw [hd] at hk HN
  unfold argOf at hk
  dsimp only at hk
  by_cases h1 : i < 0
  · have d1 : decide (i < 0) = true := by simp; omega
    rw [if_neg (by omega), if_neg (by omega), if_neg (by omega)] at hk
    subst hk
    go_enter Tryd.func14, Tryd.ntmps14
    go_wp2_with fail
    refine HN.out.mono ?_
    rintro e w1 ⟨rfl, hb⟩
    have HB := Lib.hid hb
    clear hb
    dsimp only [nc]
    go_wp2_with fail
    go_ret
    exact ⟨rfl, HB.out.trans ((below_lit w1 _).mono HB.out.size)⟩
  · have d1 : decide (i < 0) = false := by simp; omega
    by_cases h2 : 3 ≤ i
    · have d2 : decide (3 ≤ i) = true := by simp; omega
      rw [if_neg (by omega), if_neg (by omega), if_neg (by omega)] at hk
      subst hk
      go_enter Tryd.func14, Tryd.ntmps14
      go_wp2_with fail
      refine HN.out.mono ?_
      rintro e w1 ⟨rfl, hb⟩
      have HB := Lib.hid hb
      clear hb
      dsimp only [nc]
      go_wp2_with fail
      go_ret
      exact ⟨rfl, HB.out.trans ((below_lit w1 _).mono HB.out.size)⟩
    · have : i = 0 ∨ i = 1 ∨ i = 2 := by omega
      rcases this with rfl | rfl | rfl
      all_goals (
        simp at hk
        subst hk
        go_enter Tryd.func14, Tryd.ntmps14
        go_wp2_with fail
        refine HN.out.mono ?_
        rintro e w1 ⟨rfl, hb⟩
        have HB := Lib.hid hb
        clear hb
        dsimp only [nc]
        go_wp2_with fail
        go_ret
        exact ⟨rfl, HB.out.trans ((below_lit w1 _).mono HB.out.size)⟩)
set_option maxRecDepth 100000 in
set_option maxHeartbeats 1000000 in
theorem count_is (w : World) (base p bm most : Nat) (V : Value) (ns : List Nd) (ha : ArM w base p bm most V ns) (n : Nat) (hn : ns.length = n) :
    Calls Tryd.prog 11 #[.pointer (some ⟨p, 0, none⟩)] w (Ret w (.int .i64 n)) := by
  obtain ⟨c0, c1, c2⟩ := ha.three
  obtain ⟨A, cap, rfl, hcap⟩ := ha.slice
  rw [hn] at c1
  clear ha hn hcap c0 c2
  go_enter Tryd.func11, Tryd.ntmps11
  go_wp2_with fail
  go_ret
  exact ⟨rfl, Below.refl _ _⟩
set_option maxRecDepth 100000 in
set_option maxHeartbeats 1000000 in
theorem new_is (w : World) (most : Nat) (h1 : 1 ≤ most) (h2 : most ≤ 1048576) :
    Calls Tryd.prog 9 #[.int .i64 most] w (fun e w' => ∃ p bm, e = .returned (.tuple #[.pointer (some ⟨p, 0, none⟩), .int .i64 0]) ∧ ArM w' w.heap.size p bm most (.slice none 0 0) [] ∧ Below w.heap.size w w') := by
  have hmm := @run_makeMap Tryd.prog
  have d1 : decide ((most : Int) < 1) = false := by simp; omega
  have d2 : decide ((1048576 : Int) < (most : Int)) = false := by simp; omega
  go_enter Tryd.func9, Tryd.ntmps9
  go_wp2_with fail
  go_ret2
  have hs : (w.alloc (.map #[] 0)).heap.size = w.heap.size + 1 := by simp
  refine ⟨w.heap.size + 1, w.heap.size, rfl, ⟨?_, World.ownsRow_nil _ _ _ _, ⟨.map [], ?_, mapOk_nil⟩, by omega, Nat.le_refl _, Nat.zero_le _, h2, fun d hd => by cases hd⟩, ?_⟩
  · have := heap_alloc_new (w.alloc (.map #[] 0)) (.cells #[.int .i64 most, .slice none 0 0, .map (some w.heap.size)] 51)
    rw [hs] at this
    exact this
  · exact map_keep (World.ownsMap_made w _ _ _) (heap_alloc_old _ _ (by rw [hs]; omega))
  · exact (below_lit w _).trans ((below_lit _ _).mono (by rw [hs]; omega))
end Arn
end Go.Proofs.YtlijdgamobpndaaDoor
/-
  The contract of an arena's 'needs': how many variables a key's node needs.
  Conditions: the arena lies in memory as told by 'ArM', the key's parts have room.
-/
namespace Go.Proofs.YtlijdgamobpndaaDoor
open Go.RowKit Go.Maps
open Lvl
open Trm
namespace Arn
theorem ArM.okAt {w : World} {base p bm most : Nat} {V : Value} {ns : List Nd} (h : ArM w base p bm most V ns) (id : Int) : OkN (nodeAt ns id) := by
  by_cases hi : id < 1 ∨ (ns.length : Int) < id
  · rw [nodeAt_none hi]; exact okN_zero
  · obtain ⟨i, rfl⟩ : ∃ i : Nat, id = ((i + 1 : Nat) : Int) := ⟨(id - 1).toNat, by omega⟩
    have hl : i < ns.length := by omega
    rw [nodeAt_some (d := ns[i]) (by omega) (by rw [Nat.add_sub_cancel]; exact List.getElem?_eq_getElem hl)]
    exact h.good _ (List.getElem_mem hl)
theorem index0 (c0 c1 c2 : Value) (w : World) : (Instr.index 54 (.agg #[c0, c1, c2]) (.int .i64 0)).run Tryd.prog w = .ok c0 w := by kernel_rfl
theorem index1 (c0 c1 c2 : Value) (w : World) : (Instr.index 54 (.agg #[c0, c1, c2]) (.int .i64 1)).run Tryd.prog w = .ok c1 w := by kernel_rfl
theorem index2 (c0 c1 c2 : Value) (w : World) : (Instr.index 54 (.agg #[c0, c1, c2]) (.int .i64 2)).run Tryd.prog w = .ok c2 w := by kernel_rfl
/-- What the loop has come to. -/
def lst (ns : List Nd) (x : Ky) (j : Nat) : Int := if j = 0 then 0 else if j = 1 then max 0 (need ns x 0 x.a0) else if j = 2 then max (max 0 (need ns x 0 x.a0)) (need ns x 1 x.a1) else max (max (max 0 (need ns x 0 x.a0)) (need ns x 1 x.a1)) (need ns x 2 x.a2)
theorem lst_bd {ns : List Nd} {x : Ky} (h : ∀ id, 0 ≤ (nodeAt ns id).lo ∧ (nodeAt ns id).lo ≤ 1152921504606846976) (j : Nat) : 0 ≤ lst ns x j ∧ lst ns x j ≤ 1152921504606846976 := by
  have n0 : need ns x 0 x.a0 ≤ 1152921504606846976 := by unfold need; have := h x.a0; split <;> omega
  have n1 : need ns x 1 x.a1 ≤ 1152921504606846976 := by unfold need; have := h x.a1; split <;> omega
  have n2 : need ns x 2 x.a2 ≤ 1152921504606846976 := by unfold need; have := h x.a2; split <;> omega
  unfold lst
  split
  · omega
  · split
    · omega
    · split <;> omega
def argI (x : Ky) (j : Nat) : Nat := if j = 0 then x.a0 else if j = 1 then x.a1 else x.a2
theorem lst_step (ns : List Nd) (x : Ky) (j : Nat) (h : j < 3) : lst ns x (j + 1) = max (lst ns x j) (need ns x j (argI x j)) := by
  have : j = 0 ∨ j = 1 ∨ j = 2 := by omega
  rcases this with rfl | rfl | rfl <;> rfl
theorem lo_less {l : Int} (h0 : 0 ≤ l) (h1 : l ≤ 1152921504606846976) : IntKind.i64.wrap (l - 1) = l - 1 ∧ wrap64 (l - 1) = l - 1 := ⟨IntWalk.i64_in _ ⟨by omega, by omega⟩, IntWalk.wrap64_in _ ⟨by omega, by omega⟩⟩
theorem n_more {l : Int} (h0 : -9223372036854775808 ≤ l) (h1 : l < 9223372036854775807) : IntKind.i64.wrap (l + 1) = l + 1 ∧ wrap64 (l + 1) = l + 1 := ⟨IntWalk.i64_in _ ⟨by omega, by omega⟩, IntWalk.wrap64_in _ ⟨by omega, by omega⟩⟩
theorem seven_cells {w : World} {b : Nat} {x0 x1 x2 x3 x4 x5 x6 : Value} {T : TypeId} (h : w.heap[b]? = some (.cells #[x0, x1, x2, x3, x4, x5, x6] T (0, 0))) : w.cell? ⟨b, 0, none⟩ = some x0 ∧ w.cell? ⟨b, 1, none⟩ = some x1 ∧ w.cell? ⟨b, 2, none⟩ = some x2 ∧ w.cell? ⟨b, 3, none⟩ = some x3 ∧ w.cell? ⟨b, 4, none⟩ = some x4 ∧ w.cell? ⟨b, 5, none⟩ = some x5 ∧ w.cell? ⟨b, 6, none⟩ = some x6 :=
  ⟨cell_of_row _ _ 0 _ T (0, 0) h, cell_of_row _ _ 1 _ T (0, 0) h, cell_of_row _ _ 2 _ T (0, 0) h, cell_of_row _ _ 3 _ T (0, 0) h, cell_of_row _ _ 4 _ T (0, 0) h, cell_of_row _ _ 5 _ T (0, 0) h, cell_of_row _ _ 6 _ T (0, 0) h⟩

set_option maxRecDepth 100000 in
set_option maxHeartbeats 600000 in
theorem needs_is (w : World) (base p bm most : Nat) (V : Value) (ns : List Nd) (ha : ArM w base p bm most V ns) (x : Ky) (hx : OkK x) (hn : x.n < 9223372036854775807) (r : Int) (hr : needs ns x = r) :
    Calls Tryd.prog 50 #[.pointer (some ⟨p, 0, none⟩), .agg (kc x)] w (Ret w (.int .i64 r)) := by
  have HA := Lib.hid ha
  obtain ⟨k0, n0, m0, l0, a0, a1, a2⟩ := x
  obtain ⟨_, hx1, _, _, hx4, hx5, hx6⟩ := hx
  dsimp only at hx1 hx4 hx5 hx6 hn
  dsimp only [kc]
  have HR := Lib.hid hr
  have hf1 := fieldLo
  have hi0 := index0
  have hi1 := index1
  have hi2 := index2
  have hb := below_lit w (.cells #[.int .i64 k0, .int .i64 n0, .string m0, .string l0, .int .i64 a0, .int .i64 a1, .int .i64 a2] 56)
  have hrw := heap_alloc_new w (.cells #[.int .i64 k0, .int .i64 n0, .string m0, .string l0, .int .i64 a0, .int .i64 a1, .int .i64 a2] 56)
  have HB := Lib.hid hb
  have HRW := Lib.hid hrw
  obtain ⟨c0, c1, c2, c3, c4, c5, c6⟩ := seven_cells hrw
  clear ha hr hb hrw
  by_cases hk : k0 = 1
  · subst hk
    have hr9 : r = n0 + 1 := by rw [← HR.out]; rfl
    obtain ⟨hw, hw2⟩ := n_more hx1.1 hn
    go_enter Tryd.func50, Tryd.ntmps50
    go_wp2_with fail
    go_ret
    exact ⟨rfl, HB.out⟩
  · have d1 : (k0 == 1) = false := by simp; exact hk
    have HRR : Hid (lst ns ⟨k0, n0, m0, l0, a0, a1, a2⟩ 3 = r) := by
      have : lst ns ⟨k0, n0, m0, l0, a0, a1, a2⟩ 3 = r := by
        rw [← HR.out]
        unfold needs
        rw [if_neg hk]
        rfl
      exact this
    have HLO : Hid (∀ id, 0 ≤ (nodeAt ns id).lo ∧ (nodeAt ns id).lo ≤ 1152921504606846976) := fun id => (HA.out.okAt id).2
    obtain ⟨X, hX⟩ : ∃ X : Ky, (⟨k0, n0, m0, l0, a0, a1, a2⟩ : Ky) = X := ⟨_, rfl⟩
    have HX := Lib.hid hX
    rw [hX] at HRR
    clear hX HR
    obtain ⟨bd, hbd⟩ : ∃ b, bindAt k0 = b := ⟨_, rfl⟩
    have HBD := Lib.hid hbd
    clear hbd hn hx1
    go_enter Tryd.func50, Tryd.ntmps50
    go_wp2_with fail
    generalize hW : w.alloc (.cells #[.int .i64 k0, .int .i64 n0, .string m0, .string l0, .int .i64 a0, .int .i64 a1, .int .i64 a2] 56) = W at *
    have hWs : W.heap.size = w.heap.size + 1 := by rw [← hW]; simp
    clear hW c1 c2 c3 c4 c5 c6
    go_loopw [5, 6, 7, 8, 17] (fun l _ _ _ i wr => ∃ (j : Nat) (acc : Int), j ≤ 3 ∧ i = .int .i64 j ∧ l = .int .i64 acc ∧ Hid (lst ns X j = acc) ∧ Hid (Below W.heap.size W wr)) (fun _ _ _ _ i _ => 3 - (intOf i).toNat)
    case atStart => exact ⟨0, 0, by omega, rfl, rfl, show lst ns X 0 = 0 from rfl, Below.refl _ _⟩
    case round =>
      obtain ⟨j, acc, hj, rfl, rfl, hac, hgr⟩ := hrel
      by_cases hlt : j < 3
      · have hln : decide ((j : Int) < 3) = true := by simp; omega
        have HBr := Lib.hid (HB.out.trans (hgr.out.mono HB.out.size))
        have b0 : wr.cell? ⟨w.heap.size, 0, none⟩ = some (.int .i64 k0) := (hgr.out.cell (p := ⟨w.heap.size, 0, none⟩) (by show w.heap.size < _; omega)).trans c0
        have HAr := Lib.hid (HA.out.below HBr.out)
        have hac0 := lst_bd (x := X) HLO.out j
        rw [hac.out] at hac0
        have HST := Lib.hid (lst_step ns X j hlt)
        have hjj : j = 0 ∨ j = 1 ∨ j = 2 := by omega
        rcases hjj with rfl | rfl | rfl
        · have HN := Lib.hid (node_is wr base p bm most V ns HAr.out (a0 : Int) _ rfl)
          obtain ⟨⟨⟨k9, n9, m9, l9, x9, y9, z9⟩, lo⟩, hd⟩ : ∃ d, nodeAt ns (a0 : Int) = d := ⟨_, rfl⟩
          rw [hd] at HN
          have hlo := HLO.out (a0 : Int)
          rw [hd] at hlo
          dsimp only at hlo
          have HND : Hid (need ns X 0 (argI X 0) = if (0 : Int) = bd then lo - 1 else lo) := by
            have : need ns X 0 (argI X 0) = if (0 : Int) = bd then lo - 1 else lo := by
              rw [← HX.out]
              unfold need
              rw [show argI (⟨k0, n0, m0, l0, a0, a1, a2⟩ : Ky) 0 = a0 from rfl, hd, HBD.out]
              rfl
            exact this
          clear hd
          go_wp2_with fail
          refine HN.out.mono ?_
          rintro e u1 ⟨rfl, hb⟩
          have HU1 := Lib.hid (hgr.out.trans (hb.mono hgr.out.size))
          have b1 := (hb.cell (p := ⟨w.heap.size, 0, none⟩) (by have := hgr.out.size; show w.heap.size < _; omega)).trans b0
          clear hb b0
          dsimp only [nc]
          go_wp2_with fail
          refine (binder_is k0 u1 bd HBD.out).mono ?_
          rintro e u2 ⟨rfl, hb⟩
          have HU2 := Lib.hid (HU1.out.trans (hb.mono HU1.out.size))
          clear hb b1
          by_cases hbd : (0 : Int) = bd
          · have HNX : Hid (lst ns X 1 = max acc (lo - 1)) := by
              have : lst ns X 1 = max acc (lo - 1) := by
                have h1 := HST.out
                have h2 := HND.out
                have h3 := hac.out
                rw [if_pos hbd] at h2
                rw [h2, h3] at h1
                exact h1
              exact this
            subst hbd
            by_cases hcm : acc ≤ lo - 1
            · have hmm : max acc (lo - 1) = lo - 1 := by omega
              have hww := lo_less hlo.1 hlo.2
              obtain ⟨hw, hw2⟩ := hww
              clear hlo hac0 hcm
              go_wp2_with fail
              clear hw hw2
              go_roundw
              case rel => exact ⟨1, lo - 1, by omega, rfl, by first | rfl | exact congrArg (Value.int .i64) (by split <;> omega), HNX.out.trans hmm, HU2.out⟩
              case measure => simp [intOf]
            · have hmm : max acc (lo - 1) = acc := by omega
              have hcm2 : lo - 1 ≤ acc := by omega
              have hww := lo_less hlo.1 hlo.2
              obtain ⟨hw, hw2⟩ := hww
              clear hlo hac0 hcm
              go_wp2_with fail
              clear hw hw2
              go_roundw
              case rel => exact ⟨1, acc, by omega, rfl, by first | rfl | exact congrArg (Value.int .i64) (by split <;> omega), HNX.out.trans hmm, HU2.out⟩
              case measure => simp [intOf]
          · have HNX : Hid (lst ns X 1 = max acc lo) := by
              have : lst ns X 1 = max acc lo := by
                have h1 := HST.out
                have h2 := HND.out
                have h3 := hac.out
                rw [if_neg hbd] at h2
                rw [h2, h3] at h1
                exact h1
              exact this
            have dbd : ((0 : Int) == bd) = false := by simp; omega
            clear hbd
            by_cases hcm : acc ≤ lo
            · have hmm : max acc lo = lo := by omega
              go_wp2_with fail
              go_roundw
              case rel => exact ⟨1, lo, by omega, rfl, by first | rfl | exact congrArg (Value.int .i64) (by split <;> omega), HNX.out.trans hmm, HU2.out⟩
              case measure => simp [intOf]
            · have hmm : max acc lo = acc := by omega
              have hcm2 : lo ≤ acc := by omega
              go_wp2_with fail
              go_roundw
              case rel => exact ⟨1, acc, by omega, rfl, by first | rfl | exact congrArg (Value.int .i64) (by split <;> omega), HNX.out.trans hmm, HU2.out⟩
              case measure => simp [intOf]
        · have HN := Lib.hid (node_is wr base p bm most V ns HAr.out (a1 : Int) _ rfl)
          obtain ⟨⟨⟨k9, n9, m9, l9, x9, y9, z9⟩, lo⟩, hd⟩ : ∃ d, nodeAt ns (a1 : Int) = d := ⟨_, rfl⟩
          rw [hd] at HN
          have hlo := HLO.out (a1 : Int)
          rw [hd] at hlo
          dsimp only at hlo
          have HND : Hid (need ns X 1 (argI X 1) = if (1 : Int) = bd then lo - 1 else lo) := by
            have : need ns X 1 (argI X 1) = if (1 : Int) = bd then lo - 1 else lo := by
              rw [← HX.out]
              unfold need
              rw [show argI (⟨k0, n0, m0, l0, a0, a1, a2⟩ : Ky) 1 = a1 from rfl, hd, HBD.out]
              rfl
            exact this
          clear hd
          go_wp2_with fail
          refine HN.out.mono ?_
          rintro e u1 ⟨rfl, hb⟩
          have HU1 := Lib.hid (hgr.out.trans (hb.mono hgr.out.size))
          have b1 := (hb.cell (p := ⟨w.heap.size, 0, none⟩) (by have := hgr.out.size; show w.heap.size < _; omega)).trans b0
          clear hb b0
          dsimp only [nc]
          go_wp2_with fail
          refine (binder_is k0 u1 bd HBD.out).mono ?_
          rintro e u2 ⟨rfl, hb⟩
          have HU2 := Lib.hid (HU1.out.trans (hb.mono HU1.out.size))
          clear hb b1
          by_cases hbd : (1 : Int) = bd
          · have HNX : Hid (lst ns X 2 = max acc (lo - 1)) := by
              have : lst ns X 2 = max acc (lo - 1) := by
                have h1 := HST.out
                have h2 := HND.out
                have h3 := hac.out
                rw [if_pos hbd] at h2
                rw [h2, h3] at h1
                exact h1
              exact this
            subst hbd
            by_cases hcm : acc ≤ lo - 1
            · have hmm : max acc (lo - 1) = lo - 1 := by omega
              have hww := lo_less hlo.1 hlo.2
              obtain ⟨hw, hw2⟩ := hww
              clear hlo hac0 hcm
              go_wp2_with fail
              clear hw hw2
              go_roundw
              case rel => exact ⟨2, lo - 1, by omega, rfl, by first | rfl | exact congrArg (Value.int .i64) (by split <;> omega), HNX.out.trans hmm, HU2.out⟩
              case measure => simp [intOf]
            · have hmm : max acc (lo - 1) = acc := by omega
              have hcm2 : lo - 1 ≤ acc := by omega
              have hww := lo_less hlo.1 hlo.2
              obtain ⟨hw, hw2⟩ := hww
              clear hlo hac0 hcm
              go_wp2_with fail
              clear hw hw2
              go_roundw
              case rel => exact ⟨2, acc, by omega, rfl, by first | rfl | exact congrArg (Value.int .i64) (by split <;> omega), HNX.out.trans hmm, HU2.out⟩
              case measure => simp [intOf]
          · have HNX : Hid (lst ns X 2 = max acc lo) := by
              have : lst ns X 2 = max acc lo := by
                have h1 := HST.out
                have h2 := HND.out
                have h3 := hac.out
                rw [if_neg hbd] at h2
                rw [h2, h3] at h1
                exact h1
              exact this
            have dbd : ((1 : Int) == bd) = false := by simp; omega
            clear hbd
            by_cases hcm : acc ≤ lo
            · have hmm : max acc lo = lo := by omega
              go_wp2_with fail
              go_roundw
              case rel => exact ⟨2, lo, by omega, rfl, by first | rfl | exact congrArg (Value.int .i64) (by split <;> omega), HNX.out.trans hmm, HU2.out⟩
              case measure => simp [intOf]
            · have hmm : max acc lo = acc := by omega
              have hcm2 : lo ≤ acc := by omega
              go_wp2_with fail
              go_roundw
              case rel => exact ⟨2, acc, by omega, rfl, by first | rfl | exact congrArg (Value.int .i64) (by split <;> omega), HNX.out.trans hmm, HU2.out⟩
              case measure => simp [intOf]
        · have HN := Lib.hid (node_is wr base p bm most V ns HAr.out (a2 : Int) _ rfl)
          obtain ⟨⟨⟨k9, n9, m9, l9, x9, y9, z9⟩, lo⟩, hd⟩ : ∃ d, nodeAt ns (a2 : Int) = d := ⟨_, rfl⟩
          rw [hd] at HN
          have hlo := HLO.out (a2 : Int)
          rw [hd] at hlo
          dsimp only at hlo
          have HND : Hid (need ns X 2 (argI X 2) = if (2 : Int) = bd then lo - 1 else lo) := by
            have : need ns X 2 (argI X 2) = if (2 : Int) = bd then lo - 1 else lo := by
              rw [← HX.out]
              unfold need
              rw [show argI (⟨k0, n0, m0, l0, a0, a1, a2⟩ : Ky) 2 = a2 from rfl, hd, HBD.out]
              rfl
            exact this
          clear hd
          go_wp2_with fail
          refine HN.out.mono ?_
          rintro e u1 ⟨rfl, hb⟩
          have HU1 := Lib.hid (hgr.out.trans (hb.mono hgr.out.size))
          have b1 := (hb.cell (p := ⟨w.heap.size, 0, none⟩) (by have := hgr.out.size; show w.heap.size < _; omega)).trans b0
          clear hb b0
          dsimp only [nc]
          go_wp2_with fail
          refine (binder_is k0 u1 bd HBD.out).mono ?_
          rintro e u2 ⟨rfl, hb⟩
          have HU2 := Lib.hid (HU1.out.trans (hb.mono HU1.out.size))
          clear hb b1
          by_cases hbd : (2 : Int) = bd
          · have HNX : Hid (lst ns X 3 = max acc (lo - 1)) := by
              have : lst ns X 3 = max acc (lo - 1) := by
                have h1 := HST.out
                have h2 := HND.out
                have h3 := hac.out
                rw [if_pos hbd] at h2
                rw [h2, h3] at h1
                exact h1
              exact this
            subst hbd
            by_cases hcm : acc ≤ lo - 1
            · have hmm : max acc (lo - 1) = lo - 1 := by omega
              have hww := lo_less hlo.1 hlo.2
              obtain ⟨hw, hw2⟩ := hww
              clear hlo hac0 hcm
              go_wp2_with fail
              clear hw hw2
              go_roundw
              case rel => exact ⟨3, lo - 1, by omega, rfl, by first | rfl | exact congrArg (Value.int .i64) (by split <;> omega), HNX.out.trans hmm, HU2.out⟩
              case measure => simp [intOf]
            · have hmm : max acc (lo - 1) = acc := by omega
              have hcm2 : lo - 1 ≤ acc := by omega
              have hww := lo_less hlo.1 hlo.2
              obtain ⟨hw, hw2⟩ := hww
              clear hlo hac0 hcm
              go_wp2_with fail
              clear hw hw2
              go_roundw
              case rel => exact ⟨3, acc, by omega, rfl, by first | rfl | exact congrArg (Value.int .i64) (by split <;> omega), HNX.out.trans hmm, HU2.out⟩
              case measure => simp [intOf]
          · have HNX : Hid (lst ns X 3 = max acc lo) := by
              have : lst ns X 3 = max acc lo := by
                have h1 := HST.out
                have h2 := HND.out
                have h3 := hac.out
                rw [if_neg hbd] at h2
                rw [h2, h3] at h1
                exact h1
              exact this
            have dbd : ((2 : Int) == bd) = false := by simp; omega
            clear hbd
            by_cases hcm : acc ≤ lo
            · have hmm : max acc lo = lo := by omega
              go_wp2_with fail
              go_roundw
              case rel => exact ⟨3, lo, by omega, rfl, by first | rfl | exact congrArg (Value.int .i64) (by split <;> omega), HNX.out.trans hmm, HU2.out⟩
              case measure => simp [intOf]
            · have hmm : max acc lo = acc := by omega
              have hcm2 : lo ≤ acc := by omega
              go_wp2_with fail
              go_roundw
              case rel => exact ⟨3, acc, by omega, rfl, by first | rfl | exact congrArg (Value.int .i64) (by split <;> omega), HNX.out.trans hmm, HU2.out⟩
              case measure => simp [intOf]
      · obtain rfl : j = 3 := by omega
        have hln : decide (((3 : Nat) : Int) < 3) = false := by decide
        have hln2 : decide ((3 : Int) < 3) = false := by decide
        obtain rfl : acc = r := hac.out.symm.trans HRR.out
        go_wp2_with fail
        go_ret
        exact ⟨rfl, HB.out.trans (hgr.out.mono HB.out.size)⟩
end Arn
end Go.Proofs.YtlijdgamobpndaaDoor
/-
  The contracts of an arena's 'gather' and 'Shared': what a number leads to, each number once.
  Conditions: the arena lies in memory as told by 'ArM', each node's arguments ahead of it.
-/
namespace Go.Proofs.YtlijdgamobpndaaDoor
open Go.RowKit Go.Maps
open Lvl
open Trm
namespace Arn
theorem intKey : Keyed Tryd.prog 3 := int_keyed Tryd.underlying3
theorem zeroUnit (w : World) : (zeroValue 73).run Tryd.prog w = .ok (.agg #[]) w := by kernel_rfl
theorem int_key (n : Nat) (h : n ≤ 1048576) : Go.keyOf Tryd.prog 3 (.int .i64 (n : Nat)) = some (.int .i64 (n : Nat)) := keyOf_int_mk Tryd.underlying3 (WalkArith.wf_i64 (by omega))
/-- A set as read, of these numbers. -/
structure SetIs (D : DataW Unit) (S : List Nat) : Prop where
  size : Maps.size D = S.length
  has : ∀ n : Nat, n ≤ 1048576 → Maps.has D (.int .i64 (n : Nat)) = decide (n ∈ S)
theorem setIs_nil : SetIs (.map []) [] := ⟨rfl, fun _ _ => rfl⟩
theorem SetIs.put {D : DataW Unit} {S : List Nat} (h : SetIs D S) (ht : Tidy D) {id : Nat} (h1 : id ≤ 1048576) (h2 : id ∉ S) : SetIs (D.put (.int .i64 (id : Nat)) (.agg [])) (S ++ [id]) := by
  have hh := h.has id h1
  rw [decide_eq_false h2] at hh
  refine ⟨by rw [size_put ht, hh, List.length_append, h.size]; rfl, fun n hn => ?_⟩
  by_cases e : n = id
  · subst e
    rw [has_put_same ht.isMap (Keyed.key intKey (int_key n h1))]
    simp
  · have hne : (Lit.int .i64 (n : Nat)) ≠ .int .i64 (id : Nat) := fun h => e (by injection h with _ h; omega)
    rw [has_put_other hne, h.has n hn]
    simp [e]
theorem ArM.grown {w w' : World} {base p bm most : Nat} {V : Value} {ns : List Nd} (h : ArM w base p bm most V ns) {x : Nat} (hg : w.grownBy w' (some x)) (h1 : p ≠ x) (h2 : bm ≠ x) (h3 : V.ownBlock ≠ some x) : ArM w' base p bm most V ns := by
  obtain ⟨D, d1, d2⟩ := h.map
  exact ⟨(hg.block p h.plt (fun e => h1 (by cases e; rfl))).trans h.row, own_keep h.own fun g hg' => hg.block g (h.vlt g hg').2 (fun e => h3 (by cases e; exact hg')), ⟨D, map_keep d1 (hg.block bm h.mlt (fun e => h2 (by cases e; rfl))), d2⟩, h.pb, h.mb, h.le, h.room, h.good⟩
theorem gb_below {w w' : World} {x : Nat} (h : Below w.heap.size w w') : w.grownBy w' (some x) := ⟨h.os, h.tape, h.output, h.size, fun k hk _ => h.block k hk⟩
theorem gb_trans {w w' w'' : World} {r : Option Nat} (h : w.grownBy w' r) (k : w'.grownBy w'' r) : w.grownBy w'' r := ⟨k.os.trans h.os, k.tape.trans h.tape, k.output.trans h.output, Nat.le_trans h.size k.size, fun i hi hr => (k.block i (Nat.lt_of_lt_of_le hi h.size) hr).trans (h.block i hi hr)⟩
/-- What the loop has come to. -/
def tst (ns : List Nd) (f a0 a1 a2 : Nat) (S : List Nat) (j : Nat) : List Nat := if j = 0 then S else if j = 1 then gat ns f a0 S else if j = 2 then gat ns f a1 (gat ns f a0 S) else gat ns f a2 (gat ns f a1 (gat ns f a0 S))
def GatRet (ns : List Nd) (sm f id : Nat) (S : List Nat) (w : World) (e : Ending) (w' : World) : Prop :=
  e = .returned (.tuple #[]) ∧ (∃ D', w'.ownsMap Tryd.prog 3 unitElem sm (gat ns f id S).length D' ∧ SetIs D' (gat ns f id S)) ∧ w.grownBy w' (some sm)

set_option maxRecDepth 100000 in
set_option maxHeartbeats 1000000 in
theorem gather_up (base p bm most sm : Nat) (V : Value) (ns : List Nd) (hah : Ahead ns) (h1 : p ≠ sm) (h2 : bm ≠ sm) (h3 : V.ownBlock ≠ some sm) (hl20 : ns.length ≤ 1048576) : ∀ (f id : Nat) (S : List Nat) (D : DataW Unit) (w : World), id < f → id ≤ 1048576 → S.Nodup → (∀ x ∈ S, 1 ≤ x ∧ x ≤ ns.length) → ArM w base p bm most V ns → w.ownsMap Tryd.prog 3 unitElem sm S.length D → SetIs D S →
    Calls Tryd.prog 26 #[.pointer (some ⟨p, 0, none⟩), .int .i64 (id : Nat), .map (some sm)] w (GatRet ns sm f id S w) := by
  intro f
  induction f with
  | zero => intro id S D w h; omega
  | succ f ih =>
  intro id S D w hf hid hnd hsl ha hown hset
  have IH := Lib.hid ih
  have HA := Lib.hid ha
  have HS := Lib.hid hset
  have HND := Lib.hid hnd
  have HSL := Lib.hid hsl
  have HN := Lib.hid (node_is w base p bm most V ns ha (id : Nat) _ rfl)
  have HOW := Lib.hid hown
  have HH := Lib.hid hah
  obtain ⟨⟨⟨k0, n0, m0, l0, a0, a1, a2⟩, lo⟩, hd⟩ : ∃ d, nodeAt ns (id : Nat) = d := ⟨_, rfl⟩
  rw [hd] at HN
  have HD := Lib.hid hd
  have hkey := int_key id hid
  have hhas := hset.has id hid
  have hsm := hown.lt
  have hlen : S.length ≤ 1048576 := Nat.le_trans (nodup_bd _ S hnd hsl) hl20
  have hfi := index0
  have hfi1 := index1
  have hfi2 := index2
  clear ih ha hset hown hd hnd hsl hah
  go_enter Tryd.func26, Tryd.ntmps26
  go_wp2_with fail
  refine HN.out.mono ?_
  rintro e w1 ⟨rfl, hb1⟩
  dsimp only [nc]
  have HB1 := Lib.hid hb1
  have hn1 := below_lit w1 (.cells #[.int .i64 k0, .int .i64 n0, .string m0, .string l0, .int .i64 (a0 : Nat), .int .i64 (a1 : Nat), .int .i64 (a2 : Nat), .int .i64 lo] 58)
  have hrn := heap_alloc_new w1 (.cells #[.int .i64 k0, .int .i64 n0, .string m0, .string l0, .int .i64 (a0 : Nat), .int .i64 (a1 : Nat), .int .i64 (a2 : Nat), .int .i64 lo] 58)
  have hzn : (w1.alloc (.cells #[.int .i64 k0, .int .i64 n0, .string m0, .string l0, .int .i64 (a0 : Nat), .int .i64 (a1 : Nat), .int .i64 (a2 : Nat), .int .i64 lo] 58)).heap.size = w1.heap.size + 1 := by simp
  have hb2 := hb1.trans (hn1.mono hb1.size)
  have how2 : (w1.alloc (.cells #[.int .i64 k0, .int .i64 n0, .string m0, .string l0, .int .i64 (a0 : Nat), .int .i64 (a1 : Nat), .int .i64 (a2 : Nat), .int .i64 lo] 58)).ownsMap Tryd.prog 3 unitElem sm S.length D := by
    obtain ⟨es, ck, q1, q2⟩ := HOW.out
    exact ⟨es, ck, (hb2.block sm hsm).trans q1, q2⟩
  have HB2 := Lib.hid hb2
  have HRN := Lib.hid hrn
  have HZN := Lib.hid hzn
  have hsz1 := hb1.size
  obtain ⟨e0, e1, e2, e3, e4, e5, e6, e7⟩ := eight_cells hrn
  clear hb1 hn1 hrn hzn hb2
  by_cases hm : id ∈ S
  · rw [decide_eq_true hm] at hhas
    go_wp2_with (at_lookup; refine wpList_lookup_own_unit _ rfl _ _ 52 rfl 3 73 intKey Tryd.underlying52 (zeroUnit _) sm S.length D rfl how2 _ _ rfl hkey ?_)
    refine bodyPost_ret (results_none rfl _ _ _) rfl ?_
    unfold GatRet
    rw [gat, if_pos (.inl hm)]
    exact ⟨rfl, ⟨D, World.ownsMap.alloc how2 _, HS.out⟩, gb_below (HB2.out.trans ((below_lit _ _).mono HB2.out.size))⟩
  · rw [decide_eq_false hm] at hhas
    by_cases hk : k0 = 0
    · subst hk
      go_wp2_with (at_lookup; refine wpList_lookup_own_unit _ rfl _ _ 52 rfl 3 73 intKey Tryd.underlying52 (zeroUnit _) sm S.length D rfl how2 _ _ rfl hkey ?_)
      refine bodyPost_ret (results_none rfl _ _ _) rfl ?_
      unfold GatRet
      rw [gat, if_pos (.inr (by rw [HD.out]))]
      exact ⟨rfl, ⟨D, World.ownsMap.alloc how2 _, HS.out⟩, gb_below (HB2.out.trans ((below_lit _ _).mono HB2.out.size))⟩
    · have dk : (k0 == 0) = false := by simp; exact hk
      have hidr : 1 ≤ id ∧ id ≤ ns.length := by
        by_cases h9 : (id : Int) < 1 ∨ (ns.length : Int) < id
        · exfalso
          have h8 := HD.out
          rw [nodeAt_none h9] at h8
          cases h8
          exact hk rfl
        · omega
      obtain ⟨b0, b1, b2⟩ : a0 ≤ id - 1 ∧ a1 ≤ id - 1 ∧ a2 ≤ id - 1 := by
        obtain ⟨d, hd⟩ : ∃ d, ns[id - 1]? = some d := ⟨_, List.getElem?_eq_getElem (by omega)⟩
        have h8 := HD.out
        rw [nodeAt_some hidr.1 hd] at h8
        have h9 := (HH.out (id - 1) d hd).2
        rw [h8] at h9
        exact h9
      have how3 := World.ownsMap.alloc how2 (.cells #[] 73)
      have htid := World.ownsMap.tidy how3 intKey
      have HGW : Hid (w.grownBy ((w1.alloc (.cells #[.int .i64 k0, .int .i64 n0, .string m0, .string l0, .int .i64 (a0 : Nat), .int .i64 (a1 : Nat), .int .i64 (a2 : Nat), .int .i64 lo] 58)).alloc (.cells #[] 73)) (some sm)) := gb_below (HB2.out.trans ((below_lit _ _).mono HB2.out.size))
      have HR3 := Lib.hid ((heap_alloc_old (w1.alloc (.cells #[.int .i64 k0, .int .i64 n0, .string m0, .string l0, .int .i64 (a0 : Nat), .int .i64 (a1 : Nat), .int .i64 (a2 : Nat), .int .i64 lo] 58)) (.cells #[] 73) (by rw [HZN.out]; omega)).trans HRN.out)
      have hz3 : w1.heap.size < ((w1.alloc (.cells #[.int .i64 k0, .int .i64 n0, .string m0, .string l0, .int .i64 (a0 : Nat), .int .i64 (a1 : Nat), .int .i64 (a2 : Nat), .int .i64 lo] 58)).alloc (.cells #[] 73)).heap.size := by simp; omega
      have HZ3 := Lib.hid hz3
      have hml : S.length < maxLen := by unfold maxLen; omega
      clear hz3
      go_wp2_with (first | (at_lookup; refine wpList_lookup_own_unit _ rfl _ _ 52 rfl 3 73 intKey Tryd.underlying52 (zeroUnit _) sm S.length D rfl how2 _ _ rfl hkey ?_) | (at_mapUpdate; refine wpList_mapUpdate_own _ rfl _ _ _ 52 rfl 3 73 intKey Tryd.underlying52 unitElem sm S.length D rfl how3 hml _ _ (.int .i64 (id : Nat)) rfl rfl hkey (.agg []) [] unitElem_mk ?_))
      intro w5 hown5 hgrow5
      have HS5 := Lib.hid (HS.out.put htid hid hm)
      have HG5 := Lib.hid (gb_trans HGW.out hgrow5)
      have HO5 : Hid (w5.ownsMap Tryd.prog 3 unitElem sm (S ++ [id]).length (D.put (.int .i64 (id : Nat)) (.agg []))) := by
        have : w5.ownsMap Tryd.prog 3 unitElem sm (S ++ [id]).length (D.put (.int .i64 (id : Nat)) (.agg [])) := by rw [List.length_append]; exact hown5
        exact this
      have hr5 := (hgrow5.block w1.heap.size HZ3.out (fun e => by cases e; omega)).trans HR3.out
      obtain ⟨x0, x1, x2, x3, x4, x5, x6, x7⟩ := eight_cells hr5
      have HN1 : Hid ((S ++ [id]).Nodup ∧ ∀ x ∈ S ++ [id], 1 ≤ x ∧ x ≤ ns.length) := by
        have : (S ++ [id]).Nodup ∧ ∀ x ∈ S ++ [id], 1 ≤ x ∧ x ≤ ns.length := by
          refine ⟨?_, fun x hx => ?_⟩
          · rw [List.nodup_append]
            refine ⟨HND.out, by simp, fun a h1 b h2 e => ?_⟩
            simp at h2
            subst h2
            subst e
            exact hm h1
          · rcases List.mem_append.1 hx with hx | hx
            · exact HSL.out x hx
            · simp at hx; omega
        exact this
      have HE : Hid (gat ns (f + 1) id S = tst ns f a0 a1 a2 (S ++ [id]) 3) := by
        have : gat ns (f + 1) id S = tst ns f a0 a1 a2 (S ++ [id]) 3 := by
          rw [gat, HD.out, if_neg (fun h => by rcases h with h | h; exact hm h; exact hk h)]
          rfl
        exact this
      clear hown5 hgrow5 hr5 how2 how3 htid hhas dk hkey e0 e1 e2 e3 e4 e5 e6 e7 hml
      generalize S ++ [id] = S0 at *
      go_wp2_with fail
      go_loopw [10, 33] (fun _ i wr => ∃ (j : Nat) (D' : DataW Unit), j ≤ 3 ∧ i = .int .i64 j ∧ Hid (wr.ownsMap Tryd.prog 3 unitElem sm (tst ns f a0 a1 a2 S0 j).length D') ∧ Hid (SetIs D' (tst ns f a0 a1 a2 S0 j)) ∧ Hid ((tst ns f a0 a1 a2 S0 j).Nodup ∧ ∀ x ∈ tst ns f a0 a1 a2 S0 j, 1 ≤ x ∧ x ≤ ns.length) ∧ Hid (w.grownBy wr (some sm))) (fun _ i _ => 3 - (intOf i).toNat)
      case atStart => exact ⟨0, _, by omega, rfl, HO5.out, HS5.out, HN1.out, HG5.out⟩
      case round =>
        obtain ⟨j, D', hj, rfl, howj, hsj, hnj, hgr⟩ := hrel
        by_cases hlt : j < 3
        · have hln : decide ((j : Int) < 3) = true := by simp; omega
          have HAr := Lib.hid (HA.out.grown hgr.out h1 h2 h3)
          have hjj : j = 0 ∨ j = 1 ∨ j = 2 := by omega
          rcases hjj with rfl | rfl | rfl
          · have hcall := IH.out a0 (tst ns f a0 a1 a2 S0 0) D' wr (by omega) (by omega) hnj.out.1 hnj.out.2 HAr.out howj.out hsj.out
            have HCALL := Lib.hid hcall
            have hgi := gat_is HH.out f a0 (tst ns f a0 a1 a2 S0 0) (by omega) hnj.out.1 hnj.out.2
            have HGI := Lib.hid hgi
            clear hcall hgi
            go_wp2_with fail
            refine HCALL.out.mono ?_
            rintro e w6 ⟨rfl, ⟨D6, how6, hs6⟩, hg6⟩
            have HO6 := Lib.hid how6
            have HS6 := Lib.hid hs6
            have HG6 := Lib.hid hg6
            clear how6 hs6 hg6
            go_wp2_with fail
            go_roundw
            case rel => exact ⟨1, D6, by omega, rfl, HO6.out, HS6.out, ⟨HGI.out.nodup, HGI.out.len⟩, gb_trans hgr.out HG6.out⟩
            case measure => simp [intOf]
          · have hcall := IH.out a1 (tst ns f a0 a1 a2 S0 1) D' wr (by omega) (by omega) hnj.out.1 hnj.out.2 HAr.out howj.out hsj.out
            have HCALL := Lib.hid hcall
            have hgi := gat_is HH.out f a1 (tst ns f a0 a1 a2 S0 1) (by omega) hnj.out.1 hnj.out.2
            have HGI := Lib.hid hgi
            clear hcall hgi
            go_wp2_with fail
            refine HCALL.out.mono ?_
            rintro e w6 ⟨rfl, ⟨D6, how6, hs6⟩, hg6⟩
            have HO6 := Lib.hid how6
            have HS6 := Lib.hid hs6
            have HG6 := Lib.hid hg6
            clear how6 hs6 hg6
            go_wp2_with fail
            go_roundw
            case rel => exact ⟨2, D6, by omega, rfl, HO6.out, HS6.out, ⟨HGI.out.nodup, HGI.out.len⟩, gb_trans hgr.out HG6.out⟩
            case measure => simp [intOf]
          · have hcall := IH.out a2 (tst ns f a0 a1 a2 S0 2) D' wr (by omega) (by omega) hnj.out.1 hnj.out.2 HAr.out howj.out hsj.out
            have HCALL := Lib.hid hcall
            have hgi := gat_is HH.out f a2 (tst ns f a0 a1 a2 S0 2) (by omega) hnj.out.1 hnj.out.2
            have HGI := Lib.hid hgi
            clear hcall hgi
            go_wp2_with fail
            refine HCALL.out.mono ?_
            rintro e w6 ⟨rfl, ⟨D6, how6, hs6⟩, hg6⟩
            have HO6 := Lib.hid how6
            have HS6 := Lib.hid hs6
            have HG6 := Lib.hid hg6
            clear how6 hs6 hg6
            go_wp2_with fail
            go_roundw
            case rel => exact ⟨3, D6, by omega, rfl, HO6.out, HS6.out, ⟨HGI.out.nodup, HGI.out.len⟩, gb_trans hgr.out HG6.out⟩
            case measure => simp [intOf]
        · obtain rfl : j = 3 := by omega
          have hln : decide (((3 : Nat) : Int) < 3) = false := by decide
          have hln2 : decide ((3 : Int) < 3) = false := by decide
          go_wp2_with fail
          go_end0
          unfold GatRet
          rw [HE.out]
          exact ⟨rfl, ⟨D', howj.out, hsj.out⟩, hgr.out⟩
set_option maxRecDepth 100000 in
set_option maxHeartbeats 1000000 in
theorem shared_is (base p bm most : Nat) (V : Value) (ns : List Nd) (hah : Ahead ns) (w : World) (id : Nat) (hid : id ≤ 1048576) (ha : ArM w base p bm most V ns) (n : Nat) (hn : shared ns id = n) :
    Calls Tryd.prog 12 #[.pointer (some ⟨p, 0, none⟩), .int .i64 (id : Nat)] w (Ret w (.int .i64 (n : Nat))) := by
  have hmm := @run_makeMap Tryd.prog
  have hl20 : ns.length ≤ 1048576 := Nat.le_trans ha.le ha.room
  have hb := below_lit w (.map #[] 0)
  have hcall := gather_up base p bm most w.heap.size V ns hah (fun e => by have := ha.plt; omega) (fun e => by have := ha.mlt; omega) (fun e => by have := (ha.vlt _ e).2; omega) hl20 (id + 1) id [] (.map []) (w.alloc (.map #[] 0)) (Nat.lt_succ_self _) hid List.nodup_nil (fun x hx => by cases hx) (ha.below hb) (World.ownsMap_made w _ _ _) setIs_nil
  have HCALL := Lib.hid hcall
  have HB := Lib.hid hb
  have HN := Lib.hid hn
  clear hcall hb ha hah hl20 hn
  go_enter Tryd.func12, Tryd.ntmps12
  go_wp2_with fail
  refine HCALL.out.mono ?_
  rintro e w2 ⟨rfl, ⟨D2, how2, hs2⟩, hg2⟩
  have hlen := World.ownsMap.len how2 Tryd.underlying52 3
  rw [hs2.size] at hlen
  have e9 : (gat ns (id + 1) id []).length = n := HN.out
  rw [e9] at hlen
  have HG := Lib.hid hg2
  have HO2 := Lib.hid how2
  have HS2 := Lib.hid hs2
  clear how2 hs2 hg2
  go_wp2_with (at_len; refine wpList_len_own _ rfl _ 52 rfl 3 73 Tryd.underlying52 _ _ _ D2 rfl HO2.out ?_)
  go_ret
  have hbw : Below w.heap.size w w2 := by
    have h0 := HB.out
    have hg := HG.out
    refine ⟨hg.os.trans h0.os, hg.tape.trans h0.tape, hg.output.trans h0.output, Nat.le_trans h0.size hg.size, fun k hk => (hg.block k (Nat.lt_of_lt_of_le hk h0.size) (fun e => by cases e; omega)).trans (h0.block k hk)⟩
  exact ⟨by rw [HS2.out.size, e9]; rfl, hbw⟩
end Arn
end Go.Proofs.YtlijdgamobpndaaDoor
