import Derived.Test.YtlijdgamobpndaaDoorJ19
import Derived.Test.YtlijdgamobpndaaDoorJ17
import Derived.Test.YtlijdgamobpndaaDoorJ10
import Derived.Test.YtlijdgamobpndaaDoorJ15
import Derived.Test.YtlijdgamobpndaaDoorJ30
/-
  The contracts of the laws' helpers variable, both and great (of one term), and of an arena's 'Loose'.
  Conditions: each contract's own.
-/
namespace Go.Proofs.YtlijdgamobpndaaDoor
open Go.RowKit Go.Maps
open Lvl
open Trm
namespace Arn
theorem tn_rn' (t : Tm) : tnodes t ≤ rn t := tn_rn t
abbrev tvar (n : Int) : Tm := .mk 1 n ⟨#[]⟩ [] []
abbrev tboth (t : Tm) : Tm := .mk 4 0 ⟨#[]⟩ [] [t, t]
set_option maxRecDepth 100000 in
set_option maxHeartbeats 1000000 in
theorem variable_is (n : Int) (w : World) : Calls Tryd.prog 20 #[.int .i64 n] w (fun e w' => e = .returned (tv (tvar n) (.slice none 0 0) (.slice none 0 0)) ∧ TmP w' (fun _ => False) (tvar n) (.slice none 0 0) (.slice none 0 0) ∧ Below w.heap.size w w') := by
  obtain ⟨i0, hi0, hz0, hz1, hz2⟩ := info_parts infoTm
  go_enter Tryd.func20, Tryd.ntmps20
  go_wp2_with fail
  refine bodyPost_ret (results_cell_row rfl _ _ (w.heap.size) 25 _ (0, 0) _ rfl (heap_alloc_new w _) Tryd.underlying25 rfl (by rw [hi0, Option.map_some, hz1]; rfl)) rfl ?_
  refine ⟨rfl, ?_, below_lit w _⟩
  rw [TmP, LvP]
  exact ⟨⟨none, 0, 0, rfl, rfl, Nat.le_refl _, by omega, fun _ => rfl, by rw [LsP]; trivial⟩, none, 0, 0, rfl, rfl, Nat.le_refl _, by omega, fun _ => rfl, by rw [TsP]; trivial⟩
set_option maxRecDepth 100000 in
set_option maxHeartbeats 1000000 in
theorem both_is (t : Tm) (l s : Value) (P : Nat → Prop) (w : World) (ht : TmP w P t l s) :
    Calls Tryd.prog 19 #[tv t l s] w (fun e w' => ∃ l' s', e = .returned (tv (tboth t) l' s') ∧ TmP w' (fun b => P b ∨ w.heap.size ≤ b) (tboth t) l' s' ∧ Below w.heap.size w w') := by
  obtain ⟨i0, hi0, hz0, hz1, hz2⟩ := info_parts infoTm
  obtain ⟨⟨la, ll, lc, rfl⟩, sa, sl, sc, rfl⟩ := tmP_slices ht
  have HT := Lib.hid ht
  clear ht
  obtain ⟨k, hk⟩ : ∃ k, tkOf t = k := ⟨_, rfl⟩
  obtain ⟨n, hn⟩ : ∃ n, tnOf t = n := ⟨_, rfl⟩
  obtain ⟨m, hmm⟩ : ∃ m, tmOf t = m := ⟨_, rfl⟩
  dsimp only [tv]
  rw [hk, hn, hmm]
  have HKN := Lib.hid (And.intro hk (And.intro hn hmm))
  clear hk hn hmm
  go_enter Tryd.func19, Tryd.ntmps19
  go_wp2_with fail
  have z1 : (w.alloc (.cells #[.int .i64 k, .int .i64 n, .string m, .slice la ll lc, .slice sa sl sc] 25)).heap.size = w.heap.size + 1 := by simp
  generalize hW1 : w.alloc (.cells #[.int .i64 k, .int .i64 n, .string m, .slice la ll lc, .slice sa sl sc] 25) = W1 at *
  have hb1 : Below w.heap.size w W1 := by rw [← hW1]; exact below_lit _ _
  have z2 : (W1.alloc (.cells #[.int .i64 4, .int .i64 0, .string ⟨#[]⟩, .slice none 0 0, .slice (some ⟨w.heap.size + 1 + 1, 0, none⟩) 2 2] 25)).heap.size = w.heap.size + 1 + 1 := by simp [z1]
  have r2 : (W1.alloc (.cells #[.int .i64 4, .int .i64 0, .string ⟨#[]⟩, .slice none 0 0, .slice (some ⟨w.heap.size + 1 + 1, 0, none⟩) 2 2] 25)).heap[w.heap.size + 1]? = some (Obj.cells #[.int .i64 4, .int .i64 0, .string ⟨#[]⟩, .slice none 0 0, .slice (some ⟨w.heap.size + 1 + 1, 0, none⟩) 2 2] 25 (0, 0)) := by
    have := heap_alloc_new W1 (.cells #[.int .i64 4, .int .i64 0, .string ⟨#[]⟩, .slice none 0 0, .slice (some ⟨w.heap.size + 1 + 1, 0, none⟩) 2 2] 25)
    rw [z1] at this
    exact this
  have hb2 := hb1.trans ((below_lit W1 (.cells #[.int .i64 4, .int .i64 0, .string ⟨#[]⟩, .slice none 0 0, .slice (some ⟨w.heap.size + 1 + 1, 0, none⟩) 2 2] 25)).mono hb1.size)
  generalize W1.alloc (.cells #[.int .i64 4, .int .i64 0, .string ⟨#[]⟩, .slice none 0 0, .slice (some ⟨w.heap.size + 1 + 1, 0, none⟩) 2 2] 25) = W2 at *
  have r3 := heap_alloc_new W2 (.cells #[.int .i64 k, .int .i64 n, .string m, .slice la ll lc, .slice sa sl sc, .int .i64 k, .int .i64 n, .string m, .slice la ll lc, .slice sa sl sc] 25)
  rw [z2] at r3
  have hb3 := hb2.trans ((below_lit W2 (.cells #[.int .i64 k, .int .i64 n, .string m, .slice la ll lc, .slice sa sl sc, .int .i64 k, .int .i64 n, .string m, .slice la ll lc, .slice sa sl sc] 25)).mono hb2.size)
  have r2' := (heap_alloc_old W2 (.cells #[.int .i64 k, .int .i64 n, .string m, .slice la ll lc, .slice sa sl sc, .int .i64 k, .int .i64 n, .string m, .slice la ll lc, .slice sa sl sc] 25) (by rw [z2]; omega)).trans r2
  refine bodyPost_ret (results_cell_row rfl _ _ (w.heap.size + 1) 25 _ (0, 0) _ rfl r2' Tryd.underlying25 rfl (by rw [hi0, Option.map_some, hz1]; rfl)) rfl ?_
  refine ⟨_, _, rfl, ?_, hb3⟩
  have ht3 := tmP_below hb3 HT.out
  rw [← HKN.out.1, ← HKN.out.2.1, ← HKN.out.2.2] at r3 ht3 ⊢
  have hts := tsP_row (P := fun b => P b ∨ w.heap.size ≤ b) (ts := [t, t]) (ss := [(.slice la ll lc, .slice sa sl sc), (.slice la ll lc, .slice sa sl sc)]) rfl r3 (.inr (by omega)) (fun i h1 h2 => by
    have : i = 0 ∨ i = 1 := by simp at h1; omega
    rcases this with rfl | rfl <;> exact tmP_weak (fun b hb => .inl hb) ht3)
  rw [TmP, LvP]
  exact ⟨⟨none, 0, 0, rfl, rfl, Nat.le_refl _, by omega, fun _ => rfl, by rw [LsP]; trivial⟩, some ⟨w.heap.size + 1 + 1, 0, none⟩, 2, 2, rfl, rfl, Nat.le_refl _, by omega, (fun e => by cases e), hts⟩
set_option maxRecDepth 100000 in
set_option maxHeartbeats 1000000 in
theorem loose_is5 (w : World) (base p bm most : Nat) (V : Value) (ns : List Nd) (ha : ArM w base p bm most V ns) (id k : Int) (hk : (nodeAt ns id).lo = k) (hk2 : k ≤ 1125899906842624) :
    Calls Tryd.prog 21 #[.pointer (some ⟨p, 0, none⟩), .int .i64 id] w (Ret w (.int .i64 k)) := by
  have hf1 := fieldLo
  have HN := Lib.hid (node_is w base p bm most V ns ha id _ rfl)
  clear ha
  obtain ⟨⟨⟨k0, n0, m0, l0, a0, a1, a2⟩, lo⟩, hd⟩ : ∃ d, nodeAt ns id = d := ⟨_, rfl⟩
  rw [hd] at hk HN
  obtain rfl : lo = k := hk
  have d1 : decide ((1125899906842624 : Int) < lo) = false := by simp; omega
  go_enter Tryd.func21, Tryd.ntmps21
  go_wp2_with fail
  refine HN.out.mono ?_
  rintro e w1 ⟨rfl, hb⟩
  dsimp only [nc]
  go_wp2_with fail
  go_ret
  exact ⟨rfl, hb⟩
set_option maxRecDepth 100000 in
set_option maxHeartbeats 1000000 in
theorem great1_is (t : Tm) (b : Nat) (w : World) (hts : TsP w (fun _ => True) (some ⟨b, 0, none⟩) 0 [t]) (hnm : nmOk t) : Calls Tryd.prog 7 #[.slice (some ⟨b, 0, none⟩) 1 1] w (Ret w (.bool false)) := by
  obtain ⟨b', o', l, s, e9, hb, _, c0, c1, c2, c3, c4, ht⟩ := tsP_get hts 0 (by simp)
  cases e9
  simp only [List.getElem_cons_zero, Nat.zero_mul, Nat.add_zero, Nat.zero_add] at c0 c1 c2 c3 c4 ht
  obtain ⟨⟨la, ll, lc, rfl⟩, sa, sl, sc, rfl⟩ := tmP_slices ht
  have hv : TmV w t (tv t (.slice la ll lc) (.slice sa sl sc)) := ⟨_, _, rfl, ht⟩
  obtain ⟨q, hq⟩ : ∃ q, min (rn t) (300 + 1) = q := ⟨_, rfl⟩
  have hq2 : q ≤ 301 := by omega
  have hrn := fun w' (h : Below w.heap.size w w') => rnodes_up 300 (by decide) (rn t) t _ w' (tn_rn' t) hnm (hv.below h)
  dsimp only [tv] at hrn
  rw [hq] at hrn
  have HRN := Lib.hid hrn
  clear hrn hq hts hv ht
  generalize tkOf t = k at *
  generalize tnOf t = n at *
  generalize tmOf t = m at *
  have d9 : decide ((600 : Int) < (q : Int)) = false := by simp; omega
  go_enter Tryd.func7, Tryd.ntmps7
  go_wp2_with fail
  go_loopw [3, 4] (fun c i wr => ∃ j : Nat, j ≤ 1 ∧ i = .int .i64 j ∧ c = .int .i64 (if j = 0 then 0 else q : Nat) ∧ Hid (Below w.heap.size w wr)) (fun _ i _ => 1 - (intOf i).toNat)
  case atStart => exact ⟨0, Nat.zero_le _, rfl, rfl, Below.refl _ _⟩
  case round =>
    obtain ⟨j, hj, rfl, rfl, hgr⟩ := hrel
    have : j = 0 ∨ j = 1 := by omega
    rcases this with rfl | rfl
    · have e0 := (hgr.out.cell (p := ⟨b, 0, none⟩) hb).trans c0
      have e1 := (hgr.out.cell (p := ⟨b, 1, none⟩) hb).trans c1
      have e2 := (hgr.out.cell (p := ⟨b, 2, none⟩) hb).trans c2
      have e3 := (hgr.out.cell (p := ⟨b, 3, none⟩) hb).trans c3
      have e4 := (hgr.out.cell (p := ⟨b, 4, none⟩) hb).trans c4
      rw [if_pos rfl]
      go_wp2_with fail
      refine (HRN.out _ hgr.out).mono ?_
      rintro e w1 ⟨rfl, hb1⟩
      have HB1 := Lib.hid (hgr.out.trans (hb1.mono hgr.out.size))
      clear hb1 e0 e1 e2 e3 e4
      go_wp2_with fail
      go_roundw
      case rel => exact ⟨1, Nat.le_refl _, rfl, by rw [if_neg (by decide)], HB1.out⟩
      case measure => simp [intOf]
    · go_wp2_with fail
      go_ret
      exact ⟨rfl, hgr.out⟩
end Arn
end Go.Proofs.YtlijdgamobpndaaDoor
