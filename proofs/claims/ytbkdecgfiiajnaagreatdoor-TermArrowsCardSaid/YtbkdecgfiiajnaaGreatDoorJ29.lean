import Derived.Test.YtbkdecgfiiajnaaGreatDoorJ28
import Derived.Test.YtbkdecgfiiajnaaGreatDoorJ16
import Derived.Test.YtbkdecgfiiajnaaGreatDoorJ20
import Derived.Test.YtbkdecgfiiajnaaGreatDoorJ03
import Derived.Test.YtbkdecgfiiajnaaGreatDoorJ11
/-
  The contracts of the program's functions raised$1 and raised: a term with so much added to its loose variables.
  Conditions: the term lies in memory as told by 'TmV'; it has at most 100000 nodes, and its levels at most 1000 each; its numbers are not too great.
-/
namespace Go.Proofs.YtbkdecgfiiajnaaGreatDoor
open Go.RowKit
open Lvl
namespace Trm

def fR (c : Int) : Int → Int → List Lv → Int → Int × List Lv := fun k n ls d => (if k = 1 ∧ d ≤ n then n + c else n, ls)
def cR : Int → Int → List Lv → Int → Prop := fun k n _ d => 0 ≤ d ∧ (k = 1 → n ≤ 4503599627370496)
mutual
theorem remT_li (RN : ByteArray → Bool) (RL : Lv → Bool) (c : Int) : ∀ (t : Tm) (K d : Int), okT RN RL t K = true → remT (fR c) t d = liT c t d
  | .mk kd n nm ls ts, K, d, h => by
    rw [okT, Bool.and_eq_true] at h
    rw [remT, liT, remL_li RN RL c kd n nm ls ts.length h.1 ts 0 K d (by omega) h.2]
    rfl
theorem remL_li (RN : ByteArray → Bool) (RL : Lv → Bool) (c kd n : Int) (nm : ByteArray) (ls : List Lv) (m : Nat) {k : Int} (h : shape RN RL kd n nm ls m k = true) : ∀ (ts : List Tm) (i : Nat) (K d : Int), i + ts.length ≤ m → okTL RN RL kd ts i K = true → remL (fR c) kd m ts i d = liTL c kd ts i d
  | [], _, _, _, _, _ => by rw [remL, liTL]
  | a :: ts, i, K, d, hi, ho => by
    rw [List.length_cons] at hi
    rw [okTL, Bool.and_eq_true] at ho
    rw [remL, liTL, ← bndP_under h i (by omega), remT_li RN RL c a _ _ ho.1, remL_li RN RL c kd n nm ls m h ts (i + 1) K d (by omega) ho.2]
end
theorem lv_of_ok {RN : ByteArray → Bool} {nn kd n : Int} {nm : ByteArray} {ls : List Lv} {m : Nat} {k : Int} (h : shape RN (rightB nn) kd n nm ls m k = true) : ∀ l, l ∈ ls → nodes l ≤ 1000 := fun l hl => by
  unfold shape at h
  rw [Bool.and_eq_true] at h
  have := List.all_eq_true.1 h.1 l hl
  unfold rightB at this
  simp at this
  omega
mutual
theorem ok_cR (RN : ByteArray → Bool) (nn : Int) : ∀ (t : Tm) (K d : Int), okT RN (rightB nn) t K = true → 0 ≤ d → K + tnodes t ≤ 4503599627370496 → okC cR t d
  | .mk kd n nm ls ts, K, d, h, hd, hK => by
    rw [okT, Bool.and_eq_true] at h
    rw [tnodes] at hK
    rw [okC]
    refine ⟨⟨⟨hd, fun h1 => ?_⟩, lv_of_ok h.1⟩, ok_cRL RN nn kd ts.length ts 0 K d h.2 hd (by omega)⟩
    subst h1
    have h2 := h.1
    unfold shape at h2
    simp at h2
    omega
theorem ok_cRL (RN : ByteArray → Bool) (nn : Int) (kd : Int) (m : Nat) : ∀ (ts : List Tm) (i : Nat) (K d : Int), okTL RN (rightB nn) kd ts i K = true → 0 ≤ d → K + 1 + tnodesL ts ≤ 4503599627370496 → okCL cR kd m ts i d
  | [], _, _, _, _, _, _ => by rw [okCL]; trivial
  | a :: ts, i, K, d, h, hd, hK => by
    rw [okTL, Bool.and_eq_true] at h
    rw [tnodesL] at hK
    rw [okCL]
    have hu : under kd i K ≤ K + 1 := by
      unfold under
      split <;> omega
    exact ⟨ok_cR RN nn a _ _ h.1 (by omega) (by omega), ok_cRL RN nn kd m ts (i + 1) K d h.2 hd (by omega)⟩
end
mutual
theorem ok_lv (RN : ByteArray → Bool) (nn : Int) : ∀ (t : Tm) (K d : Int), okT RN (rightB nn) t K = true → okC cAll t d
  | .mk kd n nm ls ts, K, d, h => by
    rw [okT, Bool.and_eq_true] at h
    rw [okC]
    exact ⟨⟨trivial, lv_of_ok h.1⟩, ok_lvL RN nn kd ts.length ts 0 K d h.2⟩
theorem ok_lvL (RN : ByteArray → Bool) (nn : Int) (kd : Int) (m : Nat) : ∀ (ts : List Tm) (i : Nat) (K d : Int), okTL RN (rightB nn) kd ts i K = true → okCL cAll kd m ts i d
  | [], _, _, _, _ => by rw [okCL]; trivial
  | a :: ts, i, K, d, h => by
    rw [okTL, Bool.and_eq_true] at h
    rw [okCL]
    exact ⟨ok_lv RN nn a _ _ h.1, ok_lvL RN nn kd m ts (i + 1) K d h.2⟩
end

theorem set1r {w : World} {b : Nat} {x0 x1 x2 x3 x4 y : Value} {T : TypeId} (h : w.heap[b]? = some (.cells #[x0, x1, x2, x3, x4] T (0, 0))) : (w.setCell ⟨b, 1, none⟩ y).heap[b]? = some (.cells #[x0, y, x2, x3, x4] T (0, 0)) := by
  unfold World.setCell
  simp [Array.getElem?_modify, h]
set_option maxRecDepth 100000 in
set_option maxHeartbeats 4000000 in
theorem chg_raised (w0 : World) (Bc : Nat) (c : Int) (hc0 : 0 ≤ c) (hc1 : c ≤ 1000000) (hcell : w0.cell? ⟨Bc, 0, none⟩ = some (.int .i64 c)) : ChgC w0 59 #[.pointer (some ⟨Bc, 0, none⟩)] (fR c) cR := by
  intro w1 Bs Bo k n m V ls d hb _ _ hr hl _ _ hC
  have HL := Lib.hid hl
  have hcc := (hb.cell (p := ⟨Bc, 0, none⟩) (World.block_lt_of_cell? w0 ⟨Bc, 0, none⟩ hcell)).trans hcell
  have HRR := Lib.hid hr
  have hc0' := cell_of_row w1 Bo 0 _ _ (0, 0) hr
  have hc1' := cell_of_row w1 Bo 1 _ _ (0, 0) hr
  obtain ⟨hd, hn⟩ := hC
  clear hl hr hcell hb
  show Calls Tryz.prog 59 #[.pointer (some ⟨Bo, 0, none⟩), .int .i64 d, .pointer (some ⟨Bc, 0, none⟩)] w1 _
  by_cases hk : k = 1
  · have hk1 : (k == 1) = true := by simp; omega
    by_cases hdn : d ≤ n
    · have hd1 : decide (d ≤ n) = true := by simp; omega
      have hn' := hn hk
      have hw : IntKind.i64.wrap (n + c) = n + c := IntWalk.i64_in _ ⟨by omega, by omega⟩
      have hF : Hid ((fR c k n ls d).1 = n + c ∧ (fR c k n ls d).2 = ls) := by
        have : (fR c k n ls d).1 = n + c ∧ (fR c k n ls d).2 = ls := ⟨if_pos ⟨hk, hdn⟩, rfl⟩
        exact this
      clear hn
      go_enter Tryz.func59, Tryz.ntmps59
      go_wp2_with fail
      have hc1 := hc1'
      have hfz := frozen0 (p := 1) HRR.out
      refine region_E (S := fun W' => W'.cell? ⟨Bo, 1, none⟩ = some (.int .i64 n) ∧ W'.cell? ⟨Bc, 0, none⟩ = some (.int .i64 c)) 8 (by kernel_rfl) ?_
      refine (fun (hHeld : (fun W' : World => W'.cell? ⟨Bo, 1, none⟩ = some (.int .i64 n) ∧ W'.cell? ⟨Bc, 0, none⟩ = some (.int .i64 c)) _) => ?_) (⟨hc1, hcc⟩)
      refine take_E (i := 0) (v := ?_) 7 [6, 0] rfl (by kernel_rfl) (by kernel_rfl) (by kernel_rfl) (by kernel_rfl) rfl (by decide) (by kernel_rfl) rfl (fun _ _ _ h => h) (by rfl) ?_ hHeld ?_
      rotate_left
      · intro w hSw
        (try dsimp only at hSw)
        go_simp
        try with_reducible rfl
      try simp only [Act.put, List.setIfInBounds_toArray, List.set_cons_zero, List.set_cons_succ]
      refine take_E (i := 1) (v := ?_) 5 [3, 2, 1] rfl (by kernel_rfl) (by kernel_rfl) (by kernel_rfl) (by kernel_rfl) rfl (by decide) (by kernel_rfl) rfl (fun _ _ _ h => h) (by rfl) ?_ hHeld ?_
      rotate_left
      · intro w hSw
        (try dsimp only at hSw)
        go_simp
        try with_reducible rfl
      try simp only [Act.put, List.setIfInBounds_toArray, List.set_cons_zero, List.set_cons_succ]
      refine take_E (i := 2) (v := ?_) 5 [3, 2] rfl (by kernel_rfl) (by kernel_rfl) (by kernel_rfl) (by kernel_rfl) rfl (by decide) (by kernel_rfl) rfl (fun _ _ _ h => h) (by rfl) ?_ hHeld ?_
      rotate_left
      · intro w hSw
        (try dsimp only at hSw)
        go_simp
        try with_reducible rfl
      try simp only [Act.put, List.setIfInBounds_toArray, List.set_cons_zero, List.set_cons_succ]
      refine take_E (i := 3) (v := ?_) 5 [3] rfl (by kernel_rfl) (by kernel_rfl) (by kernel_rfl) (by kernel_rfl) rfl (by decide) (by kernel_rfl) rfl (fun _ _ _ h => h) (by rfl) ?_ hHeld ?_
      rotate_left
      · intro w hSw
        (try dsimp only at hSw)
        go_simp
        try with_reducible rfl
      try simp only [Act.put, List.setIfInBounds_toArray, List.set_cons_zero, List.set_cons_succ]
      refine take_E (i := 4) (v := ?_) 5 [4] rfl (by kernel_rfl) (by kernel_rfl) (by kernel_rfl) (by kernel_rfl) rfl (by decide) (by kernel_rfl) rfl (fun _ _ _ h => h) (by rfl) ?_ hHeld ?_
      rotate_left
      · intro w hSw
        (try dsimp only at hSw)
        go_simp
        try with_reducible rfl
      try simp only [Act.put, List.setIfInBounds_toArray, List.set_cons_zero, List.set_cons_succ]
      refine take_E (i := 5) (v := ?_) 5 [] rfl (by kernel_rfl) (by kernel_rfl) (by kernel_rfl) (by kernel_rfl) rfl (by decide) (by kernel_rfl) rfl (fun _ _ _ h => h) (by rfl) ?_ hHeld ?_
      rotate_left
      · intro w hSw
        (try dsimp only at hSw)
        go_simp
        try with_reducible rfl
      try simp only [Act.put, List.setIfInBounds_toArray, List.set_cons_zero, List.set_cons_succ]
      refine take_E (i := 6) (v := ?_) 7 [6] rfl (by kernel_rfl) (by kernel_rfl) (by kernel_rfl) (by kernel_rfl) rfl (by decide) (by kernel_rfl) rfl (fun _ _ _ h => h) (by rfl) ?_ hHeld ?_
      rotate_left
      · intro w hSw
        (try dsimp only at hSw)
        go_simp
        try with_reducible rfl
      try simp only [Act.put, List.setIfInBounds_toArray, List.set_cons_zero, List.set_cons_succ]
      refine take_E (i := 7) (v := ?_) 7 [] rfl (by kernel_rfl) (by kernel_rfl) (by kernel_rfl) (by kernel_rfl) rfl (by decide) (by kernel_rfl) rfl (fun _ _ _ h => h) (by rfl) ?_ hHeld ?_
      rotate_left
      · intro w hSw
        (try dsimp only at hSw)
        go_simp
        try with_reducible rfl
      try simp only [Act.put, List.setIfInBounds_toArray, List.set_cons_zero, List.set_cons_succ]
      refine only_E (i := 8) rfl (by kernel_rfl) (fun K hK => ?_)
      clear hHeld
      go_simp
      go_simp
      have hst := set1r (y := .int .i64 (n + c)) HRR.out
      have HST := Lib.hid hst
      have HGS := Lib.hid (set1_grown (p := 1) (x := .int .i64 (n + c)) (grown_of (some Bo) (Below.refl w1.heap.size w1)))
      have HLV := Lib.hid (lvP_move (w := w1) (w' := w1.setCell ⟨Bo, 1, none⟩ (.int .i64 (n + c))) (Q := fun b => Bs ≤ b ∧ b ≠ Bo) (fun b _ hp => ⟨hp, setCell_far _ _ _ _ hp.2⟩) (by rw [setCell_size]; exact Nat.le_refl _) _ _ HL.out)
      refine hK.out _ _ (fun h => by cases h) ?_
      clear hK K
      refine done_E (by kernel_rfl) ?_ _
      go_wp2_with fail
      go_end0
      refine ⟨⟨_, rfl⟩, V, ?_, ?_, grown_below HGS.out ((Below.refl _ _).drew)⟩
      · rw [hF.out.1]; exact HST.out
      · rw [hF.out.2]; exact lvP_below HLV.out ((Below.refl _ _).drew)
    · have hd1 : decide (d ≤ n) = false := by simp; omega
      subst hk
      have hF : Hid ((fR c 1 n ls d).1 = n ∧ (fR c 1 n ls d).2 = ls) := by
        have : (fR c 1 n ls d).1 = n ∧ (fR c 1 n ls d).2 = ls := ⟨if_neg (fun h => hdn h.2), rfl⟩
        exact this
      clear hn
      go_enter Tryz.func59, Tryz.ntmps59
      go_wp2_with fail
      go_end0
      refine ⟨⟨_, rfl⟩, V, ?_, ?_, grown_of _ (Below.refl _ _)⟩
      · rw [hF.out.1]; exact HRR.out
      · rw [hF.out.2]; exact HL.out
  · have hk1 : (k == 1) = false := by simp; omega
    have hF : Hid ((fR c k n ls d).1 = n ∧ (fR c k n ls d).2 = ls) := by
      have : (fR c k n ls d).1 = n ∧ (fR c k n ls d).2 = ls := ⟨if_neg (fun h => hk h.1), rfl⟩
      exact this
    clear hn
    go_enter Tryz.func59, Tryz.ntmps59
    go_wp2_with fail
    go_end0
    refine ⟨⟨_, rfl⟩, V, ?_, ?_, grown_of _ (Below.refl _ _)⟩
    · rw [hF.out.1]; exact HRR.out
    · rw [hF.out.2]; exact HL.out

set_option maxRecDepth 100000 in
set_option maxHeartbeats 4000000 in
theorem raised_is (t : Tm) (v : Value) (c : Nat) (w : World) (hc : c ≤ 1000000) (hv : TmV w t v) (hm : tnodes t ≤ 100000) (hl : okC cR t 0) :
    Calls Tryz.prog 35 #[v, .int .i64 c] w (TmRet w (remT (fR c) t 0)) := by
  obtain ⟨i0, hi0, hz0, hz1, hz2⟩ := info_parts infoTm
  have HLV := Lib.hid hl
  clear hl
  obtain ⟨l, s, rfl, ht⟩ := hv
  obtain ⟨⟨la, ll, lc, rfl⟩, sa, sl, sc, rfl⟩ := tmP_slices ht
  have HTT := Lib.hid ht
  obtain ⟨k, hk⟩ : ∃ k, tkOf t = k := ⟨_, rfl⟩
  obtain ⟨n, hn⟩ : ∃ n, tnOf t = n := ⟨_, rfl⟩
  obtain ⟨m, hmm⟩ : ∃ m, tmOf t = m := ⟨_, rfl⟩
  dsimp only [tv]
  rw [hk, hn, hmm]
  have HK := Lib.hid hk
  have HNN := Lib.hid hn
  have HMM := Lib.hid hmm
  have HM := Lib.hid hm
  clear hk hn hmm ht hm
  go_enter Tryz.func35, Tryz.ntmps35
  go_wp2_with fail
  have z1 : (w.alloc (.cells #[.int .i64 k, .int .i64 n, .string m, .slice la ll lc, .slice sa sl sc] 25)).heap.size = w.heap.size + 1 := by simp
  have z2 : ((w.alloc (.cells #[.int .i64 k, .int .i64 n, .string m, .slice la ll lc, .slice sa sl sc] 25)).alloc (.cells #[.int .i64 c] 3)).heap.size = w.heap.size + 1 + 1 := by simp
  have z3 : (((w.alloc (.cells #[.int .i64 k, .int .i64 n, .string m, .slice la ll lc, .slice sa sl sc] 25)).alloc (.cells #[.int .i64 c] 3)).alloc (.cells #[.int .i64 0, .int .i64 0, .string ⟨#[]⟩, .slice none 0 0, .slice none 0 0] 25)).heap.size = w.heap.size + 1 + 1 + 1 := by simp
  have r0 : (w.alloc (.cells #[.int .i64 k, .int .i64 n, .string m, .slice la ll lc, .slice sa sl sc] 25)).heap[w.heap.size]? = some (Obj.cells #[.int .i64 k, .int .i64 n, .string m, .slice la ll lc, .slice sa sl sc] 25 (0, 0)) := by
    have := heap_alloc_new w (.cells #[.int .i64 k, .int .i64 n, .string m, .slice la ll lc, .slice sa sl sc] 25)
    exact this
  have r1 : ((w.alloc (.cells #[.int .i64 k, .int .i64 n, .string m, .slice la ll lc, .slice sa sl sc] 25)).alloc (.cells #[.int .i64 c] 3)).heap[w.heap.size + 1]? = some (Obj.cells #[.int .i64 c] 3 (0, 0)) := by
    have := heap_alloc_new (w.alloc (.cells #[.int .i64 k, .int .i64 n, .string m, .slice la ll lc, .slice sa sl sc] 25)) (.cells #[.int .i64 c] 3)
    rwa [z1] at this
  have r2 : (((w.alloc (.cells #[.int .i64 k, .int .i64 n, .string m, .slice la ll lc, .slice sa sl sc] 25)).alloc (.cells #[.int .i64 c] 3)).alloc (.cells #[.int .i64 0, .int .i64 0, .string ⟨#[]⟩, .slice none 0 0, .slice none 0 0] 25)).heap[w.heap.size + 1 + 1]? = some (Obj.cells #[.int .i64 0, .int .i64 0, .string ⟨#[]⟩, .slice none 0 0, .slice none 0 0] 25 (0, 0)) := by
    have := heap_alloc_new ((w.alloc (.cells #[.int .i64 k, .int .i64 n, .string m, .slice la ll lc, .slice sa sl sc] 25)).alloc (.cells #[.int .i64 c] 3)) (.cells #[.int .i64 0, .int .i64 0, .string ⟨#[]⟩, .slice none 0 0, .slice none 0 0] 25)
    rwa [z2] at this
  have HB := Lib.hid (((below_lit w (.cells #[.int .i64 k, .int .i64 n, .string m, .slice la ll lc, .slice sa sl sc] 25)).trans ((below_lit (w.alloc (.cells #[.int .i64 k, .int .i64 n, .string m, .slice la ll lc, .slice sa sl sc] 25)) (.cells #[.int .i64 c] 3)).mono (below_lit w (.cells #[.int .i64 k, .int .i64 n, .string m, .slice la ll lc, .slice sa sl sc] 25)).size)).trans ((below_lit ((w.alloc (.cells #[.int .i64 k, .int .i64 n, .string m, .slice la ll lc, .slice sa sl sc] 25)).alloc (.cells #[.int .i64 c] 3)) (.cells #[.int .i64 0, .int .i64 0, .string ⟨#[]⟩, .slice none 0 0, .slice none 0 0] 25)).mono ((below_lit w (.cells #[.int .i64 k, .int .i64 n, .string m, .slice la ll lc, .slice sa sl sc] 25)).trans ((below_lit (w.alloc (.cells #[.int .i64 k, .int .i64 n, .string m, .slice la ll lc, .slice sa sl sc] 25)) (.cells #[.int .i64 c] 3)).mono (below_lit w (.cells #[.int .i64 k, .int .i64 n, .string m, .slice la ll lc, .slice sa sl sc] 25)).size)).size))
  have HR0 := Lib.hid ((heap_alloc_old ((w.alloc (.cells #[.int .i64 k, .int .i64 n, .string m, .slice la ll lc, .slice sa sl sc] 25)).alloc (.cells #[.int .i64 c] 3)) (.cells #[.int .i64 0, .int .i64 0, .string ⟨#[]⟩, .slice none 0 0, .slice none 0 0] 25) (by rw [z2]; omega)).trans ((heap_alloc_old (w.alloc (.cells #[.int .i64 k, .int .i64 n, .string m, .slice la ll lc, .slice sa sl sc] 25)) (.cells #[.int .i64 c] 3) (by rw [z1]; omega)).trans (r0)))
  have HR1 := Lib.hid ((heap_alloc_old ((w.alloc (.cells #[.int .i64 k, .int .i64 n, .string m, .slice la ll lc, .slice sa sl sc] 25)).alloc (.cells #[.int .i64 c] 3)) (.cells #[.int .i64 0, .int .i64 0, .string ⟨#[]⟩, .slice none 0 0, .slice none 0 0] 25) (by rw [z2]; omega)).trans (r1))
  have HR2 := Lib.hid (r2)
  clear r0 r1 r2
  generalize (((w.alloc (.cells #[.int .i64 k, .int .i64 n, .string m, .slice la ll lc, .slice sa sl sc] 25)).alloc (.cells #[.int .i64 c] 3)).alloc (.cells #[.int .i64 0, .int .i64 0, .string ⟨#[]⟩, .slice none 0 0, .slice none 0 0] 25)) = W3 at *
  have HZ := Lib.hid z3
  clear z1 z2 z3
  have hcell := cell_of_row W3 _ 0 _ 3 (0, 0) HR1.out
  have hrm := rem_raised W3 (w.heap.size + 1) (fR c) cR (Lib.hid (chg_raised W3 (w.heap.size + 1) c (by omega) (by omega) hcell)) (tnodes t) t 0 _ W3 (Nat.le_refl _) HM.out (by have := HM.out; omega) HLV.out (Below.refl _ _) ⟨_, _, rfl, tmP_below HB.out HTT.out⟩
  dsimp only [tv] at hrm
  rw [HK.out, HNN.out, HMM.out] at hrm
  refine hrm.mono ?_
  clear hrm hcell
  rintro e w4 ⟨l9, s9, rfl, ht9, hb4⟩
  obtain ⟨⟨ua, ul, uc, rfl⟩, va9, vl9, vc9, rfl⟩ := tmP_slices ht9
  have HT9 := Lib.hid ht9
  have hs3 := HZ.out
  have hrz := (hb4.block (w.heap.size + 1 + 1) (by omega)).trans HR2.out
  have HB4 := Lib.hid (HB.out.trans (hb4.mono HB.out.size))
  obtain ⟨ko, hko⟩ : ∃ q, tkOf (remT (fR c) t 0) = q := ⟨_, rfl⟩
  obtain ⟨no, hno⟩ : ∃ q, tnOf (remT (fR c) t 0) = q := ⟨_, rfl⟩
  obtain ⟨mo, hmo⟩ : ∃ q, tmOf (remT (fR c) t 0) = q := ⟨_, rfl⟩
  have HOO := Lib.hid (And.intro hko (And.intro hno hmo))
  rw [Int.natCast_zero]
  dsimp only [tv]
  rw [hko, hno, hmo]
  clear hb4 ht9 hko hno hmo
  obtain ⟨e0, e1, e2, e3, e4⟩ := five_cells hrz
  have g0 := frozen0 (p := 0) hrz
  have g1 := frozen0 (p := 1) hrz
  have g2 := frozen0 (p := 2) hrz
  have g3 := frozen0 (p := 3) hrz
  have g4 := frozen0 (p := 4) hrz
  go_wp2_with fail
  refine bodyPost_ret (results_cell_row rfl _ _ (w.heap.size + 1 + 1) 25 _ (0, 0) _ rfl (set5_row hrz) Tryz.underlying25 rfl (by rw [hi0, Option.map_some, hz1]; rfl)) rfl ?_
  refine ⟨_, _, by dsimp only [tv]; rw [HOO.out.1, HOO.out.2.1, HOO.out.2.2], tmP_move (w := w4) (fun b _ (hp : W3.heap.size ≤ b) => ⟨by omega, set5_far' w4 (w.heap.size + 1 + 1) 0 b _ _ _ _ _ (by omega)⟩) (Nat.le_of_eq (set5_sz w4 (w.heap.size + 1 + 1) 0 _ _ _ _ _).symm) _ _ _ HT9.out, set5_below HB4.out _ 0 _ _ _ _ _ (by omega)⟩
end Trm
end Go.Proofs.YtbkdecgfiiajnaaGreatDoor
/-
  The contracts of slices.EqualFunc, equalLevels, equal and Same, where the two sides are one.
  Conditions: the levels and terms lie in memory as told by 'LvV' and 'TmV'.
-/
namespace Go.Proofs.YtbkdecgfiiajnaaGreatDoor
open Go.RowKit
open Lvl
namespace Trm
theorem tsP_true {w : World} {P : Nat → Prop} {A : Option Addr} {j : Nat} {ts : List Tm} (h : TsP w P A j ts) : TsP w (fun _ => True) A j ts := tsP_move (fun _ _ _ => ⟨trivial, rfl⟩) (Nat.le_refl _) A j ts h
set_option maxRecDepth 100000 in
set_option maxHeartbeats 1000000 in
theorem efl_is (ts : List Lv) (A A' : Option Addr) (len cap cap' : Nat) (w : World) (hl : ts.length = len) (h47 : len ≤ 140737488355328) (hs : LsV w A 0 ts) (hs' : LsV w A' 0 ts)
    (CE : ∀ w', Below w.heap.size w w' → ∀ a, a ∈ ts → ∀ v v', LvV w' a v → LvV w' a v' → Calls Tryz.prog 70 #[v, v'] w' (Ret w' (.bool true))) :
    Calls Tryz.prog 69 #[.slice A len cap, .slice A' len cap', .func (.func 70) #[] #[]] w (Ret w (.bool true)) := by
  have HS := Lib.hid hs
  have HS' := Lib.hid hs'
  have HN := Lib.hid hl
  have HCE := Lib.hid CE
  have hne : ((len : Int) == (len : Int)) = true := by simp
  clear hs hs' hl CE
  go_enter Tryz.func69, Tryz.ntmps69
  go_wp2_with fail
  go_loopw [17] (fun i wr => ∃ j : Nat, j ≤ len ∧ i = .int .i64 j ∧ Hid (Below w.heap.size w wr)) (fun i _ => len - (intOf i).toNat)
  case atStart => exact ⟨0, Nat.zero_le _, rfl, Below.refl _ _⟩
  case round =>
    obtain ⟨j, hj, rfl, hb⟩ := hrel
    by_cases hlt : j < len
    · have hjt : j < ts.length := by rw [HN.out]; exact hlt
      have hln : decide ((j : Int) < (len : Int)) = true := by simp; omega
      obtain ⟨bk, o, s0, eA, hbs, hc0, hc1, hc2, hls0⟩ := lsV_get HS.out j hjt
      obtain ⟨bk', o', s1, eA', hbs', hx0, hx1', hx2, hls1⟩ := lsV_get HS'.out j hjt
      subst eA
      subst eA'
      obtain ⟨xa, xl, xc, rfl⟩ := lvS_slice hls0
      obtain ⟨ya, yl, yc, rfl⟩ := lvS_slice hls1
      have hls0' := Lib.hid hls0
      have hls1' := Lib.hid hls1
      clear hls0 hls1
      have hx1 := hx1'
      obtain ⟨ka, hka⟩ : ∃ q, kindOf (ts[j]) = q := ⟨_, rfl⟩
      obtain ⟨na, hna⟩ : ∃ q, numOf (ts[j]) = q := ⟨_, rfl⟩
      rw [hka] at hc0 hx0
      rw [hna] at hc1 hx1
      have d0 := (hb.out.cell (p := ⟨bk, _, none⟩) hbs).trans hc0
      have q0 := ((hb.out.trans ((below_lit wr (.cells #[.int .i64 ka, .int .i64 na, .slice xa xl xc] 45)).mono hb.out.size)).cell (p := ⟨bk', _, none⟩) hbs').trans hx0
      have d1 := (hb.out.cell (p := ⟨bk, _, none⟩) hbs).trans hc1
      have q1 := ((hb.out.trans ((below_lit wr (.cells #[.int .i64 ka, .int .i64 na, .slice xa xl xc] 45)).mono hb.out.size)).cell (p := ⟨bk', _, none⟩) hbs').trans hx1
      have d2 := (hb.out.cell (p := ⟨bk, _, none⟩) hbs).trans hc2
      have q2 := ((hb.out.trans ((below_lit wr (.cells #[.int .i64 ka, .int .i64 na, .slice xa xl xc] 45)).mono hb.out.size)).cell (p := ⟨bk', _, none⟩) hbs').trans hx2
      have HCALL := Lib.hid (fun (w' : World) (hw : Below w.heap.size w w') => HCE.out w' hw ts[j] (List.getElem_mem hjt) _ _ ⟨.slice xa xl xc, rfl, lvS_below hw _ _ hls0'.out⟩ ⟨.slice ya yl yc, rfl, lvS_below hw _ _ hls1'.out⟩)
      rw [hka, hna] at HCALL
      clear hka hna hc0 hc1 hc2 hx0 hx1 hx2
      have q1' : (0 : Int) ≤ (j : Int) := by omega
      have q2' : (j : Int) < (len : Int) := by omega
      go_wp2_with (first | (go_at_call 70; refine (HCALL.out _ (hb.out.trans ((below_2 wr (.cells #[.int .i64 ka, .int .i64 na, .slice xa xl xc] 45) (.cells #[.int .i64 ka, .int .i64 na, .slice ya yl yc] 45)).mono hb.out.size))).mono ?_; rintro e w9 ⟨rfl, hb9⟩; have HB9 := Lib.hid ((hb.out.trans ((below_2 wr (.cells #[.int .i64 ka, .int .i64 na, .slice xa xl xc] 45) (.cells #[.int .i64 ka, .int .i64 na, .slice ya yl yc] 45)).mono hb.out.size)).trans (hb9.mono (hb.out.trans ((below_2 wr (.cells #[.int .i64 ka, .int .i64 na, .slice xa xl xc] 45) (.cells #[.int .i64 ka, .int .i64 na, .slice ya yl yc] 45)).mono hb.out.size)).size)); clear hb9))
      exact ⟨⟨j + 1, by omega, by go_num, HB9.out⟩, by simp [intOf]; omega⟩
    · obtain rfl : j = len := by omega
      have hln : decide ((j : Int) < (j : Int)) = false := by simp
      go_wp2_with fail
      go_ret
      exact ⟨rfl, hb.out⟩
set_option maxRecDepth 100000 in
set_option maxHeartbeats 1000000 in
theorem eft_is (ts : List Tm) (A A' : Option Addr) (len cap cap' : Nat) (w : World) (hl : ts.length = len) (h47 : len ≤ 140737488355328) (hs : TsP w (fun _ => True) A 0 ts) (hs' : TsP w (fun _ => True) A' 0 ts)
    (CE : ∀ w', Below w.heap.size w w' → ∀ a, a ∈ ts → ∀ v v', TmV w' a v → TmV w' a v' → Calls Tryz.prog 47 #[v, v'] w' (Ret w' (.bool true))) :
    Calls Tryz.prog 71 #[.slice A len cap, .slice A' len cap', .func (.func 47) #[] #[]] w (Ret w (.bool true)) := by
  have HS := Lib.hid hs
  have HS' := Lib.hid hs'
  have HN := Lib.hid hl
  have HCE := Lib.hid CE
  have hne : ((len : Int) == (len : Int)) = true := by simp
  clear hs hs' hl CE
  go_enter Tryz.func71, Tryz.ntmps71
  go_wp2_with fail
  go_loopw [17] (fun i wr => ∃ j : Nat, j ≤ len ∧ i = .int .i64 j ∧ Hid (Below w.heap.size w wr)) (fun i _ => len - (intOf i).toNat)
  case atStart => exact ⟨0, Nat.zero_le _, rfl, Below.refl _ _⟩
  case round =>
    obtain ⟨j, hj, rfl, hb⟩ := hrel
    by_cases hlt : j < len
    · have hjt : j < ts.length := by rw [HN.out]; exact hlt
      have hln : decide ((j : Int) < (len : Int)) = true := by simp; omega
      obtain ⟨bk, o, l0, s0, eA, hbs, _, hc0, hc1, hc2, hc3, hc4, hls0⟩ := tsP_get HS.out j hjt
      obtain ⟨bk', o', l1, s1, eA', hbs', _, hx0, hx1, hx2, hx3, hx4, hls1⟩ := tsP_get HS'.out j hjt
      subst eA
      subst eA'
      obtain ⟨⟨xa, xl, xc, rfl⟩, ua, ul, uc, rfl⟩ := tmP_slices hls0
      obtain ⟨⟨ya, yl, yc, rfl⟩, va, vl, vc, rfl⟩ := tmP_slices hls1
      have hls0' := Lib.hid hls0
      have hls1' := Lib.hid hls1
      clear hls0 hls1
      obtain ⟨ka, hka⟩ : ∃ q, tkOf ts[j] = q := ⟨_, rfl⟩
      obtain ⟨na, hna⟩ : ∃ q, tnOf ts[j] = q := ⟨_, rfl⟩
      obtain ⟨ma, hma⟩ : ∃ q, tmOf ts[j] = q := ⟨_, rfl⟩
      rw [hka] at hc0 hx0
      rw [hna] at hc1 hx1
      rw [hma] at hc2 hx2
      have d0 := (hb.out.cell (p := ⟨bk, _, none⟩) hbs).trans hc0
      have q0 := ((hb.out.trans ((below_lit wr (.cells #[.int .i64 ka, .int .i64 na, .string ma, .slice xa xl xc, .slice ua ul uc] 25)).mono hb.out.size)).cell (p := ⟨bk', _, none⟩) hbs').trans hx0
      have d1 := (hb.out.cell (p := ⟨bk, _, none⟩) hbs).trans hc1
      have q1 := ((hb.out.trans ((below_lit wr (.cells #[.int .i64 ka, .int .i64 na, .string ma, .slice xa xl xc, .slice ua ul uc] 25)).mono hb.out.size)).cell (p := ⟨bk', _, none⟩) hbs').trans hx1
      have d2 := (hb.out.cell (p := ⟨bk, _, none⟩) hbs).trans hc2
      have q2 := ((hb.out.trans ((below_lit wr (.cells #[.int .i64 ka, .int .i64 na, .string ma, .slice xa xl xc, .slice ua ul uc] 25)).mono hb.out.size)).cell (p := ⟨bk', _, none⟩) hbs').trans hx2
      have d3 := (hb.out.cell (p := ⟨bk, _, none⟩) hbs).trans hc3
      have q3 := ((hb.out.trans ((below_lit wr (.cells #[.int .i64 ka, .int .i64 na, .string ma, .slice xa xl xc, .slice ua ul uc] 25)).mono hb.out.size)).cell (p := ⟨bk', _, none⟩) hbs').trans hx3
      have d4 := (hb.out.cell (p := ⟨bk, _, none⟩) hbs).trans hc4
      have q4 := ((hb.out.trans ((below_lit wr (.cells #[.int .i64 ka, .int .i64 na, .string ma, .slice xa xl xc, .slice ua ul uc] 25)).mono hb.out.size)).cell (p := ⟨bk', _, none⟩) hbs').trans hx4
      have HCALL := Lib.hid (fun (w' : World) (hw : Below w.heap.size w w') => HCE.out w' hw ts[j] (List.getElem_mem hjt) _ _ ⟨.slice xa xl xc, .slice ua ul uc, rfl, tmP_below hw hls0'.out⟩ ⟨.slice ya yl yc, .slice va vl vc, rfl, tmP_below hw hls1'.out⟩)
      dsimp only [tv] at HCALL
      rw [hka, hna, hma] at HCALL
      clear hka hna hma hc0 hc1 hc2 hc3 hc4 hx0 hx1 hx2 hx3 hx4
      have q1' : (0 : Int) ≤ (j : Int) := by omega
      have q2' : (j : Int) < (len : Int) := by omega
      go_wp2_with (first | (go_at_call 47; refine (HCALL.out _ (hb.out.trans ((below_2 wr (.cells #[.int .i64 ka, .int .i64 na, .string ma, .slice xa xl xc, .slice ua ul uc] 25) (.cells #[.int .i64 ka, .int .i64 na, .string ma, .slice ya yl yc, .slice va vl vc] 25)).mono hb.out.size))).mono ?_; rintro e w9 ⟨rfl, hb9⟩; have HB9 := Lib.hid ((hb.out.trans ((below_2 wr (.cells #[.int .i64 ka, .int .i64 na, .string ma, .slice xa xl xc, .slice ua ul uc] 25) (.cells #[.int .i64 ka, .int .i64 na, .string ma, .slice ya yl yc, .slice va vl vc] 25)).mono hb.out.size)).trans (hb9.mono (hb.out.trans ((below_2 wr (.cells #[.int .i64 ka, .int .i64 na, .string ma, .slice xa xl xc, .slice ua ul uc] 25) (.cells #[.int .i64 ka, .int .i64 na, .string ma, .slice ya yl yc, .slice va vl vc] 25)).mono hb.out.size)).size)); clear hb9))
      exact ⟨⟨j + 1, by omega, by go_num, HB9.out⟩, by simp [intOf]; omega⟩
    · obtain rfl : j = len := by omega
      have hln : decide ((j : Int) < (j : Int)) = false := by simp
      go_wp2_with fail
      go_ret
      exact ⟨rfl, hb.out⟩
set_option maxRecDepth 100000 in
set_option maxHeartbeats 1000000 in
theorem eql_is : ∀ (N : Nat) (t : Lv) (v v' : Value) (w : World), nodes t ≤ N → N ≤ 100000000 → LvV w t v → LvV w t v' → Calls Tryz.prog 70 #[v, v'] w (Ret w (.bool true)) := by
  intro N
  induction N with
  | zero => intro t _ _ _ h; have := nodes_pos t; omega
  | succ N ih =>
  intro t v v' w hN hN8 hv hv'
  obtain ⟨s, rfl, hs⟩ := hv
  obtain ⟨s', rfl, hs'⟩ := hv'
  cases t with
  | mk k n ts =>
  rw [nodes] at hN
  rw [LvS] at hs hs'
  obtain ⟨A, len, cap, rfl, hl, _, h47, _, hts⟩ := hs
  obtain ⟨A', len', cap', rfl, hl', _, _, _, hts'⟩ := hs'
  obtain rfl : len = len' := hl.symm.trans hl'
  have HIH := Lib.hid ih
  have HTS := Lib.hid hts
  have HTS' := Lib.hid hts'
  have HL := Lib.hid hl
  have HN := Lib.hid hN
  have hk1 : (k == k) = true := by simp
  have hn1 : (n == n) = true := by simp
  show Calls _ _ #[.agg #[.int .i64 k, .int .i64 n, .slice A len cap], .agg #[.int .i64 k, .int .i64 n, .slice A' len cap']] w _
  clear ih hts hts' hl hl' hN
  have HB := Lib.hid (below_2 w (.cells #[.int .i64 k, .int .i64 n, .slice A len cap] 45) (.cells #[.int .i64 k, .int .i64 n, .slice A' len cap'] 45))
  go_enter Tryz.func70, Tryz.ntmps70
  go_wp2_with (go_at_call 69; refine (efl_is ts A A' len cap cap' _ HL.out h47 (lsV_below HB.out _ _ _ HTS.out) (lsV_below HB.out _ _ _ HTS'.out) (fun w' _ a ha v v' hv hv' => HIH.out a v v' w' (by have := nodes_mem ha; have := HN.out; omega) (by omega) hv hv')).mono ?_; rintro e w9 ⟨rfl, hb9⟩)
  go_ret
  exact ⟨rfl, HB.out.trans (hb9.mono HB.out.size)⟩
set_option maxRecDepth 100000 in
set_option maxHeartbeats 1000000 in
theorem equal_is : ∀ (N : Nat) (t : Tm) (v v' : Value) (w : World), tnodes t ≤ N → N ≤ 100000 → TmV w t v → TmV w t v' → Calls Tryz.prog 47 #[v, v'] w (Ret w (.bool true)) := by
  intro N
  induction N with
  | zero => intro t _ _ _ h; have := tnodes_pos t; omega
  | succ N ih =>
  intro t v v' w hN hN8 hv hv'
  obtain ⟨l, s, rfl, hs⟩ := hv
  obtain ⟨l', s', rfl, hs'⟩ := hv'
  cases t with
  | mk k n m ls ts =>
  rw [tnodes] at hN
  rw [TmP] at hs hs'
  obtain ⟨hlv, A, len, cap, rfl, hl, _, h47, _, hts⟩ := hs
  obtain ⟨hlv', A', len', cap', rfl, hl', _, _, _, hts'⟩ := hs'
  obtain rfl : len = len' := hl.symm.trans hl'
  have h2 := lvS_of _ _ hlv
  have h2' := lvS_of _ _ hlv'
  rw [LvS] at h2 h2'
  obtain ⟨C, lc, cc, rfl, hc, _, hc47, _, hcs⟩ := h2
  obtain ⟨C', lc', cc', rfl, hc', _, _, _, hcs'⟩ := h2'
  obtain rfl : lc = lc' := hc.symm.trans hc'
  have HIH := Lib.hid ih
  have HTS := Lib.hid hts
  have HTS' := Lib.hid hts'
  have HCS := Lib.hid hcs
  have HCS' := Lib.hid hcs'
  have HL := Lib.hid hl
  have HC := Lib.hid hc
  have HN := Lib.hid hN
  have hk1 : (k == k) = true := by simp
  have hn1 : (n == n) = true := by simp
  show Calls _ _ #[.agg #[.int .i64 k, .int .i64 n, .string m, .slice C lc cc, .slice A len cap], .agg #[.int .i64 k, .int .i64 n, .string m, .slice C' lc cc', .slice A' len cap']] w _
  clear ih hts hts' hl hl' hN hlv hlv' hcs hcs' hc hc'
  have z1 : (w.alloc (.cells #[.int .i64 k, .int .i64 n, .string m, .slice C lc cc, .slice A len cap] 25)).heap.size = w.heap.size + 1 := by simp
  have z2 : ((w.alloc (.cells #[.int .i64 k, .int .i64 n, .string m, .slice C lc cc, .slice A len cap] 25)).alloc (.cells #[.int .i64 k, .int .i64 n, .string m, .slice C' lc cc', .slice A' len cap'] 25)).heap.size = w.heap.size + 1 + 1 := by simp
  have r0 : (w.alloc (.cells #[.int .i64 k, .int .i64 n, .string m, .slice C lc cc, .slice A len cap] 25)).heap[w.heap.size]? = some (Obj.cells #[.int .i64 k, .int .i64 n, .string m, .slice C lc cc, .slice A len cap] 25 (0, 0)) := by
    have := heap_alloc_new w (.cells #[.int .i64 k, .int .i64 n, .string m, .slice C lc cc, .slice A len cap] 25)
    exact this
  have r1 : ((w.alloc (.cells #[.int .i64 k, .int .i64 n, .string m, .slice C lc cc, .slice A len cap] 25)).alloc (.cells #[.int .i64 k, .int .i64 n, .string m, .slice C' lc cc', .slice A' len cap'] 25)).heap[w.heap.size + 1]? = some (Obj.cells #[.int .i64 k, .int .i64 n, .string m, .slice C' lc cc', .slice A' len cap'] 25 (0, 0)) := by
    have := heap_alloc_new (w.alloc (.cells #[.int .i64 k, .int .i64 n, .string m, .slice C lc cc, .slice A len cap] 25)) (.cells #[.int .i64 k, .int .i64 n, .string m, .slice C' lc cc', .slice A' len cap'] 25)
    rwa [z1] at this
  have HB := Lib.hid ((below_lit w (.cells #[.int .i64 k, .int .i64 n, .string m, .slice C lc cc, .slice A len cap] 25)).trans ((below_lit (w.alloc (.cells #[.int .i64 k, .int .i64 n, .string m, .slice C lc cc, .slice A len cap] 25)) (.cells #[.int .i64 k, .int .i64 n, .string m, .slice C' lc cc', .slice A' len cap'] 25)).mono (below_lit w (.cells #[.int .i64 k, .int .i64 n, .string m, .slice C lc cc, .slice A len cap] 25)).size))
  have HR0 := Lib.hid ((heap_alloc_old (w.alloc (.cells #[.int .i64 k, .int .i64 n, .string m, .slice C lc cc, .slice A len cap] 25)) (.cells #[.int .i64 k, .int .i64 n, .string m, .slice C' lc cc', .slice A' len cap'] 25) (by rw [z1]; omega)).trans (r0))
  have HR1 := Lib.hid (r1)
  clear r0 r1
  go_enter Tryz.func47, Tryz.ntmps47
  go_wp2_with fail
  generalize ((w.alloc (.cells #[.int .i64 k, .int .i64 n, .string m, .slice C lc cc, .slice A len cap] 25)).alloc (.cells #[.int .i64 k, .int .i64 n, .string m, .slice C' lc cc', .slice A' len cap'] 25)) = W2 at *
  have HZ := Lib.hid z2
  clear z1 z2
  refine (efl_is ls C C' lc cc cc' W2 HC.out hc47 (lsV_below HB.out _ _ _ HCS.out) (lsV_below HB.out _ _ _ HCS'.out) (fun w' _ a ha v v' hv hv' => eql_is (nodes a) a v v' w' (Nat.le_refl _) (by have := nodes_mem ha; have := HN.out; omega) hv hv')).mono ?_
  rintro e w3 ⟨rfl, hb3⟩
  have hsz := HZ.out
  have HB3 := Lib.hid (HB.out.trans (hb3.mono HB.out.size))
  obtain ⟨a0, a1, a2, a3, a4⟩ := five_cells ((hb3.block w.heap.size (by omega)).trans HR0.out)
  obtain ⟨b0, b1, b2, b3, b4⟩ := five_cells ((hb3.block (w.heap.size + 1) (by omega)).trans HR1.out)
  clear hb3
  go_wp2_with fail
  refine (eft_is ts A A' len cap cap' w3 HL.out h47 (tsP_true (tsP_below HB3.out HTS.out)) (tsP_true (tsP_below HB3.out HTS'.out)) (fun w' _ a ha v v' hv hv' => HIH.out a v v' w' (by have := tnodes_mem ha; have := HN.out; omega) (by omega) hv hv')).mono ?_
  rintro e w9 ⟨rfl, hb9⟩
  go_wp2_with fail
  go_ret
  exact ⟨rfl, HB3.out.trans (hb9.mono HB3.out.size)⟩
set_option maxRecDepth 100000 in
set_option maxHeartbeats 1000000 in
theorem tsame_is (t : Tm) (v v' : Value) (w : World) (hv : TmV w t v) (hv' : TmV w t v') (hm : tnodes t ≤ 100000) : Calls Tryz.prog 20 #[v, v'] w (Ret w (.bool true)) := by
  obtain ⟨l', s', rfl, ht'⟩ := hv'
  obtain ⟨⟨la', ll', lc', rfl⟩, sa', sl', sc', rfl⟩ := tmP_slices ht'
  have HTT' := Lib.hid ht'
  clear ht'
  obtain ⟨l, s, rfl, ht⟩ := hv
  obtain ⟨⟨la, ll, lc, rfl⟩, sa, sl, sc, rfl⟩ := tmP_slices ht
  have HTT := Lib.hid ht
  obtain ⟨k, hk⟩ : ∃ k, tkOf t = k := ⟨_, rfl⟩
  obtain ⟨n, hn⟩ : ∃ n, tnOf t = n := ⟨_, rfl⟩
  obtain ⟨m, hmm⟩ : ∃ m, tmOf t = m := ⟨_, rfl⟩
  dsimp only [tv]
  rw [hk, hn, hmm]
  have HK := Lib.hid hk
  have HNN := Lib.hid hn
  have HMM := Lib.hid hmm
  have HM := Lib.hid hm
  clear hk hn hmm ht hm
  go_enter Tryz.func20, Tryz.ntmps20
  go_wp2_with fail
  have z1 : (w.alloc (.cells #[.int .i64 k, .int .i64 n, .string m, .slice la ll lc, .slice sa sl sc] 25)).heap.size = w.heap.size + 1 := by simp
  have z2 : ((w.alloc (.cells #[.int .i64 k, .int .i64 n, .string m, .slice la ll lc, .slice sa sl sc] 25)).alloc (.cells #[.int .i64 k, .int .i64 n, .string m, .slice la' ll' lc', .slice sa' sl' sc'] 25)).heap.size = w.heap.size + 1 + 1 := by simp
  have r0 : (w.alloc (.cells #[.int .i64 k, .int .i64 n, .string m, .slice la ll lc, .slice sa sl sc] 25)).heap[w.heap.size]? = some (Obj.cells #[.int .i64 k, .int .i64 n, .string m, .slice la ll lc, .slice sa sl sc] 25 (0, 0)) := by
    have := heap_alloc_new w (.cells #[.int .i64 k, .int .i64 n, .string m, .slice la ll lc, .slice sa sl sc] 25)
    exact this
  have r1 : ((w.alloc (.cells #[.int .i64 k, .int .i64 n, .string m, .slice la ll lc, .slice sa sl sc] 25)).alloc (.cells #[.int .i64 k, .int .i64 n, .string m, .slice la' ll' lc', .slice sa' sl' sc'] 25)).heap[w.heap.size + 1]? = some (Obj.cells #[.int .i64 k, .int .i64 n, .string m, .slice la' ll' lc', .slice sa' sl' sc'] 25 (0, 0)) := by
    have := heap_alloc_new (w.alloc (.cells #[.int .i64 k, .int .i64 n, .string m, .slice la ll lc, .slice sa sl sc] 25)) (.cells #[.int .i64 k, .int .i64 n, .string m, .slice la' ll' lc', .slice sa' sl' sc'] 25)
    rwa [z1] at this
  have HB := Lib.hid ((below_lit w (.cells #[.int .i64 k, .int .i64 n, .string m, .slice la ll lc, .slice sa sl sc] 25)).trans ((below_lit (w.alloc (.cells #[.int .i64 k, .int .i64 n, .string m, .slice la ll lc, .slice sa sl sc] 25)) (.cells #[.int .i64 k, .int .i64 n, .string m, .slice la' ll' lc', .slice sa' sl' sc'] 25)).mono (below_lit w (.cells #[.int .i64 k, .int .i64 n, .string m, .slice la ll lc, .slice sa sl sc] 25)).size))
  have HR0 := Lib.hid ((heap_alloc_old (w.alloc (.cells #[.int .i64 k, .int .i64 n, .string m, .slice la ll lc, .slice sa sl sc] 25)) (.cells #[.int .i64 k, .int .i64 n, .string m, .slice la' ll' lc', .slice sa' sl' sc'] 25) (by rw [z1]; omega)).trans (r0))
  have HR1 := Lib.hid (r1)
  clear r0 r1
  generalize ((w.alloc (.cells #[.int .i64 k, .int .i64 n, .string m, .slice la ll lc, .slice sa sl sc] 25)).alloc (.cells #[.int .i64 k, .int .i64 n, .string m, .slice la' ll' lc', .slice sa' sl' sc'] 25)) = W2 at *
  have HZ := Lib.hid z2
  clear z1 z2
  have hrm := isBounded_is t _ W2 ⟨_, _, rfl, tmP_below HB.out HTT.out⟩ HM.out
  dsimp only [tv] at hrm
  rw [HK.out, HNN.out, HMM.out] at hrm
  refine hrm.mono ?_
  clear hrm
  rintro e w3 ⟨rfl, hb3⟩
  have hsz := HZ.out
  have HB3 := Lib.hid (HB.out.trans (hb3.mono HB.out.size))
  obtain ⟨a0, a1, a2, a3, a4⟩ := five_cells ((hb3.block w.heap.size (by omega)).trans HR0.out)
  obtain ⟨b0, b1, b2, b3, b4⟩ := five_cells ((hb3.block (w.heap.size + 1) (by omega)).trans HR1.out)
  have hrm := equal_is (tnodes t) t _ _ w3 (Nat.le_refl _) HM.out ⟨_, _, rfl, tmP_below HB3.out HTT.out⟩ ⟨_, _, rfl, tmP_below HB3.out HTT'.out⟩
  dsimp only [tv] at hrm
  rw [HK.out, HNN.out, HMM.out] at hrm
  have HRM := Lib.hid hrm
  clear hb3 hrm
  go_wp2_with fail
  refine HRM.out.mono ?_
  rintro e w9 ⟨rfl, hb9⟩
  go_wp2_with fail
  go_ret
  exact ⟨rfl, HB3.out.trans (hb9.mono HB3.out.size)⟩
end Trm
end Go.Proofs.YtbkdecgfiiajnaaGreatDoor
