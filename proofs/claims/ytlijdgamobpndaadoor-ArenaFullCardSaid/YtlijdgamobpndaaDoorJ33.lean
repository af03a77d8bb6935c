import Derived.Test.YtlijdgamobpndaaDoorJ23
import Derived.Test.YtlijdgamobpndaaDoorJ28
import Derived.Test.YtlijdgamobpndaaDoorJ17
import Derived.Test.YtlijdgamobpndaaDoorJ12
import Derived.Test.YtlijdgamobpndaaDoorJ30
import Derived.Test.YtlijdgamobpndaaDoorJ31
import Derived.Test.YtlijdgamobpndaaDoorJ32
import Derived.Test.YtlijdgamobpndaaDoorJ19
/-
  The contract of an arena's 'made': the term of a node, in memory of its own.
  Conditions: the arena lies in memory as told by 'ArM', the number is the term's ('Holds'); the term's parts have room.
-/
namespace Go.Proofs.YtlijdgamobpndaaDoor
open Go.RowKit Go.Maps
open Lvl
open Trm
namespace Arn
theorem index_three (a0 a1 a2 j a : Nat) (hj : j < 3) (ha : (if j = 0 then a0 else if j = 1 then a1 else a2) = a) (w : World) : (Instr.index 54 (.agg #[.int .i64 (a0 : Nat), .int .i64 (a1 : Nat), .int .i64 (a2 : Nat)]) (.int .i64 (j : Nat))).run Tryd.prog w = .ok (.int .i64 (a : Nat)) w := by
  have : j = 0 ∨ j = 1 ∨ j = 2 := by omega
  rcases this with rfl | rfl | rfl
  · subst ha; exact index0 _ _ _ w
  · subst ha; exact index1 _ _ _ w
  · subst ha; exact index2 _ _ _ w
theorem getD_at (ids : List Nat) (j : Nat) (hj : j < 3) : (if j = 0 then ids.getD 0 0 else if j = 1 then ids.getD 1 0 else ids.getD 2 0) = ids.getD j 0 := by
  have : j = 0 ∨ j = 1 ∨ j = 2 := by omega
  rcases this with rfl | rfl | rfl <;> rfl

set_option maxRecDepth 100000 in
set_option maxHeartbeats 1500000 in
theorem made_up (base p bm most : Nat) (Va : Value) (ns : List Nd) : ∀ (N : Nat) (t : Tm) (id : Nat) (w : World), tnodes t ≤ N → ArM w base p bm most Va ns → okH t → Holds ns t id →
    Calls Tryd.prog 28 #[.pointer (some ⟨p, 0, none⟩), .agg (nc (nodeAt ns (id : Nat)))] w (TmRet w t) := by
  intro N
  induction N with
  | zero => intro t _ _ h; have := tnodes_pos t; omega
  | succ N ih =>
  intro t id w hN ha hok hh
  obtain ⟨i0, hi0, hz0, hz1, hz2⟩ := info_parts infoTm
  cases t with
  | mk k' n' m' ls ts =>
  obtain ⟨ids, hkey, hL, h3, hsm, _⟩ := holds_node hh
  obtain ⟨⟨⟨k, n, m, lvs, a0, a1, a2⟩, lo⟩, hd⟩ : ∃ d, nodeAt ns (id : Nat) = d := ⟨_, rfl⟩
  rw [hd] at hkey
  rw [hd]
  unfold keyOf at hkey
  dsimp only at hkey
  injection hkey with e1 e2 e3 e4 e5 e6 e7
  subst e1 e2 e3
  rw [okH] at hok
  rw [tnodes] at hN
  have HLVS := Lib.hid e4.symm
  have HID := Lib.hid (fun (j : Nat) (hj : j < 3) => show (if j = 0 then a0 else if j = 1 then a1 else a2) = ids.getD j 0 by rw [e5, e6, e7]; exact getD_at ids j hj)
  have IH := Lib.hid ih
  have HA := Lib.hid ha
  have HL := Lib.hid hL
  have HLE := Lib.hid (holdsL_len hL)
  have h3' : ts.length ≤ 3 := by rw [holdsL_len hL]; exact h3
  have HOL := Lib.hid hok.2
  have HSM := Lib.hid hsm
  have HLN := Lib.hid hok.1.2.2.2.2.2.2.1
  have HTN : Hid (tnodesL ts ≤ N) := by
    have : tnodesL ts ≤ N := by omega
    exact this
  dsimp only [nc]
  clear ih ha hL hok hsm hN hd e4 e5 e6 e7 hh
  go_enter Tryd.func28, Tryd.ntmps28
  go_wp2_with fail
  have z1 : (w.alloc (.cells #[.int .i64 k, .int .i64 n, .string m, .string lvs, .int .i64 (a0 : Nat), .int .i64 (a1 : Nat), .int .i64 (a2 : Nat), .int .i64 lo] 58)).heap.size = w.heap.size + 1 := by simp
  have z2 : ((w.alloc (.cells #[.int .i64 k, .int .i64 n, .string m, .string lvs, .int .i64 (a0 : Nat), .int .i64 (a1 : Nat), .int .i64 (a2 : Nat), .int .i64 lo] 58)).alloc (.cells #[.int .i64 0, .int .i64 0, .string ⟨#[]⟩, .slice none 0 0, .slice none 0 0] 25)).heap.size = w.heap.size + 1 + 1 := by simp
  have r0 : (w.alloc (.cells #[.int .i64 k, .int .i64 n, .string m, .string lvs, .int .i64 (a0 : Nat), .int .i64 (a1 : Nat), .int .i64 (a2 : Nat), .int .i64 lo] 58)).heap[w.heap.size]? = some (Obj.cells #[.int .i64 k, .int .i64 n, .string m, .string lvs, .int .i64 (a0 : Nat), .int .i64 (a1 : Nat), .int .i64 (a2 : Nat), .int .i64 lo] 58 (0, 0)) := by
    have := heap_alloc_new w (.cells #[.int .i64 k, .int .i64 n, .string m, .string lvs, .int .i64 (a0 : Nat), .int .i64 (a1 : Nat), .int .i64 (a2 : Nat), .int .i64 lo] 58)
    exact this
  have r1 : ((w.alloc (.cells #[.int .i64 k, .int .i64 n, .string m, .string lvs, .int .i64 (a0 : Nat), .int .i64 (a1 : Nat), .int .i64 (a2 : Nat), .int .i64 lo] 58)).alloc (.cells #[.int .i64 0, .int .i64 0, .string ⟨#[]⟩, .slice none 0 0, .slice none 0 0] 25)).heap[w.heap.size + 1]? = some (Obj.cells #[.int .i64 0, .int .i64 0, .string ⟨#[]⟩, .slice none 0 0, .slice none 0 0] 25 (0, 0)) := by
    have := heap_alloc_new (w.alloc (.cells #[.int .i64 k, .int .i64 n, .string m, .string lvs, .int .i64 (a0 : Nat), .int .i64 (a1 : Nat), .int .i64 (a2 : Nat), .int .i64 lo] 58)) (.cells #[.int .i64 0, .int .i64 0, .string ⟨#[]⟩, .slice none 0 0, .slice none 0 0] 25)
    rwa [z1] at this
  have HB := Lib.hid ((below_lit w (.cells #[.int .i64 k, .int .i64 n, .string m, .string lvs, .int .i64 (a0 : Nat), .int .i64 (a1 : Nat), .int .i64 (a2 : Nat), .int .i64 lo] 58)).trans ((below_lit (w.alloc (.cells #[.int .i64 k, .int .i64 n, .string m, .string lvs, .int .i64 (a0 : Nat), .int .i64 (a1 : Nat), .int .i64 (a2 : Nat), .int .i64 lo] 58)) (.cells #[.int .i64 0, .int .i64 0, .string ⟨#[]⟩, .slice none 0 0, .slice none 0 0] 25)).mono (below_lit w (.cells #[.int .i64 k, .int .i64 n, .string m, .string lvs, .int .i64 (a0 : Nat), .int .i64 (a1 : Nat), .int .i64 (a2 : Nat), .int .i64 lo] 58)).size))
  have HR0 := Lib.hid ((heap_alloc_old (w.alloc (.cells #[.int .i64 k, .int .i64 n, .string m, .string lvs, .int .i64 (a0 : Nat), .int .i64 (a1 : Nat), .int .i64 (a2 : Nat), .int .i64 lo] 58)) (.cells #[.int .i64 0, .int .i64 0, .string ⟨#[]⟩, .slice none 0 0, .slice none 0 0] 25) (by rw [z1]; omega)).trans (r0))
  have HR1 := Lib.hid (r1)
  clear r0 r1
  generalize ((w.alloc (.cells #[.int .i64 k, .int .i64 n, .string m, .string lvs, .int .i64 (a0 : Nat), .int .i64 (a1 : Nat), .int .i64 (a2 : Nat), .int .i64 lo] 58)).alloc (.cells #[.int .i64 0, .int .i64 0, .string ⟨#[]⟩, .slice none 0 0, .slice none 0 0] 25)) = W2 at *
  have HZ := Lib.hid z2
  clear z1 z2
  have hk : Hid (∀ W', Below W2.heap.size W2 W' → W'.cell? ⟨w.heap.size, 0, none⟩ = some (.int .i64 k) ∧ W'.cell? ⟨w.heap.size, 1, none⟩ = some (.int .i64 n) ∧ W'.cell? ⟨w.heap.size, 2, none⟩ = some (.string m) ∧ W'.cell? ⟨w.heap.size, 3, none⟩ = some (.string lvs)) := fun W' h => by
    obtain ⟨c0, c1, c2, c3, _⟩ := eight_cells ((h.block w.heap.size (by rw [HZ.out]; omega)).trans HR0.out)
    exact ⟨c0, c1, c2, c3⟩
  have hsz2 := HZ.out
  have hlsl : ls.length ≤ 100000 := Nat.le_trans (len_nodes ls) HLN.out
  refine wp_mono (Q := fun e a' W' => e = .normal ∧ ∃ (Bo : Nat) (va : Option Addr) (vl vc : Nat), (w.heap.size + 1 + 1 ≤ Bo ∧ Bo < W'.heap.size ∧ Below W2.heap.size W2 W' ∧ W'.heap[Bo]? = some (.cells #[.int .i64 k, .int .i64 n, .string m, .slice va vl vc, .slice none 0 0] 25 (0, 0)) ∧ LvP W' (fun b => w.heap.size + 1 + 1 ≤ b ∧ b ≠ Bo) (.mk 0 0 ls) (.slice va vl vc)) ∧ a' = { tmps := #[.pointer (some ⟨p, 0, none⟩), .agg #[.int .i64 k, .int .i64 n, .string m, .string lvs, .int .i64 (a0 : Nat), .int .i64 (a1 : Nat), .int .i64 (a2 : Nat), .int .i64 lo], undef, .pointer (some ⟨w.heap.size, 0, none⟩), .pointer (some ⟨w.heap.size + 1, 0, none⟩), .pointer (some ⟨Bo, 0, none⟩), undef, undef, .pointer (some ⟨w.heap.size, 0, none⟩), .pointer (some ⟨w.heap.size, 0, none⟩), .int .i64 k, .pointer (some ⟨w.heap.size, 0, none⟩), .pointer (some ⟨w.heap.size, 1, none⟩), .int .i64 n, .pointer (some ⟨w.heap.size, 0, none⟩), .pointer (some ⟨w.heap.size, 2, none⟩), .string m, .pointer (some ⟨w.heap.size, 0, none⟩), .pointer (some ⟨w.heap.size, 3, none⟩), .string lvs, .slice va vl vc, .agg #[.int .i64 k, .int .i64 n, .string m, .slice va vl vc, .slice none 0 0], undef, undef, undef, undef, undef, undef, undef, undef, undef, undef, undef, undef, undef, undef, undef, undef, undef, undef, undef, undef], defers := [] }) ?region ?rest
  case region =>
    refine wp_region_held_drew (S := fun W' => W'.cell? ⟨w.heap.size, 0, none⟩ = some (.int .i64 k) ∧ W'.cell? ⟨w.heap.size, 1, none⟩ = some (.int .i64 n) ∧ W'.cell? ⟨w.heap.size, 2, none⟩ = some (.string m) ∧ W'.cell? ⟨w.heap.size, 3, none⟩ = some (.string lvs)) (by kernel_rfl) (hk.out _ ((Below.refl _ _).drew)) (fun hHeld => ?_)
    refine take_in (i := 0) (v := ?_) rfl (by kernel_rfl) (by kernel_rfl) (by kernel_rfl) (fun _ _ _ h => by cases h.1) (by rfl) ?_ hHeld ?_
    rotate_left
    · intro w hSw
      (try dsimp only at hSw)
      go_simp
      try with_reducible rfl
    try simp only [Act.put, List.setIfInBounds_toArray, List.set_cons_zero, List.set_cons_succ]
    refine take_in (i := 1) (v := ?_) rfl (by kernel_rfl) (by kernel_rfl) (by kernel_rfl) (fun _ _ _ h => by cases h.1) (by rfl) ?_ hHeld ?_
    rotate_left
    · intro w hSw
      (try dsimp only at hSw)
      go_simp
      try with_reducible rfl
    try simp only [Act.put, List.setIfInBounds_toArray, List.set_cons_zero, List.set_cons_succ]
    refine take_in (i := 2) (v := ?_) rfl (by kernel_rfl) (by kernel_rfl) (by kernel_rfl) (fun _ _ _ h => by cases h.1) (by rfl) ?_ hHeld ?_
    rotate_left
    · intro w hSw
      (try dsimp only at hSw)
      go_simp
      try with_reducible rfl
    try simp only [Act.put, List.setIfInBounds_toArray, List.set_cons_zero, List.set_cons_succ]
    refine take_in (i := 3) (v := ?_) rfl (by kernel_rfl) (by kernel_rfl) (by kernel_rfl) (fun _ _ _ h => by cases h.1) (by rfl) ?_ hHeld ?_
    rotate_left
    · intro w hSw
      (try dsimp only at hSw)
      go_simp
      try with_reducible rfl
    try simp only [Act.put, List.setIfInBounds_toArray, List.set_cons_zero, List.set_cons_succ]
    refine take_in (i := 4) (v := ?_) rfl (by kernel_rfl) (by kernel_rfl) (by kernel_rfl) (fun _ _ _ h => by cases h.1) (by rfl) ?_ hHeld ?_
    rotate_left
    · intro w hSw
      (try dsimp only at hSw)
      go_simp
      try with_reducible rfl
    try simp only [Act.put, List.setIfInBounds_toArray, List.set_cons_zero, List.set_cons_succ]
    refine take_in (i := 5) (v := ?_) rfl (by kernel_rfl) (by kernel_rfl) (by kernel_rfl) (fun _ _ _ h => by cases h.1) (by rfl) ?_ hHeld ?_
    rotate_left
    · intro w hSw
      (try dsimp only at hSw)
      go_simp
      try with_reducible rfl
    try simp only [Act.put, List.setIfInBounds_toArray, List.set_cons_zero, List.set_cons_succ]
    refine take_in (i := 6) (v := ?_) rfl (by kernel_rfl) (by kernel_rfl) (by kernel_rfl) (fun _ _ _ h => by cases h.1) (by rfl) ?_ hHeld ?_
    rotate_left
    · intro w hSw
      (try dsimp only at hSw)
      go_simp
      try with_reducible rfl
    try simp only [Act.put, List.setIfInBounds_toArray, List.set_cons_zero, List.set_cons_succ]
    refine take_in (i := 7) (v := ?_) rfl (by kernel_rfl) (by kernel_rfl) (by kernel_rfl) (fun _ _ _ h => by cases h.1) (by rfl) ?_ hHeld ?_
    rotate_left
    · intro w hSw
      (try dsimp only at hSw)
      go_simp
      try with_reducible rfl
    try simp only [Act.put, List.setIfInBounds_toArray, List.set_cons_zero, List.set_cons_succ]
    refine take_in (i := 8) (v := ?_) rfl (by kernel_rfl) (by kernel_rfl) (by kernel_rfl) (fun _ _ _ h => by cases h.1) (by rfl) ?_ hHeld ?_
    rotate_left
    · intro w hSw
      (try dsimp only at hSw)
      go_simp
      try with_reducible rfl
    try simp only [Act.put, List.setIfInBounds_toArray, List.set_cons_zero, List.set_cons_succ]
    refine take_in (i := 9) (v := ?_) rfl (by kernel_rfl) (by kernel_rfl) (by kernel_rfl) (fun _ _ _ h => by cases h.1) (by rfl) ?_ hHeld ?_
    rotate_left
    · intro w hSw
      (try dsimp only at hSw)
      go_simp
      try with_reducible rfl
    try simp only [Act.put, List.setIfInBounds_toArray, List.set_cons_zero, List.set_cons_succ]
    refine take_in (i := 10) (v := ?_) rfl (by kernel_rfl) (by kernel_rfl) (by kernel_rfl) (fun _ _ _ h => by cases h.1) (by rfl) ?_ hHeld ?_
    rotate_left
    · intro w hSw
      (try dsimp only at hSw)
      go_simp
      try with_reducible rfl
    try simp only [Act.put, List.setIfInBounds_toArray, List.set_cons_zero, List.set_cons_succ]
    refine take_in (i := 11) (v := ?_) rfl (by kernel_rfl) (by kernel_rfl) (by kernel_rfl) (fun _ _ _ h => by cases h.1) (by rfl) ?_ hHeld ?_
    rotate_left
    · intro w hSw
      (try dsimp only at hSw)
      go_simp
      try with_reducible rfl
    try simp only [Act.put, List.setIfInBounds_toArray, List.set_cons_zero, List.set_cons_succ]
    refine two_in (i := 12) (j := 14) rfl rfl (by kernel_rfl) (fun K hK => ?_) (fun K hK => ?_)
    · clear hHeld
      go_simp
      go_at_call 38
      refine (levelsOf_is ls lvs _ HLVS.out HSM.out HLN.out).mono ?_
      rintro e w5 ⟨V5, rfl, hown, hb5⟩
      obtain ⟨va, vl, vc, rfl⟩ := ownL_slice hown
      have HB5 := Lib.hid ((Below.refl W2.heap.size W2).drew.trans hb5)
      have hP := ownL_lvP hown (by omega) 0 0
      have HP := Lib.hid (lvP_weak hP (Q := fun b => w.heap.size + 1 + 1 ≤ b) (fun b h => by have h : W2.heap.size ≤ b := h; omega))
      clear hb5 hown hP
      have hb6 := below_lit w5 (.cells #[.int .i64 0, .int .i64 0, .string ⟨#[]⟩, .slice none 0 0, .slice none 0 0] 25)
      have n0 := heap_alloc_new w5 (.cells #[.int .i64 0, .int .i64 0, .string ⟨#[]⟩, .slice none 0 0, .slice none 0 0] 25)
      try (go_wp2_with fail)
      refine hK.out _ _ (hk.out _ HB5.out) (fun hHeld => ?_)
      clear hK K
      try simp only [Act.put, List.setIfInBounds_toArray, List.set_cons_zero, List.set_cons_succ]
      refine take_in (i := 13) (v := ?_) rfl (by kernel_rfl) (by kernel_rfl) (by kernel_rfl) (fun _ _ _ h => by cases h.1) (by rfl) ?_ hHeld ?_
      rotate_left
      · intro w hSw
        (try dsimp only at hSw)
        go_simp
        try with_reducible rfl
      try simp only [Act.put, List.setIfInBounds_toArray, List.set_cons_zero, List.set_cons_succ]
      refine call_in (i := 14) rfl (by kernel_rfl) (fun K hK => ?_)
      clear hHeld
      go_simp
      try (go_wp2_with fail)
      refine hK.out _ _ (hk.out _ (HB5.out.trans (hb6.mono HB5.out.size))) (fun hHeld => ?_)
      clear hK K
      try simp only [Act.put, List.setIfInBounds_toArray, List.set_cons_zero, List.set_cons_succ]
      refine call_in (i := 15) rfl (by kernel_rfl) (fun K hK => ?_)
      clear hHeld
      go_simp
      have hb7 := below_lit w5 (.cells #[.int .i64 k, .int .i64 n, .string m, .slice va vl vc, .slice none 0 0] 25)
      refine hK.out _ _ (hk.out _ (HB5.out.trans (hb7.mono HB5.out.size))) (fun _ => ?_)
      clear hK K
      refine wpAnyH_done (by kernel_rfl) ?_ _
      have q5 := HB5.out.size
      refine ⟨rfl, w5.heap.size, va, vl, vc, ⟨by omega, by simp, HB5.out.trans (hb7.mono HB5.out.size), heap_alloc_new w5 _, ?_⟩, rfl⟩
      exact lvP_move (fun b hlt hp => ⟨⟨hp, by omega⟩, hb7.block b hlt⟩) hb7.size _ _ HP.out
    · clear hHeld
      go_simp
      have hb3 := (below_lit W2 (.cells #[.int .i64 0, .int .i64 0, .string ⟨#[]⟩, .slice none 0 0, .slice none 0 0] 25)).drew
      have hs3 : ((W2.alloc (.cells #[.int .i64 0, .int .i64 0, .string ⟨#[]⟩, .slice none 0 0, .slice none 0 0] 25)).drew).heap.size = w.heap.size + 1 + 1 + 1 := by
        show (W2.alloc (.cells #[.int .i64 0, .int .i64 0, .string ⟨#[]⟩, .slice none 0 0, .slice none 0 0] 25)).heap.size = _
        simp [hsz2]
      have hr3 : ((W2.alloc (.cells #[.int .i64 0, .int .i64 0, .string ⟨#[]⟩, .slice none 0 0, .slice none 0 0] 25)).drew).heap[w.heap.size + 1 + 1]? = some (Obj.cells #[.int .i64 0, .int .i64 0, .string ⟨#[]⟩, .slice none 0 0, .slice none 0 0] 25 (0, 0)) := by
        have := heap_alloc_new W2 (.cells #[.int .i64 0, .int .i64 0, .string ⟨#[]⟩, .slice none 0 0, .slice none 0 0] 25)
        rw [hsz2] at this
        exact this
      have HB3 := Lib.hid hb3
      try (go_wp2_with fail)
      refine hK.out _ _ (hk.out _ HB3.out) (fun hHeld => ?_)
      clear hK K
      try simp only [Act.put, List.setIfInBounds_toArray, List.set_cons_zero, List.set_cons_succ]
      generalize (W2.alloc (.cells #[.int .i64 0, .int .i64 0, .string ⟨#[]⟩, .slice none 0 0, .slice none 0 0] 25)).drew = W3 at *
      have HR3 := Lib.hid hr3
      clear hr3 hb3
      refine call_in (i := 12) rfl (by kernel_rfl) (fun K hK => ?_)
      clear hHeld
      go_simp
      go_at_call 38
      refine (levelsOf_is ls lvs _ HLVS.out HSM.out HLN.out).mono ?_
      rintro e w5 ⟨V5, rfl, hown, hb5⟩
      obtain ⟨va, vl, vc, rfl⟩ := ownL_slice hown
      have HB5 := Lib.hid (HB3.out.trans (hb5.mono HB3.out.size))
      have hP := ownL_lvP hown (by omega) 0 0
      have HP := Lib.hid (lvP_weak hP (Q := fun b => w.heap.size + 1 + 1 + 1 ≤ b) (fun b h => by have h : W3.heap.size ≤ b := h; omega))
      have hr5 := (hb5.block (w.heap.size + 1 + 1) (by rw [hs3]; omega)).trans HR3.out
      have HS5 : Hid (w.heap.size + 1 + 1 + 1 ≤ w5.heap.size) := by have := hb5.size; rw [hs3] at this; exact this
      clear hb5 hown hP
      obtain ⟨n0, n1, n2, n3, n4⟩ := five_cells hr5
      have m0 := frozen0 (p := 0) hr5
      have m1 := frozen0 (p := 1) hr5
      have m2 := frozen0 (p := 2) hr5
      have m3 := frozen0 (p := 3) hr5
      have m4 := frozen0 (p := 4) hr5
      try (go_wp2_with fail)
      refine hK.out _ _ (hk.out _ HB5.out) (fun hHeld => ?_)
      clear hK K
      try simp only [Act.put, List.setIfInBounds_toArray, List.set_cons_zero, List.set_cons_succ]
      refine take_in (i := 13) (v := ?_) rfl (by kernel_rfl) (by kernel_rfl) (by kernel_rfl) (fun _ _ _ h => by cases h.1) (by rfl) ?_ hHeld ?_
      rotate_left
      · intro w hSw
        (try dsimp only at hSw)
        go_simp
        try with_reducible rfl
      try simp only [Act.put, List.setIfInBounds_toArray, List.set_cons_zero, List.set_cons_succ]
      refine call_in (i := 15) rfl (by kernel_rfl) (fun K hK => ?_)
      clear hHeld
      go_simp
      have hb7 := set5_below (n₀ := W2.heap.size) HB5.out (w.heap.size + 1 + 1) 0 (.int .i64 k) (.int .i64 n) (.string m) (.slice va vl vc) (.slice none 0 0) (by omega)
      refine hK.out _ _ (hk.out _ hb7) (fun _ => ?_)
      clear hK K
      refine wpAnyH_done (by kernel_rfl) ?_ _
      refine ⟨rfl, w.heap.size + 1 + 1, va, vl, vc, ⟨by omega, by have := HS5.out; show _ < (((((w5.setCell _ _).setCell _ _).setCell _ _).setCell _ _).setCell _ _).heap.size; rw [setCell_size, setCell_size, setCell_size, setCell_size, setCell_size]; omega, hb7, set5_row hr5, ?_⟩, rfl⟩
      exact lvP_move (w := w5) (fun b _ hp => ⟨⟨by omega, by omega⟩, set5_far' w5 (w.heap.size + 1 + 1) 0 b _ _ _ _ _ (by omega)⟩) (by show w5.heap.size ≤ (((((w5.setCell _ _).setCell _ _).setCell _ _).setCell _ _).setCell _ _).heap.size; rw [setCell_size, setCell_size, setCell_size, setCell_size, setCell_size]; exact Nat.le_refl _) _ _ HP.out
  case rest =>
    rintro e a7 W3 ⟨rfl, Bo, va, vl, vc, ⟨hBo, hBl, hb3, hro, hlv⟩, rfl⟩
    have HB3 := Lib.hid (HB.out.trans (hb3.mono HB.out.size))
    have HRN := Lib.hid ((hb3.block w.heap.size (by omega)).trans HR0.out)
    have HRR := Lib.hid ((hb3.block (w.heap.size + 1) (by omega)).trans HR1.out)
    have HRO := Lib.hid hro
    have HLV := Lib.hid hlv
    have hW3 : w.heap.size + 1 + 1 ≤ W3.heap.size := by rw [← hsz2]; exact hb3.size
    obtain ⟨c0, c1, c2, c3, c4, c5, c6, c7⟩ := eight_cells HRN.out
    clear hk HR0 HR1 HB HZ hb3 hro hlv hsz2
    go_wp2_with fail
    go_loopw [7, 25] (fun _ i wr => ∃ (j : Nat) (V : Value), j ≤ 3 ∧ i = .int .i64 j ∧ Hid (wr.heap[Bo]? = some (.cells #[.int .i64 k, .int .i64 n, .string m, .slice va vl vc, V] 25 (0, 0))) ∧ OwnT wr W3.heap.size V (ts.take j) ∧ Hid (W3.grownBy wr (some Bo))) (fun _ i _ => 3 - (intOf i).toNat)
    case atStart => exact ⟨0, .slice none 0 0, by omega, rfl, HRO.out, by rw [List.take_zero]; exact ownT_nil _ _, grown_of _ (Below.refl _ _)⟩
    case round =>
      obtain ⟨j, V, hj, rfl, hrow, hown, hgr⟩ := hrel
      have HOWN := Lib.hid hown
      have hszg := grown_size hgr.out
      have HBr : Hid (Below w.heap.size w wr) := HB3.out.grown hgr.out HB3.out.size (fun k e => by cases e; omega)
      have HAr := Lib.hid (HA.out.below HBr.out)
      obtain ⟨d0, d1, d2, d3, d4⟩ := five_cells hrow.out
      clear hown
      by_cases hlt : j < 3
      · have hln : decide ((j : Int) < 3) = true := by simp; omega
        obtain ⟨a, haj⟩ : ∃ a, ids.getD j 0 = a := ⟨_, rfl⟩
        have hidx := fun w' => index_three a0 a1 a2 j a hlt ((HID.out j hlt).trans haj) w'
        by_cases hjl : j < ts.length
        · have hji : j < ids.length := by rw [← HLE.out]; exact hjl
          have hhj := holdsL_get HL.out j hjl hji
          have haj2 : ids[j] = a := by rw [← haj, List.getD_eq_getElem?_getD, List.getElem?_eq_getElem hji]; rfl
          rw [haj2] at hhj
          have hap := (holds_pos hhj).1
          have haz : ((a : Int) == 0) = false := by simp; omega
          have HTJ := Lib.hid (And.intro (Nat.le_trans (tnodes_mem (List.getElem_mem hjl)) HTN.out) (okHL_mem HOL.out _ (List.getElem_mem hjl)))
          have HTK := Lib.hid (show ts.take (j + 1) = ts.take j ++ [ts[j]] by rw [List.take_add_one, List.getElem?_eq_getElem hjl]; rfl)
          have HHJ := Lib.hid hhj
          clear hhj haj2
          generalize hki : tkOf ts[j] = ki at *
          generalize hnu : tnOf ts[j] = nu at *
          generalize hmo : tmOf ts[j] = mo at *
          generalize ts[j] = tj at *
          have HKI := Lib.hid hki
          have HNU := Lib.hid hnu
          have HMO := Lib.hid hmo
          obtain ⟨ss, hsl, hso, hsk⟩ := HOWN.out
          have hjl2 : (ts.take j).length = j := by rw [List.length_take]; omega
          rw [hjl2] at hso
          have HO := Lib.hid hso
          have HSL := Lib.hid hsl
          have HSK := Lib.hid hsk
          have HJL := Lib.hid hjl2
          have hbo1 : j + 1 ≤ maxLen := by unfold maxLen; omega
          have hbo2 : (j + 1) * 80 ≤ 140737488355328 := by omega
          have hVge : ∀ k, V.ownBlock = some k → W3.heap.size ≤ k := own_block hso
          have HVG := Lib.hid hVge
          have HVN : Hid (some Bo ≠ V.ownBlock) := fun e => by
            have := HVG.out Bo e.symm
            omega
          have hk6 : Hid (∀ W', Below wr.drew.heap.size wr.drew W' → W'.cell? ⟨Bo, 4, none⟩ = some V) := fun W' h => (h.cell (p := ⟨Bo, 4, none⟩) (by show Bo < wr.heap.size; omega)).trans d4
          clear hki hnu hmo hso hsl hsk hjl2 hVge haj d0 d1 d2 d3
          go_wp2_with fail
          refine region_E (S := fun W' => W'.cell? ⟨Bo, 4, none⟩ = some V) 10 (by kernel_rfl) ?_
          refine (fun (hHeld : (fun W' : World => W'.cell? ⟨Bo, 4, none⟩ = some V) _) => ?_) (hk6.out _ (Below.refl _ _))
          refine take_E (i := 0) (v := ?_) 8 [1, 0] rfl (by kernel_rfl) (by kernel_rfl) (by kernel_rfl) (by kernel_rfl) rfl (by decide) (by kernel_rfl) rfl (fun _ _ _ h => h) (by rfl) ?_ hHeld ?_
          rotate_left
          · intro w hSw
            (try dsimp only at hSw)
            go_simp
            try with_reducible rfl
          try simp only [Act.put, List.setIfInBounds_toArray, List.set_cons_zero, List.set_cons_succ]
          refine take_E (i := 1) (v := ?_) 8 [1] rfl (by kernel_rfl) (by kernel_rfl) (by kernel_rfl) (by kernel_rfl) rfl (by decide) (by kernel_rfl) rfl (fun _ _ _ h => h) (by rfl) ?_ hHeld ?_
          rotate_left
          · intro w hSw
            (try dsimp only at hSw)
            go_simp
            try with_reducible rfl
          try simp only [Act.put, List.setIfInBounds_toArray, List.set_cons_zero, List.set_cons_succ]
          refine take_E (i := 2) (v := ?_) 8 [7, 6, 2] rfl (by kernel_rfl) (by kernel_rfl) (by kernel_rfl) (by kernel_rfl) rfl (by decide) (by kernel_rfl) rfl (fun _ _ _ h => h) (by rfl) ?_ hHeld ?_
          rotate_left
          · intro w hSw
            (try dsimp only at hSw)
            go_simp
            try with_reducible rfl
          try simp only [Act.put, List.setIfInBounds_toArray, List.set_cons_zero, List.set_cons_succ]
          refine take_E (i := 3) (v := ?_) 8 [7, 6, 5, 3] rfl (by kernel_rfl) (by kernel_rfl) (by kernel_rfl) (by kernel_rfl) rfl (by decide) (by kernel_rfl) rfl (fun _ _ _ h => h) (by rfl) ?_ hHeld ?_
          rotate_left
          · intro w hSw
            (try dsimp only at hSw)
            go_simp
            try with_reducible rfl
          try simp only [Act.put, List.setIfInBounds_toArray, List.set_cons_zero, List.set_cons_succ]
          refine take_E (i := 4) (v := ?_) 8 [7, 6, 5, 4] rfl (by kernel_rfl) (by kernel_rfl) (by kernel_rfl) (by kernel_rfl) rfl (by decide) (by kernel_rfl) rfl (fun _ _ _ h => h) (by rfl) ?_ hHeld ?_
          rotate_left
          · intro w hSw
            (try dsimp only at hSw)
            go_simp
            try with_reducible rfl
          try simp only [Act.put, List.setIfInBounds_toArray, List.set_cons_zero, List.set_cons_succ]
          refine only_E (i := 5) rfl (by kernel_rfl) (fun K hK => ?_)
          clear hHeld
          go_simp
          go_at_call 27
          refine (node_is _ base p bm most Va ns (HAr.out.below (Below.refl _ _).drew) (a : Nat) _ rfl).mono ?_
          rintro e w5 ⟨rfl, hb5⟩
          have HC5 := Lib.hid hb5
          clear hb5

          try (go_wp2_with fail)
          refine (fun (hHeld : (fun W' : World => W'.cell? ⟨Bo, 4, none⟩ = some V) _) => hK.out _ _ (fun _ => hHeld) ?_) (hk6.out w5 HC5.out)
          clear hK K
          try simp only [Act.put, List.setIfInBounds_toArray, List.set_cons_zero, List.set_cons_succ]
          refine only_E (i := 6) rfl (by kernel_rfl) (fun K hK => ?_)
          clear hHeld
          go_simp
          go_at_call 28
          refine (IH.out tj a w5 HTJ.out.1 ((HAr.out.below (Below.refl _ _).drew).below HC5.out) HTJ.out.2 HHJ.out).mono ?_
          rintro e w6 ⟨l9, s9, rfl, hs9, hb6⟩
          dsimp only [tv]
          rw [HKI.out, HNU.out, HMO.out]
          have HC6 := Lib.hid (HC5.out.trans (hb6.mono HC5.out.size))
          have HS9 := Lib.hid (tmP_weak (Q := fun b => wr.drew.heap.size ≤ b) (fun b hb => Nat.le_trans HC5.out.size hb) hs9)
          clear hs9 hb6

          try (go_wp2_with fail)
          refine (fun (hHeld : (fun W' : World => W'.cell? ⟨Bo, 4, none⟩ = some V) _) => hK.out _ _ (fun _ => hHeld) ?_) (hk6.out w6 HC6.out)
          clear hK K
          try simp only [Act.put, List.setIfInBounds_toArray, List.set_cons_zero, List.set_cons_succ]
          refine only_E (i := 7) rfl (by kernel_rfl) (fun K hK => ?_)
          clear hHeld
          go_simp

          try (go_wp2_with fail)
          refine (fun (hHeld : (fun W' : World => W'.cell? ⟨Bo, 4, none⟩ = some V) _) => hK.out _ _ (fun _ => hHeld) ?_) (hk6.out _ (HC6.out.trans ((below_lit w6 (.cells #[.int .i64 ki, .int .i64 nu, .string mo, l9, s9] 25)).mono HC6.out.size)))
          clear hK K
          try simp only [Act.put, List.setIfInBounds_toArray, List.set_cons_zero, List.set_cons_succ]
          refine only_E (i := 8) rfl (by kernel_rfl) (fun K hK => ?_)
          clear hHeld
          have how := own_alloc (own_below HO.out ((Below.refl wr.heap.size wr).drew.trans HC6.out)) (.cells #[.int .i64 ki, .int .i64 nu, .string mo, l9, s9] 25)
          refine step_append_lies _ rfl (.tmp 31) (.tmp 37) 23 rfl W3.heap.size 25 i0 (.agg #[.int .i64 0, .int .i64 0, .string ⟨#[]⟩, .slice none 0 0, .slice none 0 0]) 5 80 Tryd.underlying23 hi0 hz0 hz1 hz2 rfl (by decide) V j (cells5 (ts.take j) ss) (by simp [Act.eval]) how ⟨w6.heap.size, 0, none⟩ 1 1 [.int .i64 ki, .int .i64 nu, .string mo, l9, s9] (by simp [Act.eval]) rfl (World.news_of_block (heap_alloc_new w6 _)) (five_oneCell (tmP_one HS9.out).1 (tmP_one HS9.out).2) (by decide) hbo1 hbo2 (by have h1 := HC6.out.size; have h2 : wr.drew.heap.size = wr.heap.size := rfl; simp; omega) (w6.heap.size + 1) (by simp) ?_
          intro g cap8 w8 hown8 hgrow8 hat8 hlt8
          have hw8 := (hgrow8.block Bo (by have h1 := HC6.out.size; have h2 : wr.drew.heap.size = wr.heap.size := rfl; simp; omega) HVN.out).trans ((heap_alloc_old w6 _ (by have h1 := HC6.out.size; have h2 : wr.drew.heap.size = wr.heap.size := rfl; omega)).trans ((HC6.out.block Bo (by show Bo < wr.heap.size; omega)).trans hrow.out))
          have HW8 := Lib.hid hw8
          have HOW8 := Lib.hid hown8
          have HGW8 := Lib.hid hgrow8
          have HAT8 := Lib.hid hat8
          have hS8 : w8.cell? ⟨Bo, 4, none⟩ = some V := (five_cells hw8).2.2.2.2
          clear hw8 hown8 hgrow8 hat8 how

          refine (fun (hHeld : (fun W' : World => W'.cell? ⟨Bo, 4, none⟩ = some V) _) => hK.out _ _ (fun _ => hHeld) ?_) (hS8)
          clear hK K
          try simp only [Act.put, List.setIfInBounds_toArray, List.set_cons_zero, List.set_cons_succ]
          refine only_E (i := 9) rfl (by kernel_rfl) (fun K hK => ?_)
          clear hHeld
          go_simp

          try (go_wp2_with fail)
          refine (fun (hHeld : (fun W' : World => W'.cell? ⟨Bo, 4, none⟩ = some V) _) => hK.out _ _ (fun _ => hHeld) ?_) (hS8)
          clear hK K
          try simp only [Act.put, List.setIfInBounds_toArray, List.set_cons_zero, List.set_cons_succ]
          refine only_E (i := 10) rfl (by kernel_rfl) (fun K hK => ?_)
          clear hHeld
          have f4 := frozen0 (p := 4) HW8.out
          go_simp
          have HF1 := Lib.hid (setCell_arr (p := 4) (v := (.slice (some ⟨g, 0, none⟩) (j + 1) cap8)) HW8.out)
          have hf2 := roundT (p := 4) (B := Bo) (V' := (.slice (some ⟨g, 0, none⟩) (j + 1) cap8)) hszg hBl HSL.out HJL.out HO.out HSK.out HKI.out HNU.out HMO.out HTK.out HC6.out HS9.out HOW8.out HGW8.out HAT8.out
          have hf3 := grown_round (a := ⟨Bo, 4, none⟩) (v := (.slice (some ⟨g, 0, none⟩) (j + 1) cap8)) hgr.out ((Below.refl wr.heap.size wr).drew.trans HC6.out) HGW8.out HVG.out rfl
          have HF2 := Lib.hid hf2
          have HF3 := Lib.hid hf3
          refine hK.out _ _ (fun h => by cases h) ?_
          clear hK K hS8 f4 hf2 hf3 d4
          try simp only [Act.put, List.setIfInBounds_toArray, List.set_cons_zero, List.set_cons_succ]
          refine done_E (by kernel_rfl) ?_ _
          generalize w8.setCell ⟨Bo, 4, none⟩ (.slice (some ⟨g, 0, none⟩) (j + 1) cap8) = w9 at *
          go_wp2_with fail
          go_roundw
          case rel => exact ⟨j + 1, _, by omega, by go_num, HF1.out, HF2.out, HF3.out⟩
          case measure => simp [intOf]; omega
        · have ha0 : a = 0 := by
            rw [← haj, List.getD_eq_getElem?_getD, List.getElem?_eq_none (by rw [← HLE.out]; omega)]
            rfl
          subst ha0
          have HTK : Hid (ts.take (j + 1) = ts.take j) := by
            have : ts.take (j + 1) = ts.take j := by rw [List.take_of_length_le (by omega), List.take_of_length_le (by omega)]
            exact this
          clear haj
          go_wp2_with fail
          go_roundw
          case rel => exact ⟨j + 1, V, by omega, by go_num, hrow.out, by rw [HTK.out]; exact HOWN.out, hgr.out⟩
          case measure => simp [intOf]; omega
      · obtain rfl : j = 3 := by omega
        have hln : decide (((3 : Nat) : Int) < 3) = false := by decide
        have hln2 : decide ((3 : Int) < 3) = false := by decide
        rw [List.take_of_length_le h3'] at HOWN
        obtain ⟨ua, ul, uc, rfl⟩ := ownT_slice HOWN.out
        have hr1 := (hgr.out.block (w.heap.size + 1) (by omega) (by simp; omega)).trans HRR.out
        obtain ⟨e0, e1, e2, e3, e4⟩ := five_cells hr1
        have g0 := frozen0 (p := 0) hr1
        have g1 := frozen0 (p := 1) hr1
        have g2 := frozen0 (p := 2) hr1
        have g3 := frozen0 (p := 3) hr1
        have g4 := frozen0 (p := 4) hr1
        have HR1 := Lib.hid hr1
        clear hr1
        go_wp2_with fail
        refine bodyPost_ret (results_cell_row rfl _ _ (w.heap.size + 1) 25 _ (0, 0) _ rfl (set5_row HR1.out) Tryd.underlying25 rfl (by rw [hi0, Option.map_some, hz1]; rfl)) rfl ?_
        have hfar : ∀ b, b ≠ w.heap.size + 1 → _ := fun b hb => set5_far' wr (w.heap.size + 1) 0 b (.int .i64 k) (.int .i64 n) (.string m) (.slice va vl vc) (.slice ua ul uc) hb
        have hsze := set5_sz wr (w.heap.size + 1) 0 (.int .i64 k) (.int .i64 n) (.string m) (.slice va vl vc) (.slice ua ul uc)
        obtain ⟨QA, ql, qc, qe, qn, qlc, qnA, qts⟩ := ownT_tsP HOWN.out
        cases qe
        refine ⟨_, _, rfl, ?_, set5_below HBr.out _ 0 _ _ _ _ _ (by omega)⟩
        rw [TmP]
        refine ⟨lvP_move (w := W3) (P := fun b => w.heap.size + 1 + 1 ≤ b ∧ b ≠ Bo) (fun b hlt hp => ⟨by omega, (hfar b (by omega)).trans (hgr.out.block b hlt (by simp; omega))⟩) (by rw [hsze]; exact hszg) _ _ HLV.out, _, _, _, rfl, qn, qlc, by omega, qnA, ?_⟩
        exact tsP_move (w := wr) (fun b _ hp => ⟨by omega, hfar b (by omega)⟩) (by rw [hsze]; exact Nat.le_refl _) _ _ _ qts
end Arn
end Go.Proofs.YtlijdgamobpndaaDoor
/-
  The contract of an arena's 'Term', of a number that is held.
  Conditions: the arena lies in memory as told by 'ArM', the number is the term's ('Holds'); the term's parts have room.
-/
namespace Go.Proofs.YtlijdgamobpndaaDoor
open Go.RowKit Go.Maps
open Lvl
open Trm
namespace Arn
set_option maxRecDepth 100000 in
set_option maxHeartbeats 1500000 in
theorem term_is (base p bm most : Nat) (Va : Value) (ns : List Nd) (t : Tm) (id : Nat) (w : World) (ha : ArM w base p bm most Va ns) (hok : okH t) (hh : Holds ns t id) :
    Calls Tryd.prog 15 #[.pointer (some ⟨p, 0, none⟩), .int .i64 (id : Nat)] w (fun e w' => ∃ l s, e = .returned (.tuple #[tv t l s, .bool true]) ∧ TmP w' (fun b => w.heap.size ≤ b) t l s ∧ Below w.heap.size w w') := by
  obtain ⟨i0, hi0, hz0, hz1, hz2⟩ := info_parts infoTm
  have HA := Lib.hid ha
  have hkd : (nodeAt ns (id : Nat)).key.kd ≠ 0 := by
    cases t with
    | mk k n m ls ts =>
    obtain ⟨ids, hkey, _⟩ := holds_node hh
    rw [hkey]
    rw [okH] at hok
    have := hok.1.1
    show k ≠ 0
    omega
  have HMADE := Lib.hid (fun w' (h : ArM w' base p bm most Va ns) => made_up base p bm most Va ns (tnodes t) t id w' (Nat.le_refl _) h hok hh)
  have HNODE := Lib.hid (fun w' (h : ArM w' base p bm most Va ns) => node_is w' base p bm most Va ns h (id : Nat) _ rfl)
  obtain ⟨⟨⟨k, n, m, lvs, a0, a1, a2⟩, lo⟩, hd⟩ : ∃ d, nodeAt ns (id : Nat) = d := ⟨_, rfl⟩
  rw [hd] at HMADE HNODE hkd
  dsimp only [nc] at HMADE HNODE hkd
  have dk : (k == 0) = false := by simp; exact hkd
  obtain ⟨kt, hkt⟩ : ∃ q, tkOf t = q := ⟨_, rfl⟩
  obtain ⟨nt, hnt⟩ : ∃ q, tnOf t = q := ⟨_, rfl⟩
  obtain ⟨mt, hmt⟩ : ∃ q, tmOf t = q := ⟨_, rfl⟩
  have HKT := Lib.hid (And.intro hkt (And.intro hnt hmt))
  have hb0 := below_lit w (.cells #[.int .i64 0, .int .i64 0, .string ⟨#[]⟩, .slice none 0 0, .slice none 0 0] 25)
  have hr0 := heap_alloc_new w (.cells #[.int .i64 0, .int .i64 0, .string ⟨#[]⟩, .slice none 0 0, .slice none 0 0] 25)
  have hz9 : (w.alloc (.cells #[.int .i64 0, .int .i64 0, .string ⟨#[]⟩, .slice none 0 0, .slice none 0 0] 25)).heap.size = w.heap.size + 1 := by simp
  have HB0 := Lib.hid hb0
  have HR0 := Lib.hid hr0
  have HZ0 := Lib.hid hz9
  clear ha hok hh hd hkd hkt hnt hmt hb0 hr0 hz9
  go_enter Tryd.func15, Tryd.ntmps15
  go_wp2_with fail
  generalize w.alloc (.cells #[.int .i64 0, .int .i64 0, .string ⟨#[]⟩, .slice none 0 0, .slice none 0 0] 25) = W at *
  refine (HNODE.out W (HA.out.below HB0.out)).mono ?_
  rintro e w1 ⟨rfl, hb1⟩
  have hb2 := below_lit w1 (.cells #[.int .i64 k, .int .i64 n, .string m, .string lvs, .int .i64 (a0 : Nat), .int .i64 (a1 : Nat), .int .i64 (a2 : Nat), .int .i64 lo] 58)
  have hr2 := heap_alloc_new w1 (.cells #[.int .i64 k, .int .i64 n, .string m, .string lvs, .int .i64 (a0 : Nat), .int .i64 (a1 : Nat), .int .i64 (a2 : Nat), .int .i64 lo] 58)
  obtain ⟨e0, e1, e2, e3, e4, e5, e6, e7⟩ := eight_cells hr2
  have HB2 := Lib.hid (hb1.trans (hb2.mono hb1.size))
  clear hb1 hb2 hr2
  go_wp2_with fail
  generalize w1.alloc (.cells #[.int .i64 k, .int .i64 n, .string m, .string lvs, .int .i64 (a0 : Nat), .int .i64 (a1 : Nat), .int .i64 (a2 : Nat), .int .i64 lo] 58) = W2 at *
  clear e0 e1 e2 e3 e4 e5 e6 e7
  refine (HMADE.out W2 ((HA.out.below HB0.out).below HB2.out)).mono ?_
  rintro e w3 ⟨l, s, rfl, ht, hb3⟩
  obtain ⟨⟨la, ll, lc, rfl⟩, sa, sl, sc, rfl⟩ := tmP_slices ht
  dsimp only [tv]
  rw [HKT.out.1, HKT.out.2.1, HKT.out.2.2]
  have hbW := HB2.out.trans (hb3.mono HB2.out.size)
  have hr3 := (hbW.block w.heap.size (by rw [HZ0.out]; omega)).trans HR0.out
  have HT := Lib.hid (tmP_weak (Q := fun b => w.heap.size + 1 ≤ b) (fun b hb => Nat.le_trans (by rw [← HZ0.out]; exact HB2.out.size) hb) ht)
  have HBW := Lib.hid (HB0.out.trans (hbW.mono HB0.out.size))
  have HR3 := Lib.hid hr3
  obtain ⟨e0, e1, e2, e3, e4⟩ := five_cells hr3
  have g0 := frozen0 (p := 0) hr3
  have g1 := frozen0 (p := 1) hr3
  have g2 := frozen0 (p := 2) hr3
  have g3 := frozen0 (p := 3) hr3
  have g4 := frozen0 (p := 4) hr3
  clear ht hb3 hbW hr3
  go_wp2_with fail
  refine bodyPost_ret (results_row_tmp rfl _ _ (w.heap.size) 25 _ (0, 0) _ rfl (set5_row HR3.out) Tryd.underlying25 rfl (by rw [hi0, Option.map_some, hz1]; rfl)) rfl ?_
  refine ⟨_, _, by dsimp only [tv]; rw [HKT.out.1, HKT.out.2.1, HKT.out.2.2]; rfl, ?_, set5_below HBW.out _ 0 _ _ _ _ _ (Nat.le_refl _)⟩
  exact tmP_move (w := w3) (fun b _ (hp : w.heap.size + 1 ≤ b) => ⟨by omega, set5_far' w3 w.heap.size 0 b _ _ _ _ _ (by omega)⟩) (Nat.le_of_eq (set5_sz w3 w.heap.size 0 _ _ _ _ _).symm) _ _ _ HT.out
end Arn
end Go.Proofs.YtlijdgamobpndaaDoor
/-
  Layer 5's check 'alive' returns true: an arena of its own, two holds, and what is told of them.
  Conditions: name.Right's contract (RN right of no name is asked).
-/
namespace Go.Proofs.YtlijdgamobpndaaDoor
open Go.RowKit Go.Maps
open Lvl
open Trm
namespace Arn
abbrev tt2 : Tm := tboth (tboth (tvar 0))
def ns3 : List Nd := (holdT 10 tt2 []).2
theorem k1 : (holdT 10 tt2 []).1 = 3 := by decide +kernel
/-- Terms without levels, of at most three arguments, of kinds that are no noughts. -/
def CA (t : Tm) : Prop := okH t
theorem downs_okH : Downs okH := fun k n nm ls ts h => by
  rw [okH] at h
  exact ⟨h.1.2.2.2.2.2.1, h.1.2.2.2.2.2.2.2, okHL_mem h.2⟩
theorem okH_var (n : Int) (h0 : 0 ≤ n) (h1 : n < 1152921504606846976) : okH (tvar n) := by
  rw [okH, okHL]
  exact ⟨⟨by decide, by decide, h0, h1, by decide, by rw [smL]; trivial, by rw [nodesL]; omega, by decide⟩, trivial⟩
theorem okH_both {t : Tm} (h : okH t) : okH (tboth t) := by
  rw [okH, okHL, okHL, okHL]
  exact ⟨⟨by decide, by decide, by decide, by decide, by decide, by rw [smL]; trivial, by rw [nodesL]; omega, by simp⟩, h, h, trivial⟩
theorem ok2 : okH tt2 := okH_both (okH_both (okH_var 0 (by decide) (by decide)))
theorem hs2 : Held okH 10 [] ns3 (tnodes tt2) ∧ Holds ns3 tt2 3 := by
  have h := holdT_is downs_okH 10 tt2 [] ok2 (inv_nil _)
  have h1 := h.2.1 (by rw [k1]; decide)
  rw [k1] at h1
  exact ⟨h.1, h1⟩
theorem hv1 : Holds ns3 (tvar 0) 1 := by
  rw [Holds]
  exact ⟨Nat.le_refl _, by rw [smL]; trivial, by decide, ⟨⟨1, 0, ⟨#[]⟩, ⟨#[]⟩, 0, 0, 0⟩, 1⟩, [], by rfl, rfl, by rw [HoldsL]; trivial, fun i hi => by cases hi⟩
theorem k2 : holdT 10 (tvar 0) ns3 = (1, ns3) := holdT_held hs2.1.inv 10 _ _ hv1
theorem ah3 : Ahead ns3 := inv_ahead hs2.1.inv fun k n nm ls ts h => by
  rw [okH] at h
  have := h.1.1
  omega
theorem nm0 : nmOk (tvar 0) := by rw [nmOk, nmOkL]; exact ⟨by decide, trivial⟩
theorem nmB {t : Tm} (h : nmOk t) : nmOk (tboth t) := by
  rw [nmOk, nmOkL, nmOkL, nmOkL]
  exact ⟨by decide, h, h, trivial⟩
theorem k3 : ns3.length = 3 := by decide +kernel
theorem k4 : (nodeAt ns3 (3 : Nat)).key.kd = 4 := by decide +kernel
theorem k5 : argOf (nodeAt ns3 (3 : Nat)).key 1 = 2 := by decide +kernel
theorem k6 : (nodeAt ns3 (3 : Nat)).lo = 1 := by decide +kernel
theorem k7 : shared ns3 3 = 3 := by decide +kernel
set_option maxRecDepth 100000 in
set_option maxHeartbeats 1000000 in
theorem alive_is (RN : ByteArray → Bool) (hr2 : rightT RN 4 tt2 1125899906842624 = true) (hr0 : rightT RN 4 (tvar 0) 1125899906842624 = true) (w : World) (CN : NameC w RN) : Calls Tryd.prog 6 #[] w (Ret w (.bool true)) := by
  have HCN := Lib.hid CN
  have HR2 := Lib.hid hr2
  have HRV := Lib.hid hr0
  clear CN hr2 hr0
  go_enter Tryd.func6, Tryd.ntmps6
  go_wp2_with fail
  refine (new_is w 10 (by decide) (by decide)).mono ?_
  rintro e w1 ⟨p, bm, rfl, ha1, hb1⟩
  have HA1 := Lib.hid ha1
  have HB1 := Lib.hid hb1
  have hp1 := ha1.plt
  have hm1 := ha1.mlt
  clear ha1 hb1
  go_wp2_with fail
  refine (variable_is 0 w1).mono ?_
  rintro e w2 ⟨rfl, ht2, hb2⟩
  have HT2 := Lib.hid (tmP_weak (Q := fun b => w1.heap.size ≤ b) (fun b hb => hb.elim) ht2)
  have HB2 := Lib.hid hb2
  clear ht2 hb2
  dsimp only [tv]
  go_wp2_with fail
  refine (both_is (tvar 0) _ _ _ w2 HT2.out).mono ?_
  rintro e w3 ⟨l3, s3, rfl, ht3, hb3⟩
  have HT3 := Lib.hid (tmP_weak (Q := fun b => w1.heap.size ≤ b) (fun b hb => by rcases hb with hb | hb; exact hb; exact Nat.le_trans HB2.out.size hb) ht3)
  have HB3 := Lib.hid (HB2.out.trans (hb3.mono HB2.out.size))
  clear ht3 hb3
  dsimp only [tv]
  go_wp2_with fail
  refine (both_is (tboth (tvar 0)) _ _ _ w3 HT3.out).mono ?_
  rintro e w4 ⟨l4, s4, rfl, ht4, hb4⟩
  obtain ⟨⟨laT, llT, lcT, rfl⟩, saT, slT, scT, rfl⟩ := tmP_slices ht4
  have HT4 := Lib.hid (tmP_weak (Q := fun b => w1.heap.size ≤ b) (fun b hb => by rcases hb with hb | hb; exact hb; exact Nat.le_trans HB3.out.size hb) ht4)
  have HB4 := Lib.hid (HB3.out.trans (hb4.mono HB3.out.size))
  clear ht4 hb4
  dsimp only [tv]
  have hbx := below_lit w4 (.cells #[.int .i64 4, .int .i64 0, .string ⟨#[]⟩, .slice laT llT lcT, .slice saT slT scT] 25)
  have hrx := heap_alloc_new w4 (.cells #[.int .i64 4, .int .i64 0, .string ⟨#[]⟩, .slice laT llT lcT, .slice saT slT scT] 25)
  have hzx : w4.heap.size < (w4.alloc (.cells #[.int .i64 4, .int .i64 0, .string ⟨#[]⟩, .slice laT llT lcT, .slice saT slT scT] 25)).heap.size := by simp
  have HTX := Lib.hid (tmP_move (w := w4.alloc (.cells #[.int .i64 4, .int .i64 0, .string ⟨#[]⟩, .slice laT llT lcT, .slice saT slT scT] 25)) (w' := w4.alloc (.cells #[.int .i64 4, .int .i64 0, .string ⟨#[]⟩, .slice laT llT lcT, .slice saT slT scT] 25)) (Q := fun b => w1.heap.size ≤ b ∧ b < (w4.alloc (.cells #[.int .i64 4, .int .i64 0, .string ⟨#[]⟩, .slice laT llT lcT, .slice saT slT scT] 25)).heap.size) (fun b hlt hb => ⟨⟨hb, hlt⟩, rfl⟩) (Nat.le_refl _) _ _ _ (tmP_below hbx HT4.out))
  have HBX := Lib.hid (HB4.out.trans (hbx.mono HB4.out.size))
  obtain ⟨c0, c1, c2, c3, c4⟩ := five_cells hrx
  have HRX := Lib.hid hrx
  have HZX := Lib.hid hzx
  clear hbx hrx hzx
  go_wp2_with fail
  generalize w4.alloc (.cells #[.int .i64 4, .int .i64 0, .string ⟨#[]⟩, .slice laT llT lcT, .slice saT slT scT] 25) = W at *
  have hS4 : w1.heap.size ≤ w4.heap.size := HB4.out.size
  generalize w4.heap.size = B at *
  have HAW := Lib.hid (HA1.out.below HBX.out)
  have HBW := Lib.hid (HB1.out.trans (HBX.out.mono HB1.out.size))
  refine (holds_is RN tt2 _ _ W w.heap.size p bm 10 _ [] HAW.out HBW.out.size (by decide) (nmB (nmB nm0)) (HCN.out.below HBW.out) (tmP_weak (fun b (hb : w1.heap.size ≤ b ∧ b < W.heap.size) => ⟨by omega, by omega, fun e => by cases e⟩) HTX.out) true HR2.out).mono ?_
  rintro e w5 h5
  unfold HoldsRet HoldRet at h5
  rw [if_pos rfl] at h5
  obtain ⟨V5, rfl, ha5, hk5⟩ := h5
  rw [k1, if_neg (by decide)]
  have HA5 : Hid (ArM w5 w.heap.size p bm 10 V5 ns3) := ha5
  have HK5 := Lib.hid hk5
  have HV5 : Hid (∀ g, V5.ownBlock = some g → W.heap.size ≤ g) := fun g hg => by
    rcases hk5.moved g hg with e | e
    · cases e
    · exact e
  have hr5 := (hk5.block B HZX.out (by omega) (by omega) (fun e => by cases e)).trans HRX.out
  have HR5 := Lib.hid hr5
  have HT5 := Lib.hid (tmP_kp hk5 (fun b (hb : w1.heap.size ≤ b ∧ b < W.heap.size) => ⟨by omega, by omega, fun e => by cases e⟩) HTX.out)
  have HB5 := Lib.hid (HBW.out.trans (hk5.below HAW.out (Nat.le_refl _)))
  have hsz5 := hk5.size
  clear ha5 hk5 c0 c1 c2 c3 c4 hr5
  go_wp2_with fail
  refine (variable_is 0 w5).mono ?_
  rintro e w6 ⟨rfl, ht6, hb6⟩
  have HA6 := Lib.hid (HA5.out.below hb6)
  have HB6 := Lib.hid (HB5.out.trans (hb6.mono HB5.out.size))
  have HR6 := Lib.hid ((hb6.block B (by have := HZX.out; omega)).trans HR5.out)
  have HT6 := Lib.hid (tmP_below hb6 HT5.out)
  have HTV := Lib.hid ht6
  have hsz6 := hb6.size
  clear ht6 hb6
  dsimp only [tv]
  go_wp2_with fail
  have hh := holds_is RN (tvar 0) _ _ w6 w.heap.size p bm 10 V5 ns3 HA6.out HB6.out.size (by decide) nm0 (HCN.out.below HB6.out) (tmP_weak (fun b (hb : False) => hb.elim) HTV.out) true HRV.out
  unfold HoldsRet HoldRet at hh
  simp only [k2, if_true] at hh
  refine hh.mono ?_
  rintro e w7 ⟨V7, rfl, ha7, hk7⟩
  rw [if_neg (by decide)]
  have HA7 := Lib.hid ha7
  have hzx := HZX.out
  have HR7 := Lib.hid ((hk7.block B (by omega) (by omega) (by omega) (fun e => by have := HV5.out B e; omega)).trans HR6.out)
  have HB7 := Lib.hid (HB6.out.trans (hk7.below HA6.out (Nat.le_refl _)))
  have HT7 : Hid (TmV w7 tt2 (.agg #[.int .i64 4, .int .i64 0, .string ⟨#[]⟩, .slice laT llT lcT, .slice saT slT scT])) := by
    have : TmV w7 tt2 (.agg #[.int .i64 4, .int .i64 0, .string ⟨#[]⟩, .slice laT llT lcT, .slice saT slT scT]) := ⟨_, _, rfl, tmP_weak (fun _ _ => trivial) (tmP_kp hk7 (fun b (hb : w1.heap.size ≤ b ∧ b < W.heap.size) => ⟨by omega, by omega, fun e => by have := HV5.out b e; omega⟩) HT6.out)⟩
    exact this
  clear ha7 hk7 hh
  go_wp2_with fail
  refine (term_is w.heap.size p bm 10 V7 ns3 tt2 3 w7 HA7.out ok2 hs2.2).mono ?_
  rintro e w8 ⟨l8, s8, rfl, ht8, hb8⟩
  obtain ⟨⟨laX, llX, lcX, rfl⟩, saX, slX, scX, rfl⟩ := tmP_slices ht8
  dsimp only [tv]
  have hbx := below_lit w8 (.cells #[.int .i64 4, .int .i64 0, .string ⟨#[]⟩, .slice laX llX lcX, .slice saX slX scX] 25)
  have hrx := heap_alloc_new w8 (.cells #[.int .i64 4, .int .i64 0, .string ⟨#[]⟩, .slice laX llX lcX, .slice saX slX scX] 25)
  have HTX8 : Hid (TmV (w8.alloc (.cells #[.int .i64 4, .int .i64 0, .string ⟨#[]⟩, .slice laX llX lcX, .slice saX slX scX] 25)) tt2 (.agg #[.int .i64 4, .int .i64 0, .string ⟨#[]⟩, .slice laX llX lcX, .slice saX slX scX])) := by
    have : TmV (w8.alloc (.cells #[.int .i64 4, .int .i64 0, .string ⟨#[]⟩, .slice laX llX lcX, .slice saX slX scX] 25)) tt2 (.agg #[.int .i64 4, .int .i64 0, .string ⟨#[]⟩, .slice laX llX lcX, .slice saX slX scX]) := ⟨_, _, rfl, tmP_below hbx (tmP_weak (fun _ _ => trivial) ht8)⟩
    exact this
  have hb78 := hb8.trans (hbx.mono hb8.size)
  have HB78 := Lib.hid hb78
  have HR8 := Lib.hid ((hb78.block B (by have h1 := HR7.out; exact (Array.getElem?_eq_some_iff.1 h1).1)).trans HR7.out)
  have HB8 := Lib.hid (HB7.out.trans (hb78.mono HB7.out.size))
  obtain ⟨x0, x1, x2, x3, x4⟩ := five_cells hrx
  obtain ⟨c0, c1, c2, c3, c4⟩ := five_cells HR8.out
  have HA8 := Lib.hid (HA7.out.below hb78)
  have HT8 := Lib.hid (HT7.out.below hb78)
  clear ht8 hbx hrx hb8 hb78
  go_wp2_with fail
  generalize w8.alloc (.cells #[.int .i64 4, .int .i64 0, .string ⟨#[]⟩, .slice laX llX lcX, .slice saX slX scX] 25) = W8 at *
  refine (sameTerm_is tt2 _ _ W8 HTX8.out HT8.out).mono ?_
  rintro e y1 ⟨rfl, hb⟩
  have HY1 := Lib.hid hb
  clear hb x0 x1 x2 x3 x4 c0 c1 c2 c3 c4
  go_wp2_with fail
  refine (count_is y1 w.heap.size p bm 10 V7 ns3 (HA8.out.below HY1.out) 3 k3).mono ?_
  rintro e y2 ⟨rfl, hb⟩
  have HY2 := Lib.hid (HY1.out.trans (hb.mono HY1.out.size))
  clear hb
  go_wp2_with fail
  refine (kind_is y2 w.heap.size p bm 10 V7 ns3 (HA8.out.below HY2.out) (3 : Nat) 4 k4).mono ?_
  rintro e y3 ⟨rfl, hb⟩
  have HY3 := Lib.hid (HY2.out.trans (hb.mono HY2.out.size))
  clear hb
  go_wp2_with fail
  refine (arg_is y3 w.heap.size p bm 10 V7 ns3 (HA8.out.below HY3.out) (3 : Nat) 1 2 k5).mono ?_
  rintro e y4 ⟨rfl, hb⟩
  have HY4 := Lib.hid (HY3.out.trans (hb.mono HY3.out.size))
  clear hb
  go_wp2_with fail
  refine (loose_is5 y4 w.heap.size p bm 10 V7 ns3 (HA8.out.below HY4.out) (3 : Nat) 1 k6 (by decide)).mono ?_
  rintro e y5 ⟨rfl, hb⟩
  have HY5 := Lib.hid (HY4.out.trans (hb.mono HY4.out.size))
  clear hb
  go_wp2_with fail
  refine (shared_is w.heap.size p bm 10 V7 ns3 ah3 y5 3 (by decide) (HA8.out.below HY5.out) 3 k7).mono ?_
  rintro e y6 ⟨rfl, hb⟩
  have HY6 := Lib.hid (HY5.out.trans (hb.mono HY5.out.size))
  clear hb
  go_wp2_with fail
  go_ret
  exact ⟨rfl, HB8.out.trans (HY6.out.mono HB8.out.size)⟩
end Arn
end Go.Proofs.YtlijdgamobpndaaDoor
