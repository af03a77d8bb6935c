/-
 Layer 6's check 'alive' returns true: closed terms, raised, lowered, put in and abstracted.
 Conditions: name.Right's contract.
-/
import Derived.Test.YteomfakbbcpckaaGreatDoorJ21
import Derived.Test.YteomfakbbcpckaaGreatDoorJ29
import Derived.Test.YteomfakbbcpckaaGreatDoorJ30
import Derived.Test.YteomfakbbcpckaaGreatDoorJ31
import Derived.Test.YteomfakbbcpckaaGreatDoorJ25
import Derived.Test.YteomfakbbcpckaaGreatDoorJ28
import Derived.Test.YteomfakbbcpckaaGreatDoorJ07
namespace Go.Proofs.YteomfakbbcpckaaGreatDoor
open Go.RowKit
open Lvl
open Trm
namespace Bnd
abbrev tca : Tm := .mk 3 0 ⟨#[97]⟩ [] []
abbrev tcb : Tm := .mk 3 0 ⟨#[98]⟩ [] []
abbrev tap (a b : Tm) : Tm := .mk 4 0 ⟨#[]⟩ [] [a, b]
abbrev tlm (a b : Tm) : Tm := .mk 5 0 ⟨#[]⟩ [] [a, b]
theorem leaf_in (k n : Int) (m : ByteArray) (w : World) : TmP w (fun _ => True) (.mk k n m [] []) (.slice none 0 0) (.slice none 0 0) := by
 rw [TmP, LvP]
 exact ⟨⟨none, 0, 0, rfl, rfl, Nat.le_refl _, by omega, fun _ => rfl, by rw [LsP]; trivial⟩, none, 0, 0, rfl, rfl, Nat.le_refl _, by omega, fun _ => rfl, by rw [TsP]; trivial⟩
theorem nm_leaf (k n : Int) (m : ByteArray) (h : m.size ≤ 140737488355328) : nmOk (.mk k n m [] []) := by rw [nmOk, nmOkL]; exact ⟨h, trivial⟩
theorem nm_two (k : Int) {a b : Tm} (ha : nmOk a) (hb : nmOk b) : nmOk (.mk k 0 ⟨#[]⟩ [] [a, b]) := by
 rw [nmOk, nmOkL, nmOkL, nmOkL]; exact ⟨by decide, ha, hb, trivial⟩
theorem al1 : subT (instF [tca, tcb]) (tap (tvr 1) (tvr 0)) 0 = tap tca tcb := by rfl
theorem al2 : subT (absF [⟨#[97]⟩, ⟨#[98]⟩]) (tap tca tcb) 0 = tap (tvr 1) (tvr 0) := by rfl
theorem al3 : subT (raF 3 0) (tlm (tvr 0) (tap (tvr 0) (tvr 1))) 0 = tlm (tvr 3) (tap (tvr 0) (tvr 4)) := by rfl
theorem al4 : subT (raF (-2) 2) (tvr 3) 0 = tvr 1 := by rfl
theorem al5 : subT (replF ⟨#[97]⟩ (tvr 0)) (tlm tca tca) 0 = tlm (tvr 0) (tvr 1) := by rfl
theorem al6 : (rightT Nm.rightB 4 (tap (tvr 1) (tvr 0)) 1125899906842624 && (areB Nm.rightB [tca, tcb] && decide (tnodes (subT (instF [tca, tcb]) (tap (tvr 1) (tvr 0)) 0) ≤ 2000))) = true := by decide +kernel
abbrev tz0 : Tm := tlm (tvr 0) (tap (tvr 0) (tvr 1))
abbrev tz2 : Tm := tlm (tvr 3) (tap (tvr 0) (tvr 4))
theorem al9 : (rightT Nm.rightB 4 (tap tca tcb) 1125899906842624 && decide (tnodes (subT (absF [⟨#[97]⟩, ⟨#[98]⟩]) (tap tca tcb) 0) ≤ 2000)) = true := by decide +kernel
theorem al10 : (!farB 3 && (!farB 0 && rightT Nm.rightB 4 tz0 1125899906842624)) = true := by decide +kernel
theorem al11 : (!farB 2 && (rightT Nm.rightB 4 (tvr 3) 1125899906842624 && decide (cntT (fun n => decide (n < 2)) (tvr 3) 0 = 0))) = true := by decide +kernel
theorem al12 : (!farB 2 && (rightT Nm.rightB 4 (tvr 1) 1125899906842624 && decide (cntT (fun n => decide (n < 2)) (tvr 1) 0 = 0))) = false := by decide +kernel
theorem al13 : (areB Nm.rightB [tlm tca tca, tvr 0] && decide (tnodes (subT (replF ⟨#[97]⟩ (tvr 0)) (tlm tca tca) 0) ≤ 2000)) = true := by decide +kernel
theorem al14 : decide (0 < (if rightT Nm.rightB 4 tz2 1125899906842624 = true then cntT (fun n => n == 3) tz2 0 else 0)) = true := by decide +kernel
theorem al15 : (if rightT Nm.rightB 4 tz2 1125899906842624 = true then cntT (fun n => n == 3) tz2 0 else 0) = 2 := by decide +kernel
theorem so_mem (nm : ByteArray) (xs : List ByteArray) : nm ∈ sortedOf xs ↔ nm ∈ xs := by
 have heta : ∀ x : ByteArray, (⟨x.data.toList.toArray⟩ : ByteArray) = x := fun x => by cases x; simp
 unfold sortedOf
 rw [List.mem_map]
 constructor
 ·rintro ⟨l, hl, rfl⟩
  rw [sortedL_mem, List.mem_map] at hl
  obtain ⟨x, hx, rfl⟩ := hl
  rw [heta]
  exact hx
 ·intro h
  exact ⟨nm.data.toList, (sortedL_mem _ _).2 (List.mem_map.2 ⟨nm, h, rfl⟩), heta nm⟩
/-- A constant occurs where it stands in a right term. -/
theorem occ_mem (RN : ByteArray → Bool) (t : Tm) (nm : ByteArray) : fstI nm (constsT RN t) < (constsT RN t).length ↔ rightT RN 4 t 1125899906842624 = true ∧ nm ∈ cnS (pre t 0 0) := by
 rw [fstI_mem, constsT]
 by_cases h : rightT RN 4 t 1125899906842624 = true
 ·rw [if_pos h, so_mem]
  exact ⟨fun q => ⟨h, q⟩, fun q => q.2⟩
 ·rw [if_neg h]
  exact ⟨(fun q => by cases q), (fun q => absurd q.1 h)⟩
theorem alR : rightT Nm.rightB 4 (tap tca tcb) 1125899906842624 = true := by decide +kernel
theorem alC : cnS (pre (tap tca tcb) 0 0) = [⟨#[97]⟩, ⟨#[98]⟩] := by rfl
theorem al16 : decide (fstI ⟨#[97]⟩ (constsT Nm.rightB (tap tca tcb)) < (constsT Nm.rightB (tap tca tcb)).length) = true :=
 decide_eq_true ((occ_mem _ _ _).2 ⟨alR, by rw [alC]; simp⟩)
theorem al17 : decide (fstI ⟨#[99]⟩ (constsT Nm.rightB (tap tca tcb)) < (constsT Nm.rightB (tap tca tcb)).length) = false :=
 decide_eq_false fun h => by
  have := ((occ_mem _ _ _).1 h).2
  rw [alC, List.mem_cons, List.mem_singleton] at this
  rcases this with h | h <;> exact absurd (congrArg (fun x : ByteArray => x.data.toList) h) (by decide)
section
variable {P : Program} {md : Region.Mode} {l : List Oper} {Q : Exit → Act → World → Prop} {S : World → Prop}
theorem three_in {i j k : Nat} {o o' o2 : Oper} {rest rest' rest2 : List Oper} {fuel : Nat} {listed : Array Bool} {a : Act} {w : World} (hd : l.drop i = o :: rest) (hd' : l.drop j = o' :: rest') (hd2 : l.drop k = o2 :: rest2)
  (hr : Region.ready md l.toArray listed = [i, j, k])
  (h : ∀ K' : Act → World → Prop, Shut (∀ a w, S w → (S w → wpAnyH P md l.toArray Q S fuel (listed.setIfInBounds i true) a w) → K' a w) → if Region.wanted o (yielded l.toArray a.tmps) = true then Oper.wp P o a w K' Q else K' (a.put o.dst undef) w)
  (h' : ∀ K' : Act → World → Prop, Shut (∀ a w, S w → (S w → wpAnyH P md l.toArray Q S fuel (listed.setIfInBounds j true) a w) → K' a w) → if Region.wanted o' (yielded l.toArray a.tmps) = true then Oper.wp P o' a w K' Q else K' (a.put o'.dst undef) w)
  (h2 : ∀ K' : Act → World → Prop, Shut (∀ a w, S w → (S w → wpAnyH P md l.toArray Q S fuel (listed.setIfInBounds k true) a w) → K' a w) → if Region.wanted o2 (yielded l.toArray a.tmps) = true then Oper.wp P o2 a w K' Q else K' (a.put o2.dst undef) w) :
  wpAnyH P md l.toArray Q S (fuel + 1) listed a w :=
 wpAnyH_ready hr (by simp) (AllReadyH.cons (at_of_drop hd) h (AllReadyH.cons (at_of_drop hd') h' (AllReadyH.cons (at_of_drop hd2) h2 AllReadyH.nil)))
end
set_option maxRecDepth 100000 in
set_option maxHeartbeats 4000000 in
theorem alive6_is (w : World) (CN : NameC w Nm.rightB) : Calls Tryz.prog 9 #[] w (Ret w (.bool true)) := by
 have HCN := Lib.hid CN
 clear CN
 have HI1 : Hid ((rightT Nm.rightB 4 (tap (tvr 1) (tvr 0)) 1125899906842624 && (areB Nm.rightB [tca, tcb] && decide (tnodes (subT (instF [tca, tcb]) (tap (tvr 1) (tvr 0)) 0) ≤ 2000))) = true) := by
  have : (rightT Nm.rightB 4 (tap (tvr 1) (tvr 0)) 1125899906842624 && (areB Nm.rightB [tca, tcb] && decide (tnodes (subT (instF [tca, tcb]) (tap (tvr 1) (tvr 0)) 0) ≤ 2000))) = true := al6
  exact this
 go_enter Tryz.func9, Tryz.ntmps9
 go_wp2_with fail
 refine (h6_constant ⟨#[97]⟩ w).mono ?_
 rintro e v1 ⟨rfl, _, hbq⟩
 have HC := Lib.hid hbq
 clear hbq
 dsimp only [tv, tkOf, tnOf, tmOf]
 have hbq := below_lit v1 (.cells #[.int .i64 3, .int .i64 0, .string ⟨#[97]⟩, .slice none 0 0, .slice none 0 0] 25)
 have hrx := heap_alloc_new v1 (.cells #[.int .i64 3, .int .i64 0, .string ⟨#[97]⟩, .slice none 0 0, .slice none 0 0] 25)
 have hlx : v1.heap.size < (v1.alloc (.cells #[.int .i64 3, .int .i64 0, .string ⟨#[97]⟩, .slice none 0 0, .slice none 0 0] 25)).heap.size := by simp
 go_wp2_with fail
 generalize hgw : v1.alloc (.cells #[.int .i64 3, .int .i64 0, .string ⟨#[97]⟩, .slice none 0 0, .slice none 0 0] 25) = v2 at *
 clear hgw
 replace HC := mvC hbq HC
 have HRa := Lib.hid hrx
 have HLa := Lib.hid hlx
 clear hbq hrx hlx
 generalize hgb : v1.heap.size = Ba at *
 clear hgb
 refine (h6_constant ⟨#[98]⟩ _).mono ?_
 rintro e v3 ⟨rfl, _, hbq⟩
 replace HRa := mvR hbq HLa HRa
 replace HLa := mvL hbq HLa
 replace HC := mvC hbq HC
 clear hbq
 dsimp only [tv, tkOf, tnOf, tmOf]
 have hbq := below_lit v3 (.cells #[.int .i64 3, .int .i64 0, .string ⟨#[98]⟩, .slice none 0 0, .slice none 0 0] 25)
 have hrx := heap_alloc_new v3 (.cells #[.int .i64 3, .int .i64 0, .string ⟨#[98]⟩, .slice none 0 0, .slice none 0 0] 25)
 have hlx : v3.heap.size < (v3.alloc (.cells #[.int .i64 3, .int .i64 0, .string ⟨#[98]⟩, .slice none 0 0, .slice none 0 0] 25)).heap.size := by simp
 go_upto_region 3 with fail
 generalize hgw : v3.alloc (.cells #[.int .i64 3, .int .i64 0, .string ⟨#[98]⟩, .slice none 0 0, .slice none 0 0] 25) = v4 at *
 clear hgw
 replace HRa := mvR hbq HLa HRa
 replace HLa := mvL hbq HLa
 replace HC := mvC hbq HC
 have HRb := Lib.hid hrx
 have HLb := Lib.hid hlx
 clear hbq hrx hlx
 generalize hgb : v3.heap.size = Bb at *
 clear hgb
 have hk : Hid (∀ W', Below v4.heap.size v4 W' → W'.cell? ⟨Ba, 0, none⟩ = some (.int .i64 3) ∧ W'.cell? ⟨Ba, 1, none⟩ = some (.int .i64 0) ∧ W'.cell? ⟨Ba, 2, none⟩ = some (.string ⟨#[97]⟩) ∧ W'.cell? ⟨Ba, 3, none⟩ = some (.slice none 0 0) ∧ W'.cell? ⟨Ba, 4, none⟩ = some (.slice none 0 0) ∧ W'.cell? ⟨Bb, 0, none⟩ = some (.int .i64 3) ∧ W'.cell? ⟨Bb, 1, none⟩ = some (.int .i64 0) ∧ W'.cell? ⟨Bb, 2, none⟩ = some (.string ⟨#[98]⟩) ∧ W'.cell? ⟨Bb, 3, none⟩ = some (.slice none 0 0) ∧ W'.cell? ⟨Bb, 4, none⟩ = some (.slice none 0 0)) := fun W' h => by
  obtain ⟨a0, a1, a2, a3, a4⟩ := five_cells ((h.block Ba HLa.out).trans HRa.out)
  obtain ⟨b0, b1, b2, b3, b4⟩ := five_cells ((h.block Bb HLb.out).trans HRb.out)
  exact ⟨a0, a1, a2, a3, a4, b0, b1, b2, b3, b4⟩
 refine wp_mono (Q := fun e a' W' => e = .normal ∧ ∃ (Bo Bs : Nat) (xa : Option Addr) (xl xc : Nat) (ya : Option Addr) (yl yc : Nat) (qa : Option Addr) (ql qc : Nat) (ra : Option Addr) (rl rc : Nat), (v4.heap.size ≤ Bo ∧ Bo < W'.heap.size ∧ Below v4.heap.size v4 W' ∧ W'.heap[Bo]? = some (.cells #[.int .i64 4, .int .i64 0, .string ⟨#[]⟩, .slice xa xl xc, .slice ya yl yc] 25 (0, 0)) ∧ TmP W' (fun b => b ≠ Bo) (tap tca tcb) (.slice xa xl xc) (.slice ya yl yc)) ∧ a' = { tmps := #[.bool false, .pointer (some ⟨Ba, 0, none⟩), .pointer (some ⟨Bb, 0, none⟩), .pointer (some ⟨Bo, 0, none⟩), .bool true, undef, undef, undef, undef, undef, undef, undef, undef, undef, undef, .agg #[.int .i64 3, .int .i64 0, .string ⟨#[97]⟩, .slice none 0 0, .slice none 0 0], .agg #[.int .i64 3, .int .i64 0, .string ⟨#[98]⟩, .slice none 0 0, .slice none 0 0], .tuple #[.agg #[.int .i64 4, .int .i64 0, .string ⟨#[]⟩, .slice xa xl xc, .slice ya yl yc], .bool true], .agg #[.int .i64 1, .int .i64 1, .string ⟨#[]⟩, .slice none 0 0, .slice none 0 0], .agg #[.int .i64 1, .int .i64 0, .string ⟨#[]⟩, .slice none 0 0, .slice none 0 0], .agg #[.int .i64 4, .int .i64 0, .string ⟨#[]⟩, .slice qa ql qc, .slice ra rl rc], .agg #[.int .i64 3, .int .i64 0, .string ⟨#[97]⟩, .slice none 0 0, .slice none 0 0], .agg #[.int .i64 3, .int .i64 0, .string ⟨#[98]⟩, .slice none 0 0, .slice none 0 0], .slice (some ⟨Bs, 0, none⟩) 2 2, .tuple #[.agg #[.int .i64 4, .int .i64 0, .string ⟨#[]⟩, .slice xa xl xc, .slice ya yl yc], .bool true], .agg #[.int .i64 4, .int .i64 0, .string ⟨#[]⟩, .slice xa xl xc, .slice ya yl yc], .bool true, undef, undef, undef, undef, undef, undef, undef, undef, undef, undef, undef, undef, undef, undef, undef, undef, undef, undef, undef, undef, undef, undef, undef, undef, undef, undef, undef, undef, undef, undef, undef, undef, undef, undef, undef, undef, undef, undef, undef, undef, undef, undef, undef, undef, undef, undef, undef, undef, undef, undef, undef, undef, undef, undef, undef, undef, undef, undef, undef, undef, undef, undef, undef, undef, undef, undef, undef, undef, undef, undef, undef, undef, undef, undef, undef, undef, undef, undef, undef, undef, undef, undef, undef, undef, undef, undef, undef, undef, undef, undef, undef, undef, undef, undef, undef, undef, undef, undef, undef, undef, undef, undef, undef, undef, undef], defers := [] }) ?region ?rest
 case region =>
  refine wp_region_held_drew (S := fun W' => W'.cell? ⟨Ba, 0, none⟩ = some (.int .i64 3) ∧ W'.cell? ⟨Ba, 1, none⟩ = some (.int .i64 0) ∧ W'.cell? ⟨Ba, 2, none⟩ = some (.string ⟨#[97]⟩) ∧ W'.cell? ⟨Ba, 3, none⟩ = some (.slice none 0 0) ∧ W'.cell? ⟨Ba, 4, none⟩ = some (.slice none 0 0) ∧ W'.cell? ⟨Bb, 0, none⟩ = some (.int .i64 3) ∧ W'.cell? ⟨Bb, 1, none⟩ = some (.int .i64 0) ∧ W'.cell? ⟨Bb, 2, none⟩ = some (.string ⟨#[98]⟩) ∧ W'.cell? ⟨Bb, 3, none⟩ = some (.slice none 0 0) ∧ W'.cell? ⟨Bb, 4, none⟩ = some (.slice none 0 0)) (by kernel_rfl) (hk.out _ ((Below.refl _ _).drew)) (fun hHeld => ?_)
  have HV := Lib.hid ((Below.refl v4.heap.size v4).drew)
  have hbq := HV.out
  replace HRa := Lib.hid ((hbq.block _ HLa.out).trans HRa.out)
  replace HLa := Lib.hid (Nat.lt_of_lt_of_le HLa.out hbq.size)
  replace HRb := Lib.hid ((hbq.block _ HLb.out).trans HRb.out)
  replace HLb := Lib.hid (Nat.lt_of_lt_of_le HLb.out hbq.size)
  replace HC := Lib.hid (HC.out.trans (hbq.mono HC.out.size))
  clear hbq
  generalize v4.drew = v0 at *
  refine take_in (i := 3) (v := ?_) rfl (by kernel_rfl) (by kernel_rfl) (by kernel_rfl) (fun _ _ _ h => by cases h.1) (by rfl) ?_ hHeld ?_
  rotate_left
  ·intro w hSw
   (try dsimp only at hSw)
   go_simp
   try with_reducible rfl
  try simp only [Act.put, s1q, s2q, s3q]
  refine take_in (i := 4) (v := ?_) rfl (by kernel_rfl) (by kernel_rfl) (by kernel_rfl) (fun _ _ _ h => by cases h.1) (by rfl) ?_ hHeld ?_
  rotate_left
  ·intro w hSw
   (try dsimp only at hSw)
   go_simp
   try with_reducible rfl
  try simp only [Act.put, s1q, s2q, s3q]
  refine three_in (i := 0) (j := 5) (k := 10) rfl rfl rfl (by kernel_rfl) (fun K hK => ?_) (fun K hK => ?_) (fun K hK => ?_)
  ·clear hHeld
   go_simp
   refine (h6_variable 1 _).mono ?_
   rintro e v5 ⟨rfl, _, hbq⟩
   replace HRa := mvR hbq HLa HRa
   replace HLa := mvL hbq HLa
   replace HRb := mvR hbq HLb HRb
   replace HLb := mvL hbq HLb
   replace HC := mvC hbq HC
   replace HV := mvC hbq HV
   clear hbq
   try (go_wp2_with fail)
   refine hK.out _ _ (hk.out _ HV.out) (fun hHeld => ?_)
   clear hK K
   try simp only [Act.put, s1q, s2q, s3q]
   refine three_in (i := 1) (j := 5) (k := 10) rfl rfl rfl (by kernel_rfl) (fun K hK => ?_) (fun K hK => ?_) (fun K hK => ?_)
   ·clear hHeld
    go_simp
    refine (h6_variable 0 _).mono ?_
    rintro e v6 ⟨rfl, _, hbq⟩
    replace HRa := mvR hbq HLa HRa
    replace HLa := mvL hbq HLa
    replace HRb := mvR hbq HLb HRb
    replace HLb := mvL hbq HLb
    replace HC := mvC hbq HC
    replace HV := mvC hbq HV
    clear hbq
    try (go_wp2_with fail)
    refine hK.out _ _ (hk.out _ HV.out) (fun hHeld => ?_)
    clear hK K
    try simp only [Act.put, s1q, s2q, s3q]
    refine three_in (i := 2) (j := 5) (k := 10) rfl rfl rfl (by kernel_rfl) (fun K hK => ?_) (fun K hK => ?_) (fun K hK => ?_)
    ·clear hHeld
     go_simp
     refine (h6_app (tvr 1) (tvr 0) _ _ _ _ _ (leaf_in 1 1 ⟨#[]⟩ _) (leaf_in 1 0 ⟨#[]⟩ _)).mono ?_
     rintro e v7 ⟨l9, s9, rfl, ht9, hbq⟩
     obtain ⟨⟨qa, ql, qc, rfl⟩, ra, rl, rc, rfl⟩ := tmP_slices ht9
     replace HRa := mvR hbq HLa HRa
     replace HLa := mvL hbq HLa
     replace HRb := mvR hbq HLb HRb
     replace HLb := mvL hbq HLb
     replace HC := mvC hbq HC
     replace HV := mvC hbq HV
     have HTq := Lib.hid ht9
     clear hbq ht9
     dsimp only [tv, tkOf, tnOf, tmOf]
     try (go_wp2_with fail)
     refine hK.out _ _ (hk.out _ HV.out) (fun hHeld => ?_)
     clear hK K
     try simp only [Act.put, s1q, s2q, s3q]
     refine two_in (i := 5) (j := 10) rfl rfl (by kernel_rfl) (fun K hK => ?_) (fun K hK => ?_)
     ·clear hHeld
      go_simp
      have hbq := below_lit v7 (.cells #[.int .i64 3, .int .i64 0, .string ⟨#[97]⟩, .slice none 0 0, .slice none 0 0, .int .i64 3, .int .i64 0, .string ⟨#[98]⟩, .slice none 0 0, .slice none 0 0] 25)
      have hrx := heap_alloc_new v7 (.cells #[.int .i64 3, .int .i64 0, .string ⟨#[97]⟩, .slice none 0 0, .slice none 0 0, .int .i64 3, .int .i64 0, .string ⟨#[98]⟩, .slice none 0 0, .slice none 0 0] 25)
      have hlx : v7.heap.size < (v7.alloc (.cells #[.int .i64 3, .int .i64 0, .string ⟨#[97]⟩, .slice none 0 0, .slice none 0 0, .int .i64 3, .int .i64 0, .string ⟨#[98]⟩, .slice none 0 0, .slice none 0 0] 25)).heap.size := by simp
      try (go_wp2_with fail)
      generalize hgw : v7.alloc (.cells #[.int .i64 3, .int .i64 0, .string ⟨#[97]⟩, .slice none 0 0, .slice none 0 0, .int .i64 3, .int .i64 0, .string ⟨#[98]⟩, .slice none 0 0, .slice none 0 0] 25) = v8 at *
      clear hgw
      replace HRa := mvR hbq HLa HRa
      replace HLa := mvL hbq HLa
      replace HRb := mvR hbq HLb HRb
      replace HLb := mvL hbq HLb
      replace HTq := Lib.hid (tmP_below hbq HTq.out)
      replace HC := mvC hbq HC
      replace HV := mvC hbq HV
      have HRs := Lib.hid hrx
      have HLs := Lib.hid hlx
      clear hbq hrx hlx
      generalize hgb : v7.heap.size = Bs at *
      clear hgb
      refine hK.out _ _ (hk.out _ HV.out) (fun hHeld => ?_)
      clear hK K
      try simp only [Act.put, s1q, s2q, s3q]
      refine two_in (i := 6) (j := 10) rfl rfl (by kernel_rfl) (fun K hK => ?_) (fun K hK => ?_)
      ·clear hHeld
       go_simp
       have hts : TsP v8 (fun _ => True) (some ⟨Bs, 0, none⟩) 0 [tca, tcb] := tsP_row (ts := [tca, tcb]) (ss := [(.slice none 0 0, .slice none 0 0), (.slice none 0 0, .slice none 0 0)]) rfl HRs.out trivial (fun i h1 h2 => by
        have : i = 0 ∨ i = 1 := by simp at h1; omega
        rcases this with rfl | rfl
        ·exact leaf_in 3 0 ⟨#[97]⟩ _
        ·exact leaf_in 3 0 ⟨#[98]⟩ _)
       refine (inst_is Nm.rightB (tap (tvr 1) (tvr 0)) _ _ _ 2 2 [tca, tcb] v8 HTq.out (nm_two 4 (nm_leaf 1 1 ⟨#[]⟩ (by decide)) (nm_leaf 1 0 ⟨#[]⟩ (by decide))) hts rfl (by decide) (by rw [nmOkL, nmOkL, nmOkL]; exact ⟨nm_leaf 3 0 ⟨#[97]⟩ (by decide), nm_leaf 3 0 ⟨#[98]⟩ (by decide), trivial⟩) (HCN.out.below HC.out) true HI1.out).mono ?_
       clear hts
       rintro e v9 ⟨hbq, hres⟩
       rw [if_pos rfl, al1] at hres
       obtain ⟨l8, s8, rfl, ht8⟩ := hres
       obtain ⟨⟨xa, xl, xc, rfl⟩, ya, yl, yc, rfl⟩ := tmP_slices ht8
       dsimp only [tv, tkOf, tnOf, tmOf]
       have HTx := Lib.hid (tmP_move (w := v9) (Q := fun b => b < v9.heap.size) (fun b hlt _ => ⟨hlt, rfl⟩) (Nat.le_refl _) _ _ _ ht8)
       replace HRa := mvR hbq HLa HRa
       replace HLa := mvL hbq HLa
       replace HRb := mvR hbq HLb HRb
       replace HLb := mvL hbq HLb
       replace HRs := mvR hbq HLs HRs
       replace HLs := mvL hbq HLs
       replace HTq := Lib.hid (tmP_below hbq HTq.out)
       replace HC := mvC hbq HC
       replace HV := mvC hbq HV
       clear hbq ht8
       try (go_wp2_with fail)
       refine hK.out _ _ (hk.out _ HV.out) (fun hHeld => ?_)
       clear hK K
       try simp only [Act.put, s1q, s2q, s3q]
       refine take_in (i := 7) (v := ?_) rfl (by kernel_rfl) (by kernel_rfl) (by kernel_rfl) (fun _ _ _ h => by cases h.1) (by rfl) ?_ hHeld ?_
       rotate_left
       ·intro w hSw
        (try dsimp only at hSw)
        go_simp
        try with_reducible rfl
       try simp only [Act.put, s1q, s2q, s3q]
       refine take_in (i := 8) (v := ?_) rfl (by kernel_rfl) (by kernel_rfl) (by kernel_rfl) (fun _ _ _ h => by cases h.1) (by rfl) ?_ hHeld ?_
       rotate_left
       ·intro w hSw
        (try dsimp only at hSw)
        go_simp
        try with_reducible rfl
       try simp only [Act.put, s1q, s2q, s3q]
       refine take_in (i := 9) (v := ?_) rfl (by kernel_rfl) (by kernel_rfl) (by kernel_rfl) (fun _ _ _ h => by cases h.1) (by rfl) ?_ hHeld ?_
       rotate_left
       ·intro w hSw
        (try dsimp only at hSw)
        go_simp
        try with_reducible rfl
       try simp only [Act.put, s1q, s2q, s3q]
       refine call_in (i := 10) rfl (by kernel_rfl) (fun K hK => ?_)
       clear hHeld
       go_simp
       have hb7 := below_lit v9 (.cells #[.int .i64 0, .int .i64 0, .string ⟨#[]⟩, .slice none 0 0, .slice none 0 0] 25)
       have n0 := heap_alloc_new v9 (.cells #[.int .i64 0, .int .i64 0, .string ⟨#[]⟩, .slice none 0 0, .slice none 0 0] 25)
       try (go_wp2_with fail)
       refine hK.out _ _ (hk.out _ (HV.out.trans (hb7.mono HV.out.size))) (fun hHeld => ?_)
       clear hK K
       try simp only [Act.put, s1q, s2q, s3q]
       refine call_in (i := 11) rfl (by kernel_rfl) (fun K hK => ?_)
       clear hHeld
       go_simp
       have hb8 := below_lit v9 (.cells #[.int .i64 4, .int .i64 0, .string ⟨#[]⟩, .slice xa xl xc, .slice ya yl yc] 25)
       refine hK.out _ _ (hk.out _ (HV.out.trans (hb8.mono HV.out.size))) (fun hHeld => ?_)
       clear hK K
       try simp only [Act.put, s1q, s2q, s3q]
       refine take_in (i := 12) (v := ?_) rfl (by kernel_rfl) (by kernel_rfl) (by kernel_rfl) (fun _ _ _ h => by cases h.1) (by rfl) ?_ hHeld ?_
       rotate_left
       ·intro w hSw
        (try dsimp only at hSw)
        go_simp
        try with_reducible rfl
       try simp only [Act.put, s1q, s2q, s3q]
       refine wpAnyH_done (by kernel_rfl) ?_ _
       refine ⟨rfl, v9.heap.size, Bs, xa, xl, xc, ya, yl, yc, qa, ql, qc, ra, rl, rc, ⟨HV.out.size, by simp, HV.out.trans (hb8.mono HV.out.size), heap_alloc_new v9 _, ?_⟩, rfl⟩
       exact tmP_move (w := v9) (fun b hlt _ => ⟨by omega, hb8.block b hlt⟩) hb8.size _ _ _ HTx.out
      ·clear hHeld
       go_simp
       have hbq := below_lit v8 (.cells #[.int .i64 0, .int .i64 0, .string ⟨#[]⟩, .slice none 0 0, .slice none 0 0] 25)
       have hrx := heap_alloc_new v8 (.cells #[.int .i64 0, .int .i64 0, .string ⟨#[]⟩, .slice none 0 0, .slice none 0 0] 25)
       have hlx : v8.heap.size < (v8.alloc (.cells #[.int .i64 0, .int .i64 0, .string ⟨#[]⟩, .slice none 0 0, .slice none 0 0] 25)).heap.size := by simp
       have hsx : v4.heap.size ≤ v8.heap.size := HV.out.size
       try (go_wp2_with fail)
       generalize hgw : v8.alloc (.cells #[.int .i64 0, .int .i64 0, .string ⟨#[]⟩, .slice none 0 0, .slice none 0 0] 25) = v10 at *
       clear hgw
       replace HRa := mvR hbq HLa HRa
       replace HLa := mvL hbq HLa
       replace HRb := mvR hbq HLb HRb
       replace HLb := mvL hbq HLb
       replace HRs := mvR hbq HLs HRs
       replace HLs := mvL hbq HLs
       replace HTq := Lib.hid (tmP_below hbq HTq.out)
       replace HC := mvC hbq HC
       replace HV := mvC hbq HV
       have HRz := Lib.hid hrx
       have HLz := Lib.hid hlx
       clear hbq hrx hlx
       generalize hgb : v8.heap.size = Bo at *
       clear hgb
       have HSz := Lib.hid hsx
       clear hsx
       refine hK.out _ _ (hk.out _ HV.out) (fun hHeld => ?_)
       clear hK K
       try simp only [Act.put, s1q, s2q, s3q]
       refine call_in (i := 6) rfl (by kernel_rfl) (fun K hK => ?_)
       clear hHeld
       go_simp
       have hts : TsP v10 (fun _ => True) (some ⟨Bs, 0, none⟩) 0 [tca, tcb] := tsP_row (ts := [tca, tcb]) (ss := [(.slice none 0 0, .slice none 0 0), (.slice none 0 0, .slice none 0 0)]) rfl HRs.out trivial (fun i h1 h2 => by
        have : i = 0 ∨ i = 1 := by simp at h1; omega
        rcases this with rfl | rfl
        ·exact leaf_in 3 0 ⟨#[97]⟩ _
        ·exact leaf_in 3 0 ⟨#[98]⟩ _)
       refine (inst_is Nm.rightB (tap (tvr 1) (tvr 0)) _ _ _ 2 2 [tca, tcb] v10 HTq.out (nm_two 4 (nm_leaf 1 1 ⟨#[]⟩ (by decide)) (nm_leaf 1 0 ⟨#[]⟩ (by decide))) hts rfl (by decide) (by rw [nmOkL, nmOkL, nmOkL]; exact ⟨nm_leaf 3 0 ⟨#[97]⟩ (by decide), nm_leaf 3 0 ⟨#[98]⟩ (by decide), trivial⟩) (HCN.out.below HC.out) true HI1.out).mono ?_
       clear hts
       rintro e v11 ⟨hbq, hres⟩
       rw [if_pos rfl, al1] at hres
       obtain ⟨l8, s8, rfl, ht8⟩ := hres
       obtain ⟨⟨xa, xl, xc, rfl⟩, ya, yl, yc, rfl⟩ := tmP_slices ht8
       dsimp only [tv, tkOf, tnOf, tmOf]
       have HTx := Lib.hid (tmP_move (w := v11) (Q := fun b => b ≠ Bo) (fun b _ (hb : v10.heap.size ≤ b) => ⟨by have := HLz.out; omega, rfl⟩) (Nat.le_refl _) _ _ _ ht8)
       replace HRa := mvR hbq HLa HRa
       replace HLa := mvL hbq HLa
       replace HRb := mvR hbq HLb HRb
       replace HLb := mvL hbq HLb
       replace HRs := mvR hbq HLs HRs
       replace HLs := mvL hbq HLs
       replace HRz := mvR hbq HLz HRz
       replace HLz := mvL hbq HLz
       replace HTq := Lib.hid (tmP_below hbq HTq.out)
       replace HC := mvC hbq HC
       replace HV := mvC hbq HV
       clear hbq ht8
       try (go_wp2_with fail)
       refine hK.out _ _ (hk.out _ HV.out) (fun hHeld => ?_)
       clear hK K
       try simp only [Act.put, s1q, s2q, s3q]
       refine take_in (i := 7) (v := ?_) rfl (by kernel_rfl) (by kernel_rfl) (by kernel_rfl) (fun _ _ _ h => by cases h.1) (by rfl) ?_ hHeld ?_
       rotate_left
       ·intro w hSw
        (try dsimp only at hSw)
        go_simp
        try with_reducible rfl
       try simp only [Act.put, s1q, s2q, s3q]
       refine take_in (i := 8) (v := ?_) rfl (by kernel_rfl) (by kernel_rfl) (by kernel_rfl) (fun _ _ _ h => by cases h.1) (by rfl) ?_ hHeld ?_
       rotate_left
       ·intro w hSw
        (try dsimp only at hSw)
        go_simp
        try with_reducible rfl
       try simp only [Act.put, s1q, s2q, s3q]
       refine take_in (i := 9) (v := ?_) rfl (by kernel_rfl) (by kernel_rfl) (by kernel_rfl) (fun _ _ _ h => by cases h.1) (by rfl) ?_ hHeld ?_
       rotate_left
       ·intro w hSw
        (try dsimp only at hSw)
        go_simp
        try with_reducible rfl
       try simp only [Act.put, s1q, s2q, s3q]
       refine call_in (i := 11) rfl (by kernel_rfl) (fun K hK => ?_)
       clear hHeld
       obtain ⟨n0, n1, n2, n3, n4⟩ := five_cells HRz.out
       have m0 := frozen0 (p := 0) HRz.out
       have m1 := frozen0 (p := 1) HRz.out
       have m2 := frozen0 (p := 2) HRz.out
       have m3 := frozen0 (p := 3) HRz.out
       have m4 := frozen0 (p := 4) HRz.out
       go_simp
       have hb8 := set5_below (n₀ := v4.heap.size) HV.out Bo 0 (.int .i64 4) (.int .i64 0) (.string ⟨#[]⟩) (.slice xa xl xc) (.slice ya yl yc) HSz.out
       refine hK.out _ _ (hk.out _ hb8) (fun hHeld => ?_)
       clear hK K
       try simp only [Act.put, s1q, s2q, s3q]
       refine take_in (i := 12) (v := ?_) rfl (by kernel_rfl) (by kernel_rfl) (by kernel_rfl) (fun _ _ _ h => by cases h.1) (by rfl) ?_ hHeld ?_
       rotate_left
       ·intro w hSw
        (try dsimp only at hSw)
        go_simp
        try with_reducible rfl
       try simp only [Act.put, s1q, s2q, s3q]
       refine wpAnyH_done (by kernel_rfl) ?_ _
       refine ⟨rfl, Bo, Bs, xa, xl, xc, ya, yl, yc, qa, ql, qc, ra, rl, rc, ⟨HSz.out, by rw [set5_sz]; exact HLz.out, hb8, set5_row HRz.out, ?_⟩, rfl⟩
       exact tmP_move (w := v11) (fun b _ (hp : b ≠ Bo) => ⟨hp, set5_far' v11 Bo 0 b _ _ _ _ _ hp⟩) (by rw [set5_sz]; exact Nat.le_refl _) _ _ _ HTx.out
     ·clear hHeld
      go_simp
      have hbq := below_lit v7 (.cells #[.int .i64 0, .int .i64 0, .string ⟨#[]⟩, .slice none 0 0, .slice none 0 0] 25)
      have hrx := heap_alloc_new v7 (.cells #[.int .i64 0, .int .i64 0, .string ⟨#[]⟩, .slice none 0 0, .slice none 0 0] 25)
      have hlx : v7.heap.size < (v7.alloc (.cells #[.int .i64 0, .int .i64 0, .string ⟨#[]⟩, .slice none 0 0, .slice none 0 0] 25)).heap.size := by simp
      have hsx : v4.heap.size ≤ v7.heap.size := HV.out.size
      try (go_wp2_with fail)
      generalize hgw : v7.alloc (.cells #[.int .i64 0, .int .i64 0, .string ⟨#[]⟩, .slice none 0 0, .slice none 0 0] 25) = v12 at *
      clear hgw
      replace HRa := mvR hbq HLa HRa
      replace HLa := mvL hbq HLa
      replace HRb := mvR hbq HLb HRb
      replace HLb := mvL hbq HLb
      replace HTq := Lib.hid (tmP_below hbq HTq.out)
      replace HC := mvC hbq HC
      replace HV := mvC hbq HV
      have HRz := Lib.hid hrx
      have HLz := Lib.hid hlx
      clear hbq hrx hlx
      generalize hgb : v7.heap.size = Bo at *
      clear hgb
      have HSz := Lib.hid hsx
      clear hsx
      refine hK.out _ _ (hk.out _ HV.out) (fun hHeld => ?_)
      clear hK K
      try simp only [Act.put, s1q, s2q, s3q]
      refine call_in (i := 5) rfl (by kernel_rfl) (fun K hK => ?_)
      clear hHeld
      go_simp
      have hbq := below_lit v12 (.cells #[.int .i64 3, .int .i64 0, .string ⟨#[97]⟩, .slice none 0 0, .slice none 0 0, .int .i64 3, .int .i64 0, .string ⟨#[98]⟩, .slice none 0 0, .slice none 0 0] 25)
      have hrx := heap_alloc_new v12 (.cells #[.int .i64 3, .int .i64 0, .string ⟨#[97]⟩, .slice none 0 0, .slice none 0 0, .int .i64 3, .int .i64 0, .string ⟨#[98]⟩, .slice none 0 0, .slice none 0 0] 25)
      have hlx : v12.heap.size < (v12.alloc (.cells #[.int .i64 3, .int .i64 0, .string ⟨#[97]⟩, .slice none 0 0, .slice none 0 0, .int .i64 3, .int .i64 0, .string ⟨#[98]⟩, .slice none 0 0, .slice none 0 0] 25)).heap.size := by simp
      try (go_wp2_with fail)
      generalize hgw : v12.alloc (.cells #[.int .i64 3, .int .i64 0, .string ⟨#[97]⟩, .slice none 0 0, .slice none 0 0, .int .i64 3, .int .i64 0, .string ⟨#[98]⟩, .slice none 0 0, .slice none 0 0] 25) = v13 at *
      clear hgw
      replace HRa := mvR hbq HLa HRa
      replace HLa := mvL hbq HLa
      replace HRb := mvR hbq HLb HRb
      replace HLb := mvL hbq HLb
      replace HRz := mvR hbq HLz HRz
      replace HLz := mvL hbq HLz
      replace HTq := Lib.hid (tmP_below hbq HTq.out)
      replace HC := mvC hbq HC
      replace HV := mvC hbq HV
      have HRs := Lib.hid hrx
      have HLs := Lib.hid hlx
      clear hbq hrx hlx
      generalize hgb : v12.heap.size = Bs at *
      clear hgb
      refine hK.out _ _ (hk.out _ HV.out) (fun hHeld => ?_)
      clear hK K
      try simp only [Act.put, s1q, s2q, s3q]
      refine call_in (i := 6) rfl (by kernel_rfl) (fun K hK => ?_)
      clear hHeld
      go_simp
      have hts : TsP v13 (fun _ => True) (some ⟨Bs, 0, none⟩) 0 [tca, tcb] := tsP_row (ts := [tca, tcb]) (ss := [(.slice none 0 0, .slice none 0 0), (.slice none 0 0, .slice none 0 0)]) rfl HRs.out trivial (fun i h1 h2 => by
       have : i = 0 ∨ i = 1 := by simp at h1; omega
       rcases this with rfl | rfl
       ·exact leaf_in 3 0 ⟨#[97]⟩ _
       ·exact leaf_in 3 0 ⟨#[98]⟩ _)
      refine (inst_is Nm.rightB (tap (tvr 1) (tvr 0)) _ _ _ 2 2 [tca, tcb] v13 HTq.out (nm_two 4 (nm_leaf 1 1 ⟨#[]⟩ (by decide)) (nm_leaf 1 0 ⟨#[]⟩ (by decide))) hts rfl (by decide) (by rw [nmOkL, nmOkL, nmOkL]; exact ⟨nm_leaf 3 0 ⟨#[97]⟩ (by decide), nm_leaf 3 0 ⟨#[98]⟩ (by decide), trivial⟩) (HCN.out.below HC.out) true HI1.out).mono ?_
      clear hts
      rintro e v14 ⟨hbq, hres⟩
      rw [if_pos rfl, al1] at hres
      obtain ⟨l8, s8, rfl, ht8⟩ := hres
      obtain ⟨⟨xa, xl, xc, rfl⟩, ya, yl, yc, rfl⟩ := tmP_slices ht8
      dsimp only [tv, tkOf, tnOf, tmOf]
      have HTx := Lib.hid (tmP_move (w := v14) (Q := fun b => b ≠ Bo) (fun b _ (hb : v13.heap.size ≤ b) => ⟨by have := HLz.out; omega, rfl⟩) (Nat.le_refl _) _ _ _ ht8)
      replace HRa := mvR hbq HLa HRa
      replace HLa := mvL hbq HLa
      replace HRb := mvR hbq HLb HRb
      replace HLb := mvL hbq HLb
      replace HRz := mvR hbq HLz HRz
      replace HLz := mvL hbq HLz
      replace HRs := mvR hbq HLs HRs
      replace HLs := mvL hbq HLs
      replace HTq := Lib.hid (tmP_below hbq HTq.out)
      replace HC := mvC hbq HC
      replace HV := mvC hbq HV
      clear hbq ht8
      try (go_wp2_with fail)
      refine hK.out _ _ (hk.out _ HV.out) (fun hHeld => ?_)
      clear hK K
      try simp only [Act.put, s1q, s2q, s3q]
      refine take_in (i := 7) (v := ?_) rfl (by kernel_rfl) (by kernel_rfl) (by kernel_rfl) (fun _ _ _ h => by cases h.1) (by rfl) ?_ hHeld ?_
      rotate_left
      ·intro w hSw
       (try dsimp only at hSw)
       go_simp
       try with_reducible rfl
      try simp only [Act.put, s1q, s2q, s3q]
      refine take_in (i := 8) (v := ?_) rfl (by kernel_rfl) (by kernel_rfl) (by kernel_rfl) (fun _ _ _ h => by cases h.1) (by rfl) ?_ hHeld ?_
      rotate_left
      ·intro w hSw
       (try dsimp only at hSw)
       go_simp
       try with_reducible rfl
      try simp only [Act.put, s1q, s2q, s3q]
      refine take_in (i := 9) (v := ?_) rfl (by kernel_rfl) (by kernel_rfl) (by kernel_rfl) (fun _ _ _ h => by cases h.1) (by rfl) ?_ hHeld ?_
      rotate_left
      ·intro w hSw
       (try dsimp only at hSw)
       go_simp
       try with_reducible rfl
      try simp only [Act.put, s1q, s2q, s3q]
      refine call_in (i := 11) rfl (by kernel_rfl) (fun K hK => ?_)
      clear hHeld
      obtain ⟨n0, n1, n2, n3, n4⟩ := five_cells HRz.out
      have m0 := frozen0 (p := 0) HRz.out
      have m1 := frozen0 (p := 1) HRz.out
      have m2 := frozen0 (p := 2) HRz.out
      have m3 := frozen0 (p := 3) HRz.out
      have m4 := frozen0 (p := 4) HRz.out
      go_simp
      have hb8 := set5_below (n₀ := v4.heap.size) HV.out Bo 0 (.int .i64 4) (.int .i64 0) (.string ⟨#[]⟩) (.slice xa xl xc) (.slice ya yl yc) HSz.out
      refine hK.out _ _ (hk.out _ hb8) (fun hHeld => ?_)
      clear hK K
      try simp only [Act.put, s1q, s2q, s3q]
      refine take_in (i := 12) (v := ?_) rfl (by kernel_rfl) (by kernel_rfl) (by kernel_rfl) (fun _ _ _ h => by cases h.1) (by rfl) ?_ hHeld ?_
      rotate_left
      ·intro w hSw
       (try dsimp only at hSw)
       go_simp
       try with_reducible rfl
      try simp only [Act.put, s1q, s2q, s3q]
      refine wpAnyH_done (by kernel_rfl) ?_ _
      refine ⟨rfl, Bo, Bs, xa, xl, xc, ya, yl, yc, qa, ql, qc, ra, rl, rc, ⟨HSz.out, by rw [set5_sz]; exact HLz.out, hb8, set5_row HRz.out, ?_⟩, rfl⟩
      exact tmP_move (w := v14) (fun b _ (hp : b ≠ Bo) => ⟨hp, set5_far' v14 Bo 0 b _ _ _ _ _ hp⟩) (by rw [set5_sz]; exact Nat.le_refl _) _ _ _ HTx.out
    ·clear hHeld
     go_simp
     have hbq := below_lit v6 (.cells #[.int .i64 3, .int .i64 0, .string ⟨#[97]⟩, .slice none 0 0, .slice none 0 0, .int .i64 3, .int .i64 0, .string ⟨#[98]⟩, .slice none 0 0, .slice none 0 0] 25)
     have hrx := heap_alloc_new v6 (.cells #[.int .i64 3, .int .i64 0, .string ⟨#[97]⟩, .slice none 0 0, .slice none 0 0, .int .i64 3, .int .i64 0, .string ⟨#[98]⟩, .slice none 0 0, .slice none 0 0] 25)
     have hlx : v6.heap.size < (v6.alloc (.cells #[.int .i64 3, .int .i64 0, .string ⟨#[97]⟩, .slice none 0 0, .slice none 0 0, .int .i64 3, .int .i64 0, .string ⟨#[98]⟩, .slice none 0 0, .slice none 0 0] 25)).heap.size := by simp
     try (go_wp2_with fail)
     generalize hgw : v6.alloc (.cells #[.int .i64 3, .int .i64 0, .string ⟨#[97]⟩, .slice none 0 0, .slice none 0 0, .int .i64 3, .int .i64 0, .string ⟨#[98]⟩, .slice none 0 0, .slice none 0 0] 25) = v15 at *
     clear hgw
     replace HRa := mvR hbq HLa HRa
     replace HLa := mvL hbq HLa
     replace HRb := mvR hbq HLb HRb
     replace HLb := mvL hbq HLb
     replace HC := mvC hbq HC
     replace HV := mvC hbq HV
     have HRs := Lib.hid hrx
     have HLs := Lib.hid hlx
     clear hbq hrx hlx
     generalize hgb : v6.heap.size = Bs at *
     clear hgb
     refine hK.out _ _ (hk.out _ HV.out) (fun hHeld => ?_)
     clear hK K
     try simp only [Act.put, s1q, s2q, s3q]
     refine two_in (i := 2) (j := 10) rfl rfl (by kernel_rfl) (fun K hK => ?_) (fun K hK => ?_)
     ·clear hHeld
      go_simp
      refine (h6_app (tvr 1) (tvr 0) _ _ _ _ _ (leaf_in 1 1 ⟨#[]⟩ _) (leaf_in 1 0 ⟨#[]⟩ _)).mono ?_
      rintro e v16 ⟨l9, s9, rfl, ht9, hbq⟩
      obtain ⟨⟨qa, ql, qc, rfl⟩, ra, rl, rc, rfl⟩ := tmP_slices ht9
      replace HRa := mvR hbq HLa HRa
      replace HLa := mvL hbq HLa
      replace HRb := mvR hbq HLb HRb
      replace HLb := mvL hbq HLb
      replace HRs := mvR hbq HLs HRs
      replace HLs := mvL hbq HLs
      replace HC := mvC hbq HC
      replace HV := mvC hbq HV
      have HTq := Lib.hid ht9
      clear hbq ht9
      dsimp only [tv, tkOf, tnOf, tmOf]
      try (go_wp2_with fail)
      refine hK.out _ _ (hk.out _ HV.out) (fun hHeld => ?_)
      clear hK K
      try simp only [Act.put, s1q, s2q, s3q]
      refine two_in (i := 6) (j := 10) rfl rfl (by kernel_rfl) (fun K hK => ?_) (fun K hK => ?_)
      ·clear hHeld
       go_simp
       have hts : TsP v16 (fun _ => True) (some ⟨Bs, 0, none⟩) 0 [tca, tcb] := tsP_row (ts := [tca, tcb]) (ss := [(.slice none 0 0, .slice none 0 0), (.slice none 0 0, .slice none 0 0)]) rfl HRs.out trivial (fun i h1 h2 => by
        have : i = 0 ∨ i = 1 := by simp at h1; omega
        rcases this with rfl | rfl
        ·exact leaf_in 3 0 ⟨#[97]⟩ _
        ·exact leaf_in 3 0 ⟨#[98]⟩ _)
       refine (inst_is Nm.rightB (tap (tvr 1) (tvr 0)) _ _ _ 2 2 [tca, tcb] v16 HTq.out (nm_two 4 (nm_leaf 1 1 ⟨#[]⟩ (by decide)) (nm_leaf 1 0 ⟨#[]⟩ (by decide))) hts rfl (by decide) (by rw [nmOkL, nmOkL, nmOkL]; exact ⟨nm_leaf 3 0 ⟨#[97]⟩ (by decide), nm_leaf 3 0 ⟨#[98]⟩ (by decide), trivial⟩) (HCN.out.below HC.out) true HI1.out).mono ?_
       clear hts
       rintro e v17 ⟨hbq, hres⟩
       rw [if_pos rfl, al1] at hres
       obtain ⟨l8, s8, rfl, ht8⟩ := hres
       obtain ⟨⟨xa, xl, xc, rfl⟩, ya, yl, yc, rfl⟩ := tmP_slices ht8
       dsimp only [tv, tkOf, tnOf, tmOf]
       have HTx := Lib.hid (tmP_move (w := v17) (Q := fun b => b < v17.heap.size) (fun b hlt _ => ⟨hlt, rfl⟩) (Nat.le_refl _) _ _ _ ht8)
       replace HRa := mvR hbq HLa HRa
       replace HLa := mvL hbq HLa
       replace HRb := mvR hbq HLb HRb
       replace HLb := mvL hbq HLb
       replace HRs := mvR hbq HLs HRs
       replace HLs := mvL hbq HLs
       replace HTq := Lib.hid (tmP_below hbq HTq.out)
       replace HC := mvC hbq HC
       replace HV := mvC hbq HV
       clear hbq ht8
       try (go_wp2_with fail)
       refine hK.out _ _ (hk.out _ HV.out) (fun hHeld => ?_)
       clear hK K
       try simp only [Act.put, s1q, s2q, s3q]
       refine take_in (i := 7) (v := ?_) rfl (by kernel_rfl) (by kernel_rfl) (by kernel_rfl) (fun _ _ _ h => by cases h.1) (by rfl) ?_ hHeld ?_
       rotate_left
       ·intro w hSw
        (try dsimp only at hSw)
        go_simp
        try with_reducible rfl
       try simp only [Act.put, s1q, s2q, s3q]
       refine take_in (i := 8) (v := ?_) rfl (by kernel_rfl) (by kernel_rfl) (by kernel_rfl) (fun _ _ _ h => by cases h.1) (by rfl) ?_ hHeld ?_
       rotate_left
       ·intro w hSw
        (try dsimp only at hSw)
        go_simp
        try with_reducible rfl
       try simp only [Act.put, s1q, s2q, s3q]
       refine take_in (i := 9) (v := ?_) rfl (by kernel_rfl) (by kernel_rfl) (by kernel_rfl) (fun _ _ _ h => by cases h.1) (by rfl) ?_ hHeld ?_
       rotate_left
       ·intro w hSw
        (try dsimp only at hSw)
        go_simp
        try with_reducible rfl
       try simp only [Act.put, s1q, s2q, s3q]
       refine call_in (i := 10) rfl (by kernel_rfl) (fun K hK => ?_)
       clear hHeld
       go_simp
       have hb7 := below_lit v17 (.cells #[.int .i64 0, .int .i64 0, .string ⟨#[]⟩, .slice none 0 0, .slice none 0 0] 25)
       have n0 := heap_alloc_new v17 (.cells #[.int .i64 0, .int .i64 0, .string ⟨#[]⟩, .slice none 0 0, .slice none 0 0] 25)
       try (go_wp2_with fail)
       refine hK.out _ _ (hk.out _ (HV.out.trans (hb7.mono HV.out.size))) (fun hHeld => ?_)
       clear hK K
       try simp only [Act.put, s1q, s2q, s3q]
       refine call_in (i := 11) rfl (by kernel_rfl) (fun K hK => ?_)
       clear hHeld
       go_simp
       have hb8 := below_lit v17 (.cells #[.int .i64 4, .int .i64 0, .string ⟨#[]⟩, .slice xa xl xc, .slice ya yl yc] 25)
       refine hK.out _ _ (hk.out _ (HV.out.trans (hb8.mono HV.out.size))) (fun hHeld => ?_)
       clear hK K
       try simp only [Act.put, s1q, s2q, s3q]
       refine take_in (i := 12) (v := ?_) rfl (by kernel_rfl) (by kernel_rfl) (by kernel_rfl) (fun _ _ _ h => by cases h.1) (by rfl) ?_ hHeld ?_
       rotate_left
       ·intro w hSw
        (try dsimp only at hSw)
        go_simp
        try with_reducible rfl
       try simp only [Act.put, s1q, s2q, s3q]
       refine wpAnyH_done (by kernel_rfl) ?_ _
       refine ⟨rfl, v17.heap.size, Bs, xa, xl, xc, ya, yl, yc, qa, ql, qc, ra, rl, rc, ⟨HV.out.size, by simp, HV.out.trans (hb8.mono HV.out.size), heap_alloc_new v17 _, ?_⟩, rfl⟩
       exact tmP_move (w := v17) (fun b hlt _ => ⟨by omega, hb8.block b hlt⟩) hb8.size _ _ _ HTx.out
      ·clear hHeld
       go_simp
       have hbq := below_lit v16 (.cells #[.int .i64 0, .int .i64 0, .string ⟨#[]⟩, .slice none 0 0, .slice none 0 0] 25)
       have hrx := heap_alloc_new v16 (.cells #[.int .i64 0, .int .i64 0, .string ⟨#[]⟩, .slice none 0 0, .slice none 0 0] 25)
       have hlx : v16.heap.size < (v16.alloc (.cells #[.int .i64 0, .int .i64 0, .string ⟨#[]⟩, .slice none 0 0, .slice none 0 0] 25)).heap.size := by simp
       have hsx : v4.heap.size ≤ v16.heap.size := HV.out.size
       try (go_wp2_with fail)
       generalize hgw : v16.alloc (.cells #[.int .i64 0, .int .i64 0, .string ⟨#[]⟩, .slice none 0 0, .slice none 0 0] 25) = v18 at *
       clear hgw
       replace HRa := mvR hbq HLa HRa
       replace HLa := mvL hbq HLa
       replace HRb := mvR hbq HLb HRb
       replace HLb := mvL hbq HLb
       replace HRs := mvR hbq HLs HRs
       replace HLs := mvL hbq HLs
       replace HTq := Lib.hid (tmP_below hbq HTq.out)
       replace HC := mvC hbq HC
       replace HV := mvC hbq HV
       have HRz := Lib.hid hrx
       have HLz := Lib.hid hlx
       clear hbq hrx hlx
       generalize hgb : v16.heap.size = Bo at *
       clear hgb
       have HSz := Lib.hid hsx
       clear hsx
       refine hK.out _ _ (hk.out _ HV.out) (fun hHeld => ?_)
       clear hK K
       try simp only [Act.put, s1q, s2q, s3q]
       refine call_in (i := 6) rfl (by kernel_rfl) (fun K hK => ?_)
       clear hHeld
       go_simp
       have hts : TsP v18 (fun _ => True) (some ⟨Bs, 0, none⟩) 0 [tca, tcb] := tsP_row (ts := [tca, tcb]) (ss := [(.slice none 0 0, .slice none 0 0), (.slice none 0 0, .slice none 0 0)]) rfl HRs.out trivial (fun i h1 h2 => by
        have : i = 0 ∨ i = 1 := by simp at h1; omega
        rcases this with rfl | rfl
        ·exact leaf_in 3 0 ⟨#[97]⟩ _
        ·exact leaf_in 3 0 ⟨#[98]⟩ _)
       refine (inst_is Nm.rightB (tap (tvr 1) (tvr 0)) _ _ _ 2 2 [tca, tcb] v18 HTq.out (nm_two 4 (nm_leaf 1 1 ⟨#[]⟩ (by decide)) (nm_leaf 1 0 ⟨#[]⟩ (by decide))) hts rfl (by decide) (by rw [nmOkL, nmOkL, nmOkL]; exact ⟨nm_leaf 3 0 ⟨#[97]⟩ (by decide), nm_leaf 3 0 ⟨#[98]⟩ (by decide), trivial⟩) (HCN.out.below HC.out) true HI1.out).mono ?_
       clear hts
       rintro e v19 ⟨hbq, hres⟩
       rw [if_pos rfl, al1] at hres
       obtain ⟨l8, s8, rfl, ht8⟩ := hres
       obtain ⟨⟨xa, xl, xc, rfl⟩, ya, yl, yc, rfl⟩ := tmP_slices ht8
       dsimp only [tv, tkOf, tnOf, tmOf]
       have HTx := Lib.hid (tmP_move (w := v19) (Q := fun b => b ≠ Bo) (fun b _ (hb : v18.heap.size ≤ b) => ⟨by have := HLz.out; omega, rfl⟩) (Nat.le_refl _) _ _ _ ht8)
       replace HRa := mvR hbq HLa HRa
       replace HLa := mvL hbq HLa
       replace HRb := mvR hbq HLb HRb
       replace HLb := mvL hbq HLb
       replace HRs := mvR hbq HLs HRs
       replace HLs := mvL hbq HLs
       replace HRz := mvR hbq HLz HRz
       replace HLz := mvL hbq HLz
       replace HTq := Lib.hid (tmP_below hbq HTq.out)
       replace HC := mvC hbq HC
       replace HV := mvC hbq HV
       clear hbq ht8
       try (go_wp2_with fail)
       refine hK.out _ _ (hk.out _ HV.out) (fun hHeld => ?_)
       clear hK K
       try simp only [Act.put, s1q, s2q, s3q]
       refine take_in (i := 7) (v := ?_) rfl (by kernel_rfl) (by kernel_rfl) (by kernel_rfl) (fun _ _ _ h => by cases h.1) (by rfl) ?_ hHeld ?_
       rotate_left
       ·intro w hSw
        (try dsimp only at hSw)
        go_simp
        try with_reducible rfl
       try simp only [Act.put, s1q, s2q, s3q]
       refine take_in (i := 8) (v := ?_) rfl (by kernel_rfl) (by kernel_rfl) (by kernel_rfl) (fun _ _ _ h => by cases h.1) (by rfl) ?_ hHeld ?_
       rotate_left
       ·intro w hSw
        (try dsimp only at hSw)
        go_simp
        try with_reducible rfl
       try simp only [Act.put, s1q, s2q, s3q]
       refine take_in (i := 9) (v := ?_) rfl (by kernel_rfl) (by kernel_rfl) (by kernel_rfl) (fun _ _ _ h => by cases h.1) (by rfl) ?_ hHeld ?_
       rotate_left
       ·intro w hSw
        (try dsimp only at hSw)
        go_simp
        try with_reducible rfl
       try simp only [Act.put, s1q, s2q, s3q]
       refine call_in (i := 11) rfl (by kernel_rfl) (fun K hK => ?_)
       clear hHeld
       obtain ⟨n0, n1, n2, n3, n4⟩ := five_cells HRz.out
       have m0 := frozen0 (p := 0) HRz.out
       have m1 := frozen0 (p := 1) HRz.out
       have m2 := frozen0 (p := 2) HRz.out
       have m3 := frozen0 (p := 3) HRz.out
       have m4 := frozen0 (p := 4) HRz.out
       go_simp
       have hb8 := set5_below (n₀ := v4.heap.size) HV.out Bo 0 (.int .i64 4) (.int .i64 0) (.string ⟨#[]⟩) (.slice xa xl xc) (.slice ya yl yc) HSz.out
       refine hK.out _ _ (hk.out _ hb8) (fun hHeld => ?_)
       clear hK K
       try simp only [Act.put, s1q, s2q, s3q]
       refine take_in (i := 12) (v := ?_) rfl (by kernel_rfl) (by kernel_rfl) (by kernel_rfl) (fun _ _ _ h => by cases h.1) (by rfl) ?_ hHeld ?_
       rotate_left
       ·intro w hSw
        (try dsimp only at hSw)
        go_simp
        try with_reducible rfl
       try simp only [Act.put, s1q, s2q, s3q]
       refine wpAnyH_done (by kernel_rfl) ?_ _
       refine ⟨rfl, Bo, Bs, xa, xl, xc, ya, yl, yc, qa, ql, qc, ra, rl, rc, ⟨HSz.out, by rw [set5_sz]; exact HLz.out, hb8, set5_row HRz.out, ?_⟩, rfl⟩
       exact tmP_move (w := v19) (fun b _ (hp : b ≠ Bo) => ⟨hp, set5_far' v19 Bo 0 b _ _ _ _ _ hp⟩) (by rw [set5_sz]; exact Nat.le_refl _) _ _ _ HTx.out
     ·clear hHeld
      go_simp
      have hbq := below_lit v15 (.cells #[.int .i64 0, .int .i64 0, .string ⟨#[]⟩, .slice none 0 0, .slice none 0 0] 25)
      have hrx := heap_alloc_new v15 (.cells #[.int .i64 0, .int .i64 0, .string ⟨#[]⟩, .slice none 0 0, .slice none 0 0] 25)
      have hlx : v15.heap.size < (v15.alloc (.cells #[.int .i64 0, .int .i64 0, .string ⟨#[]⟩, .slice none 0 0, .slice none 0 0] 25)).heap.size := by simp
      have hsx : v4.heap.size ≤ v15.heap.size := HV.out.size
      try (go_wp2_with fail)
      generalize hgw : v15.alloc (.cells #[.int .i64 0, .int .i64 0, .string ⟨#[]⟩, .slice none 0 0, .slice none 0 0] 25) = v20 at *
      clear hgw
      replace HRa := mvR hbq HLa HRa
      replace HLa := mvL hbq HLa
      replace HRb := mvR hbq HLb HRb
      replace HLb := mvL hbq HLb
      replace HRs := mvR hbq HLs HRs
      replace HLs := mvL hbq HLs
      replace HC := mvC hbq HC
      replace HV := mvC hbq HV
      have HRz := Lib.hid hrx
      have HLz := Lib.hid hlx
      clear hbq hrx hlx
      generalize hgb : v15.heap.size = Bo at *
      clear hgb
      have HSz := Lib.hid hsx
      clear hsx
      refine hK.out _ _ (hk.out _ HV.out) (fun hHeld => ?_)
      clear hK K
      try simp only [Act.put, s1q, s2q, s3q]
      refine call_in (i := 2) rfl (by kernel_rfl) (fun K hK => ?_)
      clear hHeld
      go_simp
      refine (h6_app (tvr 1) (tvr 0) _ _ _ _ _ (leaf_in 1 1 ⟨#[]⟩ _) (leaf_in 1 0 ⟨#[]⟩ _)).mono ?_
      rintro e v21 ⟨l9, s9, rfl, ht9, hbq⟩
      obtain ⟨⟨qa, ql, qc, rfl⟩, ra, rl, rc, rfl⟩ := tmP_slices ht9
      replace HRa := mvR hbq HLa HRa
      replace HLa := mvL hbq HLa
      replace HRb := mvR hbq HLb HRb
      replace HLb := mvL hbq HLb
      replace HRs := mvR hbq HLs HRs
      replace HLs := mvL hbq HLs
      replace HRz := mvR hbq HLz HRz
      replace HLz := mvL hbq HLz
      replace HC := mvC hbq HC
      replace HV := mvC hbq HV
      have HTq := Lib.hid ht9
      clear hbq ht9
      dsimp only [tv, tkOf, tnOf, tmOf]
      try (go_wp2_with fail)
      refine hK.out _ _ (hk.out _ HV.out) (fun hHeld => ?_)
      clear hK K
      try simp only [Act.put, s1q, s2q, s3q]
      refine call_in (i := 6) rfl (by kernel_rfl) (fun K hK => ?_)
      clear hHeld
      go_simp
      have hts : TsP v21 (fun _ => True) (some ⟨Bs, 0, none⟩) 0 [tca, tcb] := tsP_row (ts := [tca, tcb]) (ss := [(.slice none 0 0, .slice none 0 0), (.slice none 0 0, .slice none 0 0)]) rfl HRs.out trivial (fun i h1 h2 => by
       have : i = 0 ∨ i = 1 := by simp at h1; omega
       rcases this with rfl | rfl
       ·exact leaf_in 3 0 ⟨#[97]⟩ _
       ·exact leaf_in 3 0 ⟨#[98]⟩ _)
      refine (inst_is Nm.rightB (tap (tvr 1) (tvr 0)) _ _ _ 2 2 [tca, tcb] v21 HTq.out (nm_two 4 (nm_leaf 1 1 ⟨#[]⟩ (by decide)) (nm_leaf 1 0 ⟨#[]⟩ (by decide))) hts rfl (by decide) (by rw [nmOkL, nmOkL, nmOkL]; exact ⟨nm_leaf 3 0 ⟨#[97]⟩ (by decide), nm_leaf 3 0 ⟨#[98]⟩ (by decide), trivial⟩) (HCN.out.below HC.out) true HI1.out).mono ?_
      clear hts
      rintro e v22 ⟨hbq, hres⟩
      rw [if_pos rfl, al1] at hres
      obtain ⟨l8, s8, rfl, ht8⟩ := hres
      obtain ⟨⟨xa, xl, xc, rfl⟩, ya, yl, yc, rfl⟩ := tmP_slices ht8
      dsimp only [tv, tkOf, tnOf, tmOf]
      have HTx := Lib.hid (tmP_move (w := v22) (Q := fun b => b ≠ Bo) (fun b _ (hb : v21.heap.size ≤ b) => ⟨by have := HLz.out; omega, rfl⟩) (Nat.le_refl _) _ _ _ ht8)
      replace HRa := mvR hbq HLa HRa
      replace HLa := mvL hbq HLa
      replace HRb := mvR hbq HLb HRb
      replace HLb := mvL hbq HLb
      replace HRs := mvR hbq HLs HRs
      replace HLs := mvL hbq HLs
      replace HRz := mvR hbq HLz HRz
      replace HLz := mvL hbq HLz
      replace HTq := Lib.hid (tmP_below hbq HTq.out)
      replace HC := mvC hbq HC
      replace HV := mvC hbq HV
      clear hbq ht8
      try (go_wp2_with fail)
      refine hK.out _ _ (hk.out _ HV.out) (fun hHeld => ?_)
      clear hK K
      try simp only [Act.put, s1q, s2q, s3q]
      refine take_in (i := 7) (v := ?_) rfl (by kernel_rfl) (by kernel_rfl) (by kernel_rfl) (fun _ _ _ h => by cases h.1) (by rfl) ?_ hHeld ?_
      rotate_left
      ·intro w hSw
       (try dsimp only at hSw)
       go_simp
       try with_reducible rfl
      try simp only [Act.put, s1q, s2q, s3q]
      refine take_in (i := 8) (v := ?_) rfl (by kernel_rfl) (by kernel_rfl) (by kernel_rfl) (fun _ _ _ h => by cases h.1) (by rfl) ?_ hHeld ?_
      rotate_left
      ·intro w hSw
       (try dsimp only at hSw)
       go_simp
       try with_reducible rfl
      try simp only [Act.put, s1q, s2q, s3q]
      refine take_in (i := 9) (v := ?_) rfl (by kernel_rfl) (by kernel_rfl) (by kernel_rfl) (fun _ _ _ h => by cases h.1) (by rfl) ?_ hHeld ?_
      rotate_left
      ·intro w hSw
       (try dsimp only at hSw)
       go_simp
       try with_reducible rfl
      try simp only [Act.put, s1q, s2q, s3q]
      refine call_in (i := 11) rfl (by kernel_rfl) (fun K hK => ?_)
      clear hHeld
      obtain ⟨n0, n1, n2, n3, n4⟩ := five_cells HRz.out
      have m0 := frozen0 (p := 0) HRz.out
      have m1 := frozen0 (p := 1) HRz.out
      have m2 := frozen0 (p := 2) HRz.out
      have m3 := frozen0 (p := 3) HRz.out
      have m4 := frozen0 (p := 4) HRz.out
      go_simp
      have hb8 := set5_below (n₀ := v4.heap.size) HV.out Bo 0 (.int .i64 4) (.int .i64 0) (.string ⟨#[]⟩) (.slice xa xl xc) (.slice ya yl yc) HSz.out
      refine hK.out _ _ (hk.out _ hb8) (fun hHeld => ?_)
      clear hK K
      try simp only [Act.put, s1q, s2q, s3q]
      refine take_in (i := 12) (v := ?_) rfl (by kernel_rfl) (by kernel_rfl) (by kernel_rfl) (fun _ _ _ h => by cases h.1) (by rfl) ?_ hHeld ?_
      rotate_left
      ·intro w hSw
       (try dsimp only at hSw)
       go_simp
       try with_reducible rfl
      try simp only [Act.put, s1q, s2q, s3q]
      refine wpAnyH_done (by kernel_rfl) ?_ _
      refine ⟨rfl, Bo, Bs, xa, xl, xc, ya, yl, yc, qa, ql, qc, ra, rl, rc, ⟨HSz.out, by rw [set5_sz]; exact HLz.out, hb8, set5_row HRz.out, ?_⟩, rfl⟩
      exact tmP_move (w := v22) (fun b _ (hp : b ≠ Bo) => ⟨hp, set5_far' v22 Bo 0 b _ _ _ _ _ hp⟩) (by rw [set5_sz]; exact Nat.le_refl _) _ _ _ HTx.out
    ·clear hHeld
     go_simp
     have hbq := below_lit v6 (.cells #[.int .i64 0, .int .i64 0, .string ⟨#[]⟩, .slice none 0 0, .slice none 0 0] 25)
     have hrx := heap_alloc_new v6 (.cells #[.int .i64 0, .int .i64 0, .string ⟨#[]⟩, .slice none 0 0, .slice none 0 0] 25)
     have hlx : v6.heap.size < (v6.alloc (.cells #[.int .i64 0, .int .i64 0, .string ⟨#[]⟩, .slice none 0 0, .slice none 0 0] 25)).heap.size := by simp
     have hsx : v4.heap.size ≤ v6.heap.size := HV.out.size
     try (go_wp2_with fail)
     generalize hgw : v6.alloc (.cells #[.int .i64 0, .int .i64 0, .string ⟨#[]⟩, .slice none 0 0, .slice none 0 0] 25) = v23 at *
     clear hgw
     replace HRa := mvR hbq HLa HRa
     replace HLa := mvL hbq HLa
     replace HRb := mvR hbq HLb HRb
     replace HLb := mvL hbq HLb
     replace HC := mvC hbq HC
     replace HV := mvC hbq HV
     have HRz := Lib.hid hrx
     have HLz := Lib.hid hlx
     clear hbq hrx hlx
     generalize hgb : v6.heap.size = Bo at *
     clear hgb
     have HSz := Lib.hid hsx
     clear hsx
     refine hK.out _ _ (hk.out _ HV.out) (fun hHeld => ?_)
     clear hK K
     try simp only [Act.put, s1q, s2q, s3q]
     refine two_in (i := 2) (j := 5) rfl rfl (by kernel_rfl) (fun K hK => ?_) (fun K hK => ?_)
     ·clear hHeld
      go_simp
      refine (h6_app (tvr 1) (tvr 0) _ _ _ _ _ (leaf_in 1 1 ⟨#[]⟩ _) (leaf_in 1 0 ⟨#[]⟩ _)).mono ?_
      rintro e v24 ⟨l9, s9, rfl, ht9, hbq⟩
      obtain ⟨⟨qa, ql, qc, rfl⟩, ra, rl, rc, rfl⟩ := tmP_slices ht9
      replace HRa := mvR hbq HLa HRa
      replace HLa := mvL hbq HLa
      replace HRb := mvR hbq HLb HRb
      replace HLb := mvL hbq HLb
      replace HRz := mvR hbq HLz HRz
      replace HLz := mvL hbq HLz
      replace HC := mvC hbq HC
      replace HV := mvC hbq HV
      have HTq := Lib.hid ht9
      clear hbq ht9
      dsimp only [tv, tkOf, tnOf, tmOf]
      try (go_wp2_with fail)
      refine hK.out _ _ (hk.out _ HV.out) (fun hHeld => ?_)
      clear hK K
      try simp only [Act.put, s1q, s2q, s3q]
      refine call_in (i := 5) rfl (by kernel_rfl) (fun K hK => ?_)
      clear hHeld
      go_simp
      have hbq := below_lit v24 (.cells #[.int .i64 3, .int .i64 0, .string ⟨#[97]⟩, .slice none 0 0, .slice none 0 0, .int .i64 3, .int .i64 0, .string ⟨#[98]⟩, .slice none 0 0, .slice none 0 0] 25)
      have hrx := heap_alloc_new v24 (.cells #[.int .i64 3, .int .i64 0, .string ⟨#[97]⟩, .slice none 0 0, .slice none 0 0, .int .i64 3, .int .i64 0, .string ⟨#[98]⟩, .slice none 0 0, .slice none 0 0] 25)
      have hlx : v24.heap.size < (v24.alloc (.cells #[.int .i64 3, .int .i64 0, .string ⟨#[97]⟩, .slice none 0 0, .slice none 0 0, .int .i64 3, .int .i64 0, .string ⟨#[98]⟩, .slice none 0 0, .slice none 0 0] 25)).heap.size := by simp
      try (go_wp2_with fail)
      generalize hgw : v24.alloc (.cells #[.int .i64 3, .int .i64 0, .string ⟨#[97]⟩, .slice none 0 0, .slice none 0 0, .int .i64 3, .int .i64 0, .string ⟨#[98]⟩, .slice none 0 0, .slice none 0 0] 25) = v25 at *
      clear hgw
      replace HRa := mvR hbq HLa HRa
      replace HLa := mvL hbq HLa
      replace HRb := mvR hbq HLb HRb
      replace HLb := mvL hbq HLb
      replace HRz := mvR hbq HLz HRz
      replace HLz := mvL hbq HLz
      replace HTq := Lib.hid (tmP_below hbq HTq.out)
      replace HC := mvC hbq HC
      replace HV := mvC hbq HV
      have HRs := Lib.hid hrx
      have HLs := Lib.hid hlx
      clear hbq hrx hlx
      generalize hgb : v24.heap.size = Bs at *
      clear hgb
      refine hK.out _ _ (hk.out _ HV.out) (fun hHeld => ?_)
      clear hK K
      try simp only [Act.put, s1q, s2q, s3q]
      refine call_in (i := 6) rfl (by kernel_rfl) (fun K hK => ?_)
      clear hHeld
      go_simp
      have hts : TsP v25 (fun _ => True) (some ⟨Bs, 0, none⟩) 0 [tca, tcb] := tsP_row (ts := [tca, tcb]) (ss := [(.slice none 0 0, .slice none 0 0), (.slice none 0 0, .slice none 0 0)]) rfl HRs.out trivial (fun i h1 h2 => by
       have : i = 0 ∨ i = 1 := by simp at h1; omega
       rcases this with rfl | rfl
       ·exact leaf_in 3 0 ⟨#[97]⟩ _
       ·exact leaf_in 3 0 ⟨#[98]⟩ _)
      refine (inst_is Nm.rightB (tap (tvr 1) (tvr 0)) _ _ _ 2 2 [tca, tcb] v25 HTq.out (nm_two 4 (nm_leaf 1 1 ⟨#[]⟩ (by decide)) (nm_leaf 1 0 ⟨#[]⟩ (by decide))) hts rfl (by decide) (by rw [nmOkL, nmOkL, nmOkL]; exact ⟨nm_leaf 3 0 ⟨#[97]⟩ (by decide), nm_leaf 3 0 ⟨#[98]⟩ (by decide), trivial⟩) (HCN.out.below HC.out) true HI1.out).mono ?_
      clear hts
      rintro e v26 ⟨hbq, hres⟩
      rw [if_pos rfl, al1] at hres
      obtain ⟨l8, s8, rfl, ht8⟩ := hres
      obtain ⟨⟨xa, xl, xc, rfl⟩, ya, yl, yc, rfl⟩ := tmP_slices ht8
      dsimp only [tv, tkOf, tnOf, tmOf]
      have HTx := Lib.hid (tmP_move (w := v26) (Q := fun b => b ≠ Bo) (fun b _ (hb : v25.heap.size ≤ b) => ⟨by have := HLz.out; omega, rfl⟩) (Nat.le_refl _) _ _ _ ht8)
      replace HRa := mvR hbq HLa HRa
      replace HLa := mvL hbq HLa
      replace HRb := mvR hbq HLb HRb
      replace HLb := mvL hbq HLb
      replace HRz := mvR hbq HLz HRz
      replace HLz := mvL hbq HLz
      replace HRs := mvR hbq HLs HRs
      replace HLs := mvL hbq HLs
      replace HTq := Lib.hid (tmP_below hbq HTq.out)
      replace HC := mvC hbq HC
      replace HV := mvC hbq HV
      clear hbq ht8
      try (go_wp2_with fail)
      refine hK.out _ _ (hk.out _ HV.out) (fun hHeld => ?_)
      clear hK K
      try simp only [Act.put, s1q, s2q, s3q]
      refine take_in (i := 7) (v := ?_) rfl (by kernel_rfl) (by kernel_rfl) (by kernel_rfl) (fun _ _ _ h => by cases h.1) (by rfl) ?_ hHeld ?_
      rotate_left
      ·intro w hSw
       (try dsimp only at hSw)
       go_simp
       try with_reducible rfl
      try simp only [Act.put, s1q, s2q, s3q]
      refine take_in (i := 8) (v := ?_) rfl (by kernel_rfl) (by kernel_rfl) (by kernel_rfl) (fun _ _ _ h => by cases h.1) (by rfl) ?_ hHeld ?_
      rotate_left
      ·intro w hSw
       (try dsimp only at hSw)
       go_simp
       try with_reducible rfl
      try simp only [Act.put, s1q, s2q, s3q]
      refine take_in (i := 9) (v := ?_) rfl (by kernel_rfl) (by kernel_rfl) (by kernel_rfl) (fun _ _ _ h => by cases h.1) (by rfl) ?_ hHeld ?_
      rotate_left
      ·intro w hSw
       (try dsimp only at hSw)
       go_simp
       try with_reducible rfl
      try simp only [Act.put, s1q, s2q, s3q]
      refine call_in (i := 11) rfl (by kernel_rfl) (fun K hK => ?_)
      clear hHeld
      obtain ⟨n0, n1, n2, n3, n4⟩ := five_cells HRz.out
      have m0 := frozen0 (p := 0) HRz.out
      have m1 := frozen0 (p := 1) HRz.out
      have m2 := frozen0 (p := 2) HRz.out
      have m3 := frozen0 (p := 3) HRz.out
      have m4 := frozen0 (p := 4) HRz.out
      go_simp
      have hb8 := set5_below (n₀ := v4.heap.size) HV.out Bo 0 (.int .i64 4) (.int .i64 0) (.string ⟨#[]⟩) (.slice xa xl xc) (.slice ya yl yc) HSz.out
      refine hK.out _ _ (hk.out _ hb8) (fun hHeld => ?_)
      clear hK K
      try simp only [Act.put, s1q, s2q, s3q]
      refine take_in (i := 12) (v := ?_) rfl (by kernel_rfl) (by kernel_rfl) (by kernel_rfl) (fun _ _ _ h => by cases h.1) (by rfl) ?_ hHeld ?_
      rotate_left
      ·intro w hSw
       (try dsimp only at hSw)
       go_simp
       try with_reducible rfl
      try simp only [Act.put, s1q, s2q, s3q]
      refine wpAnyH_done (by kernel_rfl) ?_ _
      refine ⟨rfl, Bo, Bs, xa, xl, xc, ya, yl, yc, qa, ql, qc, ra, rl, rc, ⟨HSz.out, by rw [set5_sz]; exact HLz.out, hb8, set5_row HRz.out, ?_⟩, rfl⟩
      exact tmP_move (w := v26) (fun b _ (hp : b ≠ Bo) => ⟨hp, set5_far' v26 Bo 0 b _ _ _ _ _ hp⟩) (by rw [set5_sz]; exact Nat.le_refl _) _ _ _ HTx.out
     ·clear hHeld
      go_simp
      have hbq := below_lit v23 (.cells #[.int .i64 3, .int .i64 0, .string ⟨#[97]⟩, .slice none 0 0, .slice none 0 0, .int .i64 3, .int .i64 0, .string ⟨#[98]⟩, .slice none 0 0, .slice none 0 0] 25)
      have hrx := heap_alloc_new v23 (.cells #[.int .i64 3, .int .i64 0, .string ⟨#[97]⟩, .slice none 0 0, .slice none 0 0, .int .i64 3, .int .i64 0, .string ⟨#[98]⟩, .slice none 0 0, .slice none 0 0] 25)
      have hlx : v23.heap.size < (v23.alloc (.cells #[.int .i64 3, .int .i64 0, .string ⟨#[97]⟩, .slice none 0 0, .slice none 0 0, .int .i64 3, .int .i64 0, .string ⟨#[98]⟩, .slice none 0 0, .slice none 0 0] 25)).heap.size := by simp
      try (go_wp2_with fail)
      generalize hgw : v23.alloc (.cells #[.int .i64 3, .int .i64 0, .string ⟨#[97]⟩, .slice none 0 0, .slice none 0 0, .int .i64 3, .int .i64 0, .string ⟨#[98]⟩, .slice none 0 0, .slice none 0 0] 25) = v27 at *
      clear hgw
      replace HRa := mvR hbq HLa HRa
      replace HLa := mvL hbq HLa
      replace HRb := mvR hbq HLb HRb
      replace HLb := mvL hbq HLb
      replace HRz := mvR hbq HLz HRz
      replace HLz := mvL hbq HLz
      replace HC := mvC hbq HC
      replace HV := mvC hbq HV
      have HRs := Lib.hid hrx
      have HLs := Lib.hid hlx
      clear hbq hrx hlx
      generalize hgb : v23.heap.size = Bs at *
      clear hgb
      refine hK.out _ _ (hk.out _ HV.out) (fun hHeld => ?_)
      clear hK K
      try simp only [Act.put, s1q, s2q, s3q]
      refine call_in (i := 2) rfl (by kernel_rfl) (fun K hK => ?_)
      clear hHeld
      go_simp
      refine (h6_app (tvr 1) (tvr 0) _ _ _ _ _ (leaf_in 1 1 ⟨#[]⟩ _) (leaf_in 1 0 ⟨#[]⟩ _)).mono ?_
      rintro e v28 ⟨l9, s9, rfl, ht9, hbq⟩
      obtain ⟨⟨qa, ql, qc, rfl⟩, ra, rl, rc, rfl⟩ := tmP_slices ht9
      replace HRa := mvR hbq HLa HRa
      replace HLa := mvL hbq HLa
      replace HRb := mvR hbq HLb HRb
      replace HLb := mvL hbq HLb
      replace HRz := mvR hbq HLz HRz
      replace HLz := mvL hbq HLz
      replace HRs := mvR hbq HLs HRs
      replace HLs := mvL hbq HLs
      replace HC := mvC hbq HC
      replace HV := mvC hbq HV
      have HTq := Lib.hid ht9
      clear hbq ht9
      dsimp only [tv, tkOf, tnOf, tmOf]
      try (go_wp2_with fail)
      refine hK.out _ _ (hk.out _ HV.out) (fun hHeld => ?_)
      clear hK K
      try simp only [Act.put, s1q, s2q, s3q]
      refine call_in (i := 6) rfl (by kernel_rfl) (fun K hK => ?_)
      clear hHeld
      go_simp
      have hts : TsP v28 (fun _ => True) (some ⟨Bs, 0, none⟩) 0 [tca, tcb] := tsP_row (ts := [tca, tcb]) (ss := [(.slice none 0 0, .slice none 0 0), (.slice none 0 0, .slice none 0 0)]) rfl HRs.out trivial (fun i h1 h2 => by
       have : i = 0 ∨ i = 1 := by simp at h1; omega
       rcases this with rfl | rfl
       ·exact leaf_in 3 0 ⟨#[97]⟩ _
       ·exact leaf_in 3 0 ⟨#[98]⟩ _)
      refine (inst_is Nm.rightB (tap (tvr 1) (tvr 0)) _ _ _ 2 2 [tca, tcb] v28 HTq.out (nm_two 4 (nm_leaf 1 1 ⟨#[]⟩ (by decide)) (nm_leaf 1 0 ⟨#[]⟩ (by decide))) hts rfl (by decide) (by rw [nmOkL, nmOkL, nmOkL]; exact ⟨nm_leaf 3 0 ⟨#[97]⟩ (by decide), nm_leaf 3 0 ⟨#[98]⟩ (by decide), trivial⟩) (HCN.out.below HC.out) true HI1.out).mono ?_
      clear hts
      rintro e v29 ⟨hbq, hres⟩
      rw [if_pos rfl, al1] at hres
      obtain ⟨l8, s8, rfl, ht8⟩ := hres
      obtain ⟨⟨xa, xl, xc, rfl⟩, ya, yl, yc, rfl⟩ := tmP_slices ht8
      dsimp only [tv, tkOf, tnOf, tmOf]
      have HTx := Lib.hid (tmP_move (w := v29) (Q := fun b => b ≠ Bo) (fun b _ (hb : v28.heap.size ≤ b) => ⟨by have := HLz.out; omega, rfl⟩) (Nat.le_refl _) _ _ _ ht8)
      replace HRa := mvR hbq HLa HRa
      replace HLa := mvL hbq HLa
      replace HRb := mvR hbq HLb HRb
      replace HLb := mvL hbq HLb
      replace HRz := mvR hbq HLz HRz
      replace HLz := mvL hbq HLz
      replace HRs := mvR hbq HLs HRs
      replace HLs := mvL hbq HLs
      replace HTq := Lib.hid (tmP_below hbq HTq.out)
      replace HC := mvC hbq HC
      replace HV := mvC hbq HV
      clear hbq ht8
      try (go_wp2_with fail)
      refine hK.out _ _ (hk.out _ HV.out) (fun hHeld => ?_)
      clear hK K
      try simp only [Act.put, s1q, s2q, s3q]
      refine take_in (i := 7) (v := ?_) rfl (by kernel_rfl) (by kernel_rfl) (by kernel_rfl) (fun _ _ _ h => by cases h.1) (by rfl) ?_ hHeld ?_
      rotate_left
      ·intro w hSw
       (try dsimp only at hSw)
       go_simp
       try with_reducible rfl
      try simp only [Act.put, s1q, s2q, s3q]
      refine take_in (i := 8) (v := ?_) rfl (by kernel_rfl) (by kernel_rfl) (by kernel_rfl) (fun _ _ _ h => by cases h.1) (by rfl) ?_ hHeld ?_
      rotate_left
      ·intro w hSw
       (try dsimp only at hSw)
       go_simp
       try with_reducible rfl
      try simp only [Act.put, s1q, s2q, s3q]
      refine take_in (i := 9) (v := ?_) rfl (by kernel_rfl) (by kernel_rfl) (by kernel_rfl) (fun _ _ _ h => by cases h.1) (by rfl) ?_ hHeld ?_
      rotate_left
      ·intro w hSw
       (try dsimp only at hSw)
       go_simp
       try with_reducible rfl
      try simp only [Act.put, s1q, s2q, s3q]
      refine call_in (i := 11) rfl (by kernel_rfl) (fun K hK => ?_)
      clear hHeld
      obtain ⟨n0, n1, n2, n3, n4⟩ := five_cells HRz.out
      have m0 := frozen0 (p := 0) HRz.out
      have m1 := frozen0 (p := 1) HRz.out
      have m2 := frozen0 (p := 2) HRz.out
      have m3 := frozen0 (p := 3) HRz.out
      have m4 := frozen0 (p := 4) HRz.out
      go_simp
      have hb8 := set5_below (n₀ := v4.heap.size) HV.out Bo 0 (.int .i64 4) (.int .i64 0) (.string ⟨#[]⟩) (.slice xa xl xc) (.slice ya yl yc) HSz.out
      refine hK.out _ _ (hk.out _ hb8) (fun hHeld => ?_)
      clear hK K
      try simp only [Act.put, s1q, s2q, s3q]
      refine take_in (i := 12) (v := ?_) rfl (by kernel_rfl) (by kernel_rfl) (by kernel_rfl) (fun _ _ _ h => by cases h.1) (by rfl) ?_ hHeld ?_
      rotate_left
      ·intro w hSw
       (try dsimp only at hSw)
       go_simp
       try with_reducible rfl
      try simp only [Act.put, s1q, s2q, s3q]
      refine wpAnyH_done (by kernel_rfl) ?_ _
      refine ⟨rfl, Bo, Bs, xa, xl, xc, ya, yl, yc, qa, ql, qc, ra, rl, rc, ⟨HSz.out, by rw [set5_sz]; exact HLz.out, hb8, set5_row HRz.out, ?_⟩, rfl⟩
      exact tmP_move (w := v29) (fun b _ (hp : b ≠ Bo) => ⟨hp, set5_far' v29 Bo 0 b _ _ _ _ _ hp⟩) (by rw [set5_sz]; exact Nat.le_refl _) _ _ _ HTx.out
   ·clear hHeld
    go_simp
    have hbq := below_lit v5 (.cells #[.int .i64 3, .int .i64 0, .string ⟨#[97]⟩, .slice none 0 0, .slice none 0 0, .int .i64 3, .int .i64 0, .string ⟨#[98]⟩, .slice none 0 0, .slice none 0 0] 25)
    have hrx := heap_alloc_new v5 (.cells #[.int .i64 3, .int .i64 0, .string ⟨#[97]⟩, .slice none 0 0, .slice none 0 0, .int .i64 3, .int .i64 0, .string ⟨#[98]⟩, .slice none 0 0, .slice none 0 0] 25)
    have hlx : v5.heap.size < (v5.alloc (.cells #[.int .i64 3, .int .i64 0, .string ⟨#[97]⟩, .slice none 0 0, .slice none 0 0, .int .i64 3, .int .i64 0, .string ⟨#[98]⟩, .slice none 0 0, .slice none 0 0] 25)).heap.size := by simp
    try (go_wp2_with fail)
    generalize hgw : v5.alloc (.cells #[.int .i64 3, .int .i64 0, .string ⟨#[97]⟩, .slice none 0 0, .slice none 0 0, .int .i64 3, .int .i64 0, .string ⟨#[98]⟩, .slice none 0 0, .slice none 0 0] 25) = v30 at *
    clear hgw
    replace HRa := mvR hbq HLa HRa
    replace HLa := mvL hbq HLa
    replace HRb := mvR hbq HLb HRb
    replace HLb := mvL hbq HLb
    replace HC := mvC hbq HC
    replace HV := mvC hbq HV
    have HRs := Lib.hid hrx
    have HLs := Lib.hid hlx
    clear hbq hrx hlx
    generalize hgb : v5.heap.size = Bs at *
    clear hgb
    refine hK.out _ _ (hk.out _ HV.out) (fun hHeld => ?_)
    clear hK K
    try simp only [Act.put, s1q, s2q, s3q]
    refine two_in (i := 1) (j := 10) rfl rfl (by kernel_rfl) (fun K hK => ?_) (fun K hK => ?_)
    ·clear hHeld
     go_simp
     refine (h6_variable 0 _).mono ?_
     rintro e v31 ⟨rfl, _, hbq⟩
     replace HRa := mvR hbq HLa HRa
     replace HLa := mvL hbq HLa
     replace HRb := mvR hbq HLb HRb
     replace HLb := mvL hbq HLb
     replace HRs := mvR hbq HLs HRs
     replace HLs := mvL hbq HLs
     replace HC := mvC hbq HC
     replace HV := mvC hbq HV
     clear hbq
     try (go_wp2_with fail)
     refine hK.out _ _ (hk.out _ HV.out) (fun hHeld => ?_)
     clear hK K
     try simp only [Act.put, s1q, s2q, s3q]
     refine two_in (i := 2) (j := 10) rfl rfl (by kernel_rfl) (fun K hK => ?_) (fun K hK => ?_)
     ·clear hHeld
      go_simp
      refine (h6_app (tvr 1) (tvr 0) _ _ _ _ _ (leaf_in 1 1 ⟨#[]⟩ _) (leaf_in 1 0 ⟨#[]⟩ _)).mono ?_
      rintro e v32 ⟨l9, s9, rfl, ht9, hbq⟩
      obtain ⟨⟨qa, ql, qc, rfl⟩, ra, rl, rc, rfl⟩ := tmP_slices ht9
      replace HRa := mvR hbq HLa HRa
      replace HLa := mvL hbq HLa
      replace HRb := mvR hbq HLb HRb
      replace HLb := mvL hbq HLb
      replace HRs := mvR hbq HLs HRs
      replace HLs := mvL hbq HLs
      replace HC := mvC hbq HC
      replace HV := mvC hbq HV
      have HTq := Lib.hid ht9
      clear hbq ht9
      dsimp only [tv, tkOf, tnOf, tmOf]
      try (go_wp2_with fail)
      refine hK.out _ _ (hk.out _ HV.out) (fun hHeld => ?_)
      clear hK K
      try simp only [Act.put, s1q, s2q, s3q]
      refine two_in (i := 6) (j := 10) rfl rfl (by kernel_rfl) (fun K hK => ?_) (fun K hK => ?_)
      ·clear hHeld
       go_simp
       have hts : TsP v32 (fun _ => True) (some ⟨Bs, 0, none⟩) 0 [tca, tcb] := tsP_row (ts := [tca, tcb]) (ss := [(.slice none 0 0, .slice none 0 0), (.slice none 0 0, .slice none 0 0)]) rfl HRs.out trivial (fun i h1 h2 => by
        have : i = 0 ∨ i = 1 := by simp at h1; omega
        rcases this with rfl | rfl
        ·exact leaf_in 3 0 ⟨#[97]⟩ _
        ·exact leaf_in 3 0 ⟨#[98]⟩ _)
       refine (inst_is Nm.rightB (tap (tvr 1) (tvr 0)) _ _ _ 2 2 [tca, tcb] v32 HTq.out (nm_two 4 (nm_leaf 1 1 ⟨#[]⟩ (by decide)) (nm_leaf 1 0 ⟨#[]⟩ (by decide))) hts rfl (by decide) (by rw [nmOkL, nmOkL, nmOkL]; exact ⟨nm_leaf 3 0 ⟨#[97]⟩ (by decide), nm_leaf 3 0 ⟨#[98]⟩ (by decide), trivial⟩) (HCN.out.below HC.out) true HI1.out).mono ?_
       clear hts
       rintro e v33 ⟨hbq, hres⟩
       rw [if_pos rfl, al1] at hres
       obtain ⟨l8, s8, rfl, ht8⟩ := hres
       obtain ⟨⟨xa, xl, xc, rfl⟩, ya, yl, yc, rfl⟩ := tmP_slices ht8
       dsimp only [tv, tkOf, tnOf, tmOf]
       have HTx := Lib.hid (tmP_move (w := v33) (Q := fun b => b < v33.heap.size) (fun b hlt _ => ⟨hlt, rfl⟩) (Nat.le_refl _) _ _ _ ht8)
       replace HRa := mvR hbq HLa HRa
       replace HLa := mvL hbq HLa
       replace HRb := mvR hbq HLb HRb
       replace HLb := mvL hbq HLb
       replace HRs := mvR hbq HLs HRs
       replace HLs := mvL hbq HLs
       replace HTq := Lib.hid (tmP_below hbq HTq.out)
       replace HC := mvC hbq HC
       replace HV := mvC hbq HV
       clear hbq ht8
       try (go_wp2_with fail)
       refine hK.out _ _ (hk.out _ HV.out) (fun hHeld => ?_)
       clear hK K
       try simp only [Act.put, s1q, s2q, s3q]
       refine take_in (i := 7) (v := ?_) rfl (by kernel_rfl) (by kernel_rfl) (by kernel_rfl) (fun _ _ _ h => by cases h.1) (by rfl) ?_ hHeld ?_
       rotate_left
       ·intro w hSw
        (try dsimp only at hSw)
        go_simp
        try with_reducible rfl
       try simp only [Act.put, s1q, s2q, s3q]
       refine take_in (i := 8) (v := ?_) rfl (by kernel_rfl) (by kernel_rfl) (by kernel_rfl) (fun _ _ _ h => by cases h.1) (by rfl) ?_ hHeld ?_
       rotate_left
       ·intro w hSw
        (try dsimp only at hSw)
        go_simp
        try with_reducible rfl
       try simp only [Act.put, s1q, s2q, s3q]
       refine take_in (i := 9) (v := ?_) rfl (by kernel_rfl) (by kernel_rfl) (by kernel_rfl) (fun _ _ _ h => by cases h.1) (by rfl) ?_ hHeld ?_
       rotate_left
       ·intro w hSw
        (try dsimp only at hSw)
        go_simp
        try with_reducible rfl
       try simp only [Act.put, s1q, s2q, s3q]
       refine call_in (i := 10) rfl (by kernel_rfl) (fun K hK => ?_)
       clear hHeld
       go_simp
       have hb7 := below_lit v33 (.cells #[.int .i64 0, .int .i64 0, .string ⟨#[]⟩, .slice none 0 0, .slice none 0 0] 25)
       have n0 := heap_alloc_new v33 (.cells #[.int .i64 0, .int .i64 0, .string ⟨#[]⟩, .slice none 0 0, .slice none 0 0] 25)
       try (go_wp2_with fail)
       refine hK.out _ _ (hk.out _ (HV.out.trans (hb7.mono HV.out.size))) (fun hHeld => ?_)
       clear hK K
       try simp only [Act.put, s1q, s2q, s3q]
       refine call_in (i := 11) rfl (by kernel_rfl) (fun K hK => ?_)
       clear hHeld
       go_simp
       have hb8 := below_lit v33 (.cells #[.int .i64 4, .int .i64 0, .string ⟨#[]⟩, .slice xa xl xc, .slice ya yl yc] 25)
       refine hK.out _ _ (hk.out _ (HV.out.trans (hb8.mono HV.out.size))) (fun hHeld => ?_)
       clear hK K
       try simp only [Act.put, s1q, s2q, s3q]
       refine take_in (i := 12) (v := ?_) rfl (by kernel_rfl) (by kernel_rfl) (by kernel_rfl) (fun _ _ _ h => by cases h.1) (by rfl) ?_ hHeld ?_
       rotate_left
       ·intro w hSw
        (try dsimp only at hSw)
        go_simp
        try with_reducible rfl
       try simp only [Act.put, s1q, s2q, s3q]
       refine wpAnyH_done (by kernel_rfl) ?_ _
       refine ⟨rfl, v33.heap.size, Bs, xa, xl, xc, ya, yl, yc, qa, ql, qc, ra, rl, rc, ⟨HV.out.size, by simp, HV.out.trans (hb8.mono HV.out.size), heap_alloc_new v33 _, ?_⟩, rfl⟩
       exact tmP_move (w := v33) (fun b hlt _ => ⟨by omega, hb8.block b hlt⟩) hb8.size _ _ _ HTx.out
      ·clear hHeld
       go_simp
       have hbq := below_lit v32 (.cells #[.int .i64 0, .int .i64 0, .string ⟨#[]⟩, .slice none 0 0, .slice none 0 0] 25)
       have hrx := heap_alloc_new v32 (.cells #[.int .i64 0, .int .i64 0, .string ⟨#[]⟩, .slice none 0 0, .slice none 0 0] 25)
       have hlx : v32.heap.size < (v32.alloc (.cells #[.int .i64 0, .int .i64 0, .string ⟨#[]⟩, .slice none 0 0, .slice none 0 0] 25)).heap.size := by simp
       have hsx : v4.heap.size ≤ v32.heap.size := HV.out.size
       try (go_wp2_with fail)
       generalize hgw : v32.alloc (.cells #[.int .i64 0, .int .i64 0, .string ⟨#[]⟩, .slice none 0 0, .slice none 0 0] 25) = v34 at *
       clear hgw
       replace HRa := mvR hbq HLa HRa
       replace HLa := mvL hbq HLa
       replace HRb := mvR hbq HLb HRb
       replace HLb := mvL hbq HLb
       replace HRs := mvR hbq HLs HRs
       replace HLs := mvL hbq HLs
       replace HTq := Lib.hid (tmP_below hbq HTq.out)
       replace HC := mvC hbq HC
       replace HV := mvC hbq HV
       have HRz := Lib.hid hrx
       have HLz := Lib.hid hlx
       clear hbq hrx hlx
       generalize hgb : v32.heap.size = Bo at *
       clear hgb
       have HSz := Lib.hid hsx
       clear hsx
       refine hK.out _ _ (hk.out _ HV.out) (fun hHeld => ?_)
       clear hK K
       try simp only [Act.put, s1q, s2q, s3q]
       refine call_in (i := 6) rfl (by kernel_rfl) (fun K hK => ?_)
       clear hHeld
       go_simp
       have hts : TsP v34 (fun _ => True) (some ⟨Bs, 0, none⟩) 0 [tca, tcb] := tsP_row (ts := [tca, tcb]) (ss := [(.slice none 0 0, .slice none 0 0), (.slice none 0 0, .slice none 0 0)]) rfl HRs.out trivial (fun i h1 h2 => by
        have : i = 0 ∨ i = 1 := by simp at h1; omega
        rcases this with rfl | rfl
        ·exact leaf_in 3 0 ⟨#[97]⟩ _
        ·exact leaf_in 3 0 ⟨#[98]⟩ _)
       refine (inst_is Nm.rightB (tap (tvr 1) (tvr 0)) _ _ _ 2 2 [tca, tcb] v34 HTq.out (nm_two 4 (nm_leaf 1 1 ⟨#[]⟩ (by decide)) (nm_leaf 1 0 ⟨#[]⟩ (by decide))) hts rfl (by decide) (by rw [nmOkL, nmOkL, nmOkL]; exact ⟨nm_leaf 3 0 ⟨#[97]⟩ (by decide), nm_leaf 3 0 ⟨#[98]⟩ (by decide), trivial⟩) (HCN.out.below HC.out) true HI1.out).mono ?_
       clear hts
       rintro e v35 ⟨hbq, hres⟩
       rw [if_pos rfl, al1] at hres
       obtain ⟨l8, s8, rfl, ht8⟩ := hres
       obtain ⟨⟨xa, xl, xc, rfl⟩, ya, yl, yc, rfl⟩ := tmP_slices ht8
       dsimp only [tv, tkOf, tnOf, tmOf]
       have HTx := Lib.hid (tmP_move (w := v35) (Q := fun b => b ≠ Bo) (fun b _ (hb : v34.heap.size ≤ b) => ⟨by have := HLz.out; omega, rfl⟩) (Nat.le_refl _) _ _ _ ht8)
       replace HRa := mvR hbq HLa HRa
       replace HLa := mvL hbq HLa
       replace HRb := mvR hbq HLb HRb
       replace HLb := mvL hbq HLb
       replace HRs := mvR hbq HLs HRs
       replace HLs := mvL hbq HLs
       replace HRz := mvR hbq HLz HRz
       replace HLz := mvL hbq HLz
       replace HTq := Lib.hid (tmP_below hbq HTq.out)
       replace HC := mvC hbq HC
       replace HV := mvC hbq HV
       clear hbq ht8
       try (go_wp2_with fail)
       refine hK.out _ _ (hk.out _ HV.out) (fun hHeld => ?_)
       clear hK K
       try simp only [Act.put, s1q, s2q, s3q]
       refine take_in (i := 7) (v := ?_) rfl (by kernel_rfl) (by kernel_rfl) (by kernel_rfl) (fun _ _ _ h => by cases h.1) (by rfl) ?_ hHeld ?_
       rotate_left
       ·intro w hSw
        (try dsimp only at hSw)
        go_simp
        try with_reducible rfl
       try simp only [Act.put, s1q, s2q, s3q]
       refine take_in (i := 8) (v := ?_) rfl (by kernel_rfl) (by kernel_rfl) (by kernel_rfl) (fun _ _ _ h => by cases h.1) (by rfl) ?_ hHeld ?_
       rotate_left
       ·intro w hSw
        (try dsimp only at hSw)
        go_simp
        try with_reducible rfl
       try simp only [Act.put, s1q, s2q, s3q]
       refine take_in (i := 9) (v := ?_) rfl (by kernel_rfl) (by kernel_rfl) (by kernel_rfl) (fun _ _ _ h => by cases h.1) (by rfl) ?_ hHeld ?_
       rotate_left
       ·intro w hSw
        (try dsimp only at hSw)
        go_simp
        try with_reducible rfl
       try simp only [Act.put, s1q, s2q, s3q]
       refine call_in (i := 11) rfl (by kernel_rfl) (fun K hK => ?_)
       clear hHeld
       obtain ⟨n0, n1, n2, n3, n4⟩ := five_cells HRz.out
       have m0 := frozen0 (p := 0) HRz.out
       have m1 := frozen0 (p := 1) HRz.out
       have m2 := frozen0 (p := 2) HRz.out
       have m3 := frozen0 (p := 3) HRz.out
       have m4 := frozen0 (p := 4) HRz.out
       go_simp
       have hb8 := set5_below (n₀ := v4.heap.size) HV.out Bo 0 (.int .i64 4) (.int .i64 0) (.string ⟨#[]⟩) (.slice xa xl xc) (.slice ya yl yc) HSz.out
       refine hK.out _ _ (hk.out _ hb8) (fun hHeld => ?_)
       clear hK K
       try simp only [Act.put, s1q, s2q, s3q]
       refine take_in (i := 12) (v := ?_) rfl (by kernel_rfl) (by kernel_rfl) (by kernel_rfl) (fun _ _ _ h => by cases h.1) (by rfl) ?_ hHeld ?_
       rotate_left
       ·intro w hSw
        (try dsimp only at hSw)
        go_simp
        try with_reducible rfl
       try simp only [Act.put, s1q, s2q, s3q]
       refine wpAnyH_done (by kernel_rfl) ?_ _
       refine ⟨rfl, Bo, Bs, xa, xl, xc, ya, yl, yc, qa, ql, qc, ra, rl, rc, ⟨HSz.out, by rw [set5_sz]; exact HLz.out, hb8, set5_row HRz.out, ?_⟩, rfl⟩
       exact tmP_move (w := v35) (fun b _ (hp : b ≠ Bo) => ⟨hp, set5_far' v35 Bo 0 b _ _ _ _ _ hp⟩) (by rw [set5_sz]; exact Nat.le_refl _) _ _ _ HTx.out
     ·clear hHeld
      go_simp
      have hbq := below_lit v31 (.cells #[.int .i64 0, .int .i64 0, .string ⟨#[]⟩, .slice none 0 0, .slice none 0 0] 25)
      have hrx := heap_alloc_new v31 (.cells #[.int .i64 0, .int .i64 0, .string ⟨#[]⟩, .slice none 0 0, .slice none 0 0] 25)
      have hlx : v31.heap.size < (v31.alloc (.cells #[.int .i64 0, .int .i64 0, .string ⟨#[]⟩, .slice none 0 0, .slice none 0 0] 25)).heap.size := by simp
      have hsx : v4.heap.size ≤ v31.heap.size := HV.out.size
      try (go_wp2_with fail)
      generalize hgw : v31.alloc (.cells #[.int .i64 0, .int .i64 0, .string ⟨#[]⟩, .slice none 0 0, .slice none 0 0] 25) = v36 at *
      clear hgw
      replace HRa := mvR hbq HLa HRa
      replace HLa := mvL hbq HLa
      replace HRb := mvR hbq HLb HRb
      replace HLb := mvL hbq HLb
      replace HRs := mvR hbq HLs HRs
      replace HLs := mvL hbq HLs
      replace HC := mvC hbq HC
      replace HV := mvC hbq HV
      have HRz := Lib.hid hrx
      have HLz := Lib.hid hlx
      clear hbq hrx hlx
      generalize hgb : v31.heap.size = Bo at *
      clear hgb
      have HSz := Lib.hid hsx
      clear hsx
      refine hK.out _ _ (hk.out _ HV.out) (fun hHeld => ?_)
      clear hK K
      try simp only [Act.put, s1q, s2q, s3q]
      refine call_in (i := 2) rfl (by kernel_rfl) (fun K hK => ?_)
      clear hHeld
      go_simp
      refine (h6_app (tvr 1) (tvr 0) _ _ _ _ _ (leaf_in 1 1 ⟨#[]⟩ _) (leaf_in 1 0 ⟨#[]⟩ _)).mono ?_
      rintro e v37 ⟨l9, s9, rfl, ht9, hbq⟩
      obtain ⟨⟨qa, ql, qc, rfl⟩, ra, rl, rc, rfl⟩ := tmP_slices ht9
      replace HRa := mvR hbq HLa HRa
      replace HLa := mvL hbq HLa
      replace HRb := mvR hbq HLb HRb
      replace HLb := mvL hbq HLb
      replace HRs := mvR hbq HLs HRs
      replace HLs := mvL hbq HLs
      replace HRz := mvR hbq HLz HRz
      replace HLz := mvL hbq HLz
      replace HC := mvC hbq HC
      replace HV := mvC hbq HV
      have HTq := Lib.hid ht9
      clear hbq ht9
      dsimp only [tv, tkOf, tnOf, tmOf]
      try (go_wp2_with fail)
      refine hK.out _ _ (hk.out _ HV.out) (fun hHeld => ?_)
      clear hK K
      try simp only [Act.put, s1q, s2q, s3q]
      refine call_in (i := 6) rfl (by kernel_rfl) (fun K hK => ?_)
      clear hHeld
      go_simp
      have hts : TsP v37 (fun _ => True) (some ⟨Bs, 0, none⟩) 0 [tca, tcb] := tsP_row (ts := [tca, tcb]) (ss := [(.slice none 0 0, .slice none 0 0), (.slice none 0 0, .slice none 0 0)]) rfl HRs.out trivial (fun i h1 h2 => by
       have : i = 0 ∨ i = 1 := by simp at h1; omega
       rcases this with rfl | rfl
       ·exact leaf_in 3 0 ⟨#[97]⟩ _
       ·exact leaf_in 3 0 ⟨#[98]⟩ _)
      refine (inst_is Nm.rightB (tap (tvr 1) (tvr 0)) _ _ _ 2 2 [tca, tcb] v37 HTq.out (nm_two 4 (nm_leaf 1 1 ⟨#[]⟩ (by decide)) (nm_leaf 1 0 ⟨#[]⟩ (by decide))) hts rfl (by decide) (by rw [nmOkL, nmOkL, nmOkL]; exact ⟨nm_leaf 3 0 ⟨#[97]⟩ (by decide), nm_leaf 3 0 ⟨#[98]⟩ (by decide), trivial⟩) (HCN.out.below HC.out) true HI1.out).mono ?_
      clear hts
      rintro e v38 ⟨hbq, hres⟩
      rw [if_pos rfl, al1] at hres
      obtain ⟨l8, s8, rfl, ht8⟩ := hres
      obtain ⟨⟨xa, xl, xc, rfl⟩, ya, yl, yc, rfl⟩ := tmP_slices ht8
      dsimp only [tv, tkOf, tnOf, tmOf]
      have HTx := Lib.hid (tmP_move (w := v38) (Q := fun b => b ≠ Bo) (fun b _ (hb : v37.heap.size ≤ b) => ⟨by have := HLz.out; omega, rfl⟩) (Nat.le_refl _) _ _ _ ht8)
      replace HRa := mvR hbq HLa HRa
      replace HLa := mvL hbq HLa
      replace HRb := mvR hbq HLb HRb
      replace HLb := mvL hbq HLb
      replace HRs := mvR hbq HLs HRs
      replace HLs := mvL hbq HLs
      replace HRz := mvR hbq HLz HRz
      replace HLz := mvL hbq HLz
      replace HTq := Lib.hid (tmP_below hbq HTq.out)
      replace HC := mvC hbq HC
      replace HV := mvC hbq HV
      clear hbq ht8
      try (go_wp2_with fail)
      refine hK.out _ _ (hk.out _ HV.out) (fun hHeld => ?_)
      clear hK K
      try simp only [Act.put, s1q, s2q, s3q]
      refine take_in (i := 7) (v := ?_) rfl (by kernel_rfl) (by kernel_rfl) (by kernel_rfl) (fun _ _ _ h => by cases h.1) (by rfl) ?_ hHeld ?_
      rotate_left
      ·intro w hSw
       (try dsimp only at hSw)
       go_simp
       try with_reducible rfl
      try simp only [Act.put, s1q, s2q, s3q]
      refine take_in (i := 8) (v := ?_) rfl (by kernel_rfl) (by kernel_rfl) (by kernel_rfl) (fun _ _ _ h => by cases h.1) (by rfl) ?_ hHeld ?_
      rotate_left
      ·intro w hSw
       (try dsimp only at hSw)
       go_simp
       try with_reducible rfl
      try simp only [Act.put, s1q, s2q, s3q]
      refine take_in (i := 9) (v := ?_) rfl (by kernel_rfl) (by kernel_rfl) (by kernel_rfl) (fun _ _ _ h => by cases h.1) (by rfl) ?_ hHeld ?_
      rotate_left
      ·intro w hSw
       (try dsimp only at hSw)
       go_simp
       try with_reducible rfl
      try simp only [Act.put, s1q, s2q, s3q]
      refine call_in (i := 11) rfl (by kernel_rfl) (fun K hK => ?_)
      clear hHeld
      obtain ⟨n0, n1, n2, n3, n4⟩ := five_cells HRz.out
      have m0 := frozen0 (p := 0) HRz.out
      have m1 := frozen0 (p := 1) HRz.out
      have m2 := frozen0 (p := 2) HRz.out
      have m3 := frozen0 (p := 3) HRz.out
      have m4 := frozen0 (p := 4) HRz.out
      go_simp
      have hb8 := set5_below (n₀ := v4.heap.size) HV.out Bo 0 (.int .i64 4) (.int .i64 0) (.string ⟨#[]⟩) (.slice xa xl xc) (.slice ya yl yc) HSz.out
      refine hK.out _ _ (hk.out _ hb8) (fun hHeld => ?_)
      clear hK K
      try simp only [Act.put, s1q, s2q, s3q]
      refine take_in (i := 12) (v := ?_) rfl (by kernel_rfl) (by kernel_rfl) (by kernel_rfl) (fun _ _ _ h => by cases h.1) (by rfl) ?_ hHeld ?_
      rotate_left
      ·intro w hSw
       (try dsimp only at hSw)
       go_simp
       try with_reducible rfl
      try simp only [Act.put, s1q, s2q, s3q]
      refine wpAnyH_done (by kernel_rfl) ?_ _
      refine ⟨rfl, Bo, Bs, xa, xl, xc, ya, yl, yc, qa, ql, qc, ra, rl, rc, ⟨HSz.out, by rw [set5_sz]; exact HLz.out, hb8, set5_row HRz.out, ?_⟩, rfl⟩
      exact tmP_move (w := v38) (fun b _ (hp : b ≠ Bo) => ⟨hp, set5_far' v38 Bo 0 b _ _ _ _ _ hp⟩) (by rw [set5_sz]; exact Nat.le_refl _) _ _ _ HTx.out
    ·clear hHeld
     go_simp
     have hbq := below_lit v30 (.cells #[.int .i64 0, .int .i64 0, .string ⟨#[]⟩, .slice none 0 0, .slice none 0 0] 25)
     have hrx := heap_alloc_new v30 (.cells #[.int .i64 0, .int .i64 0, .string ⟨#[]⟩, .slice none 0 0, .slice none 0 0] 25)
     have hlx : v30.heap.size < (v30.alloc (.cells #[.int .i64 0, .int .i64 0, .string ⟨#[]⟩, .slice none 0 0, .slice none 0 0] 25)).heap.size := by simp
     have hsx : v4.heap.size ≤ v30.heap.size := HV.out.size
     try (go_wp2_with fail)
     generalize hgw : v30.alloc (.cells #[.int .i64 0, .int .i64 0, .string ⟨#[]⟩, .slice none 0 0, .slice none 0 0] 25) = v39 at *
     clear hgw
     replace HRa := mvR hbq HLa HRa
     replace HLa := mvL hbq HLa
     replace HRb := mvR hbq HLb HRb
     replace HLb := mvL hbq HLb
     replace HRs := mvR hbq HLs HRs
     replace HLs := mvL hbq HLs
     replace HC := mvC hbq HC
     replace HV := mvC hbq HV
     have HRz := Lib.hid hrx
     have HLz := Lib.hid hlx
     clear hbq hrx hlx
     generalize hgb : v30.heap.size = Bo at *
     clear hgb
     have HSz := Lib.hid hsx
     clear hsx
     refine hK.out _ _ (hk.out _ HV.out) (fun hHeld => ?_)
     clear hK K
     try simp only [Act.put, s1q, s2q, s3q]
     refine call_in (i := 1) rfl (by kernel_rfl) (fun K hK => ?_)
     clear hHeld
     go_simp
     refine (h6_variable 0 _).mono ?_
     rintro e v40 ⟨rfl, _, hbq⟩
     replace HRa := mvR hbq HLa HRa
     replace HLa := mvL hbq HLa
     replace HRb := mvR hbq HLb HRb
     replace HLb := mvL hbq HLb
     replace HRs := mvR hbq HLs HRs
     replace HLs := mvL hbq HLs
     replace HRz := mvR hbq HLz HRz
     replace HLz := mvL hbq HLz
     replace HC := mvC hbq HC
     replace HV := mvC hbq HV
     clear hbq
     try (go_wp2_with fail)
     refine hK.out _ _ (hk.out _ HV.out) (fun hHeld => ?_)
     clear hK K
     try simp only [Act.put, s1q, s2q, s3q]
     refine call_in (i := 2) rfl (by kernel_rfl) (fun K hK => ?_)
     clear hHeld
     go_simp
     refine (h6_app (tvr 1) (tvr 0) _ _ _ _ _ (leaf_in 1 1 ⟨#[]⟩ _) (leaf_in 1 0 ⟨#[]⟩ _)).mono ?_
     rintro e v41 ⟨l9, s9, rfl, ht9, hbq⟩
     obtain ⟨⟨qa, ql, qc, rfl⟩, ra, rl, rc, rfl⟩ := tmP_slices ht9
     replace HRa := mvR hbq HLa HRa
     replace HLa := mvL hbq HLa
     replace HRb := mvR hbq HLb HRb
     replace HLb := mvL hbq HLb
     replace HRs := mvR hbq HLs HRs
     replace HLs := mvL hbq HLs
     replace HRz := mvR hbq HLz HRz
     replace HLz := mvL hbq HLz
     replace HC := mvC hbq HC
     replace HV := mvC hbq HV
     have HTq := Lib.hid ht9
     clear hbq ht9
     dsimp only [tv, tkOf, tnOf, tmOf]
     try (go_wp2_with fail)
     refine hK.out _ _ (hk.out _ HV.out) (fun hHeld => ?_)
     clear hK K
     try simp only [Act.put, s1q, s2q, s3q]
     refine call_in (i := 6) rfl (by kernel_rfl) (fun K hK => ?_)
     clear hHeld
     go_simp
     have hts : TsP v41 (fun _ => True) (some ⟨Bs, 0, none⟩) 0 [tca, tcb] := tsP_row (ts := [tca, tcb]) (ss := [(.slice none 0 0, .slice none 0 0), (.slice none 0 0, .slice none 0 0)]) rfl HRs.out trivial (fun i h1 h2 => by
      have : i = 0 ∨ i = 1 := by simp at h1; omega
      rcases this with rfl | rfl
      ·exact leaf_in 3 0 ⟨#[97]⟩ _
      ·exact leaf_in 3 0 ⟨#[98]⟩ _)
     refine (inst_is Nm.rightB (tap (tvr 1) (tvr 0)) _ _ _ 2 2 [tca, tcb] v41 HTq.out (nm_two 4 (nm_leaf 1 1 ⟨#[]⟩ (by decide)) (nm_leaf 1 0 ⟨#[]⟩ (by decide))) hts rfl (by decide) (by rw [nmOkL, nmOkL, nmOkL]; exact ⟨nm_leaf 3 0 ⟨#[97]⟩ (by decide), nm_leaf 3 0 ⟨#[98]⟩ (by decide), trivial⟩) (HCN.out.below HC.out) true HI1.out).mono ?_
     clear hts
     rintro e v42 ⟨hbq, hres⟩
     rw [if_pos rfl, al1] at hres
     obtain ⟨l8, s8, rfl, ht8⟩ := hres
     obtain ⟨⟨xa, xl, xc, rfl⟩, ya, yl, yc, rfl⟩ := tmP_slices ht8
     dsimp only [tv, tkOf, tnOf, tmOf]
     have HTx := Lib.hid (tmP_move (w := v42) (Q := fun b => b ≠ Bo) (fun b _ (hb : v41.heap.size ≤ b) => ⟨by have := HLz.out; omega, rfl⟩) (Nat.le_refl _) _ _ _ ht8)
     replace HRa := mvR hbq HLa HRa
     replace HLa := mvL hbq HLa
     replace HRb := mvR hbq HLb HRb
     replace HLb := mvL hbq HLb
     replace HRs := mvR hbq HLs HRs
     replace HLs := mvL hbq HLs
     replace HRz := mvR hbq HLz HRz
     replace HLz := mvL hbq HLz
     replace HTq := Lib.hid (tmP_below hbq HTq.out)
     replace HC := mvC hbq HC
     replace HV := mvC hbq HV
     clear hbq ht8
     try (go_wp2_with fail)
     refine hK.out _ _ (hk.out _ HV.out) (fun hHeld => ?_)
     clear hK K
     try simp only [Act.put, s1q, s2q, s3q]
     refine take_in (i := 7) (v := ?_) rfl (by kernel_rfl) (by kernel_rfl) (by kernel_rfl) (fun _ _ _ h => by cases h.1) (by rfl) ?_ hHeld ?_
     rotate_left
     ·intro w hSw
      (try dsimp only at hSw)
      go_simp
      try with_reducible rfl
     try simp only [Act.put, s1q, s2q, s3q]
     refine take_in (i := 8) (v := ?_) rfl (by kernel_rfl) (by kernel_rfl) (by kernel_rfl) (fun _ _ _ h => by cases h.1) (by rfl) ?_ hHeld ?_
     rotate_left
     ·intro w hSw
      (try dsimp only at hSw)
      go_simp
      try with_reducible rfl
     try simp only [Act.put, s1q, s2q, s3q]
     refine take_in (i := 9) (v := ?_) rfl (by kernel_rfl) (by kernel_rfl) (by kernel_rfl) (fun _ _ _ h => by cases h.1) (by rfl) ?_ hHeld ?_
     rotate_left
     ·intro w hSw
      (try dsimp only at hSw)
      go_simp
      try with_reducible rfl
     try simp only [Act.put, s1q, s2q, s3q]
     refine call_in (i := 11) rfl (by kernel_rfl) (fun K hK => ?_)
     clear hHeld
     obtain ⟨n0, n1, n2, n3, n4⟩ := five_cells HRz.out
     have m0 := frozen0 (p := 0) HRz.out
     have m1 := frozen0 (p := 1) HRz.out
     have m2 := frozen0 (p := 2) HRz.out
     have m3 := frozen0 (p := 3) HRz.out
     have m4 := frozen0 (p := 4) HRz.out
     go_simp
     have hb8 := set5_below (n₀ := v4.heap.size) HV.out Bo 0 (.int .i64 4) (.int .i64 0) (.string ⟨#[]⟩) (.slice xa xl xc) (.slice ya yl yc) HSz.out
     refine hK.out _ _ (hk.out _ hb8) (fun hHeld => ?_)
     clear hK K
     try simp only [Act.put, s1q, s2q, s3q]
     refine take_in (i := 12) (v := ?_) rfl (by kernel_rfl) (by kernel_rfl) (by kernel_rfl) (fun _ _ _ h => by cases h.1) (by rfl) ?_ hHeld ?_
     rotate_left
     ·intro w hSw
      (try dsimp only at hSw)
      go_simp
      try with_reducible rfl
     try simp only [Act.put, s1q, s2q, s3q]
     refine wpAnyH_done (by kernel_rfl) ?_ _
     refine ⟨rfl, Bo, Bs, xa, xl, xc, ya, yl, yc, qa, ql, qc, ra, rl, rc, ⟨HSz.out, by rw [set5_sz]; exact HLz.out, hb8, set5_row HRz.out, ?_⟩, rfl⟩
     exact tmP_move (w := v42) (fun b _ (hp : b ≠ Bo) => ⟨hp, set5_far' v42 Bo 0 b _ _ _ _ _ hp⟩) (by rw [set5_sz]; exact Nat.le_refl _) _ _ _ HTx.out
   ·clear hHeld
    go_simp
    have hbq := below_lit v5 (.cells #[.int .i64 0, .int .i64 0, .string ⟨#[]⟩, .slice none 0 0, .slice none 0 0] 25)
    have hrx := heap_alloc_new v5 (.cells #[.int .i64 0, .int .i64 0, .string ⟨#[]⟩, .slice none 0 0, .slice none 0 0] 25)
    have hlx : v5.heap.size < (v5.alloc (.cells #[.int .i64 0, .int .i64 0, .string ⟨#[]⟩, .slice none 0 0, .slice none 0 0] 25)).heap.size := by simp
    have hsx : v4.heap.size ≤ v5.heap.size := HV.out.size
    try (go_wp2_with fail)
    generalize hgw : v5.alloc (.cells #[.int .i64 0, .int .i64 0, .string ⟨#[]⟩, .slice none 0 0, .slice none 0 0] 25) = v43 at *
    clear hgw
    replace HRa := mvR hbq HLa HRa
    replace HLa := mvL hbq HLa
    replace HRb := mvR hbq HLb HRb
    replace HLb := mvL hbq HLb
    replace HC := mvC hbq HC
    replace HV := mvC hbq HV
    have HRz := Lib.hid hrx
    have HLz := Lib.hid hlx
    clear hbq hrx hlx
    generalize hgb : v5.heap.size = Bo at *
    clear hgb
    have HSz := Lib.hid hsx
    clear hsx
    refine hK.out _ _ (hk.out _ HV.out) (fun hHeld => ?_)
    clear hK K
    try simp only [Act.put, s1q, s2q, s3q]
    refine two_in (i := 1) (j := 5) rfl rfl (by kernel_rfl) (fun K hK => ?_) (fun K hK => ?_)
    ·clear hHeld
     go_simp
     refine (h6_variable 0 _).mono ?_
     rintro e v44 ⟨rfl, _, hbq⟩
     replace HRa := mvR hbq HLa HRa
     replace HLa := mvL hbq HLa
     replace HRb := mvR hbq HLb HRb
     replace HLb := mvL hbq HLb
     replace HRz := mvR hbq HLz HRz
     replace HLz := mvL hbq HLz
     replace HC := mvC hbq HC
     replace HV := mvC hbq HV
     clear hbq
     try (go_wp2_with fail)
     refine hK.out _ _ (hk.out _ HV.out) (fun hHeld => ?_)
     clear hK K
     try simp only [Act.put, s1q, s2q, s3q]
     refine two_in (i := 2) (j := 5) rfl rfl (by kernel_rfl) (fun K hK => ?_) (fun K hK => ?_)
     ·clear hHeld
      go_simp
      refine (h6_app (tvr 1) (tvr 0) _ _ _ _ _ (leaf_in 1 1 ⟨#[]⟩ _) (leaf_in 1 0 ⟨#[]⟩ _)).mono ?_
      rintro e v45 ⟨l9, s9, rfl, ht9, hbq⟩
      obtain ⟨⟨qa, ql, qc, rfl⟩, ra, rl, rc, rfl⟩ := tmP_slices ht9
      replace HRa := mvR hbq HLa HRa
      replace HLa := mvL hbq HLa
      replace HRb := mvR hbq HLb HRb
      replace HLb := mvL hbq HLb
      replace HRz := mvR hbq HLz HRz
      replace HLz := mvL hbq HLz
      replace HC := mvC hbq HC
      replace HV := mvC hbq HV
      have HTq := Lib.hid ht9
      clear hbq ht9
      dsimp only [tv, tkOf, tnOf, tmOf]
      try (go_wp2_with fail)
      refine hK.out _ _ (hk.out _ HV.out) (fun hHeld => ?_)
      clear hK K
      try simp only [Act.put, s1q, s2q, s3q]
      refine call_in (i := 5) rfl (by kernel_rfl) (fun K hK => ?_)
      clear hHeld
      go_simp
      have hbq := below_lit v45 (.cells #[.int .i64 3, .int .i64 0, .string ⟨#[97]⟩, .slice none 0 0, .slice none 0 0, .int .i64 3, .int .i64 0, .string ⟨#[98]⟩, .slice none 0 0, .slice none 0 0] 25)
      have hrx := heap_alloc_new v45 (.cells #[.int .i64 3, .int .i64 0, .string ⟨#[97]⟩, .slice none 0 0, .slice none 0 0, .int .i64 3, .int .i64 0, .string ⟨#[98]⟩, .slice none 0 0, .slice none 0 0] 25)
      have hlx : v45.heap.size < (v45.alloc (.cells #[.int .i64 3, .int .i64 0, .string ⟨#[97]⟩, .slice none 0 0, .slice none 0 0, .int .i64 3, .int .i64 0, .string ⟨#[98]⟩, .slice none 0 0, .slice none 0 0] 25)).heap.size := by simp
      try (go_wp2_with fail)
      generalize hgw : v45.alloc (.cells #[.int .i64 3, .int .i64 0, .string ⟨#[97]⟩, .slice none 0 0, .slice none 0 0, .int .i64 3, .int .i64 0, .string ⟨#[98]⟩, .slice none 0 0, .slice none 0 0] 25) = v46 at *
      clear hgw
      replace HRa := mvR hbq HLa HRa
      replace HLa := mvL hbq HLa
      replace HRb := mvR hbq HLb HRb
      replace HLb := mvL hbq HLb
      replace HRz := mvR hbq HLz HRz
      replace HLz := mvL hbq HLz
      replace HTq := Lib.hid (tmP_below hbq HTq.out)
      replace HC := mvC hbq HC
      replace HV := mvC hbq HV
      have HRs := Lib.hid hrx
      have HLs := Lib.hid hlx
      clear hbq hrx hlx
      generalize hgb : v45.heap.size = Bs at *
      clear hgb
      refine hK.out _ _ (hk.out _ HV.out) (fun hHeld => ?_)
      clear hK K
      try simp only [Act.put, s1q, s2q, s3q]
      refine call_in (i := 6) rfl (by kernel_rfl) (fun K hK => ?_)
      clear hHeld
      go_simp
      have hts : TsP v46 (fun _ => True) (some ⟨Bs, 0, none⟩) 0 [tca, tcb] := tsP_row (ts := [tca, tcb]) (ss := [(.slice none 0 0, .slice none 0 0), (.slice none 0 0, .slice none 0 0)]) rfl HRs.out trivial (fun i h1 h2 => by
       have : i = 0 ∨ i = 1 := by simp at h1; omega
       rcases this with rfl | rfl
       ·exact leaf_in 3 0 ⟨#[97]⟩ _
       ·exact leaf_in 3 0 ⟨#[98]⟩ _)
      refine (inst_is Nm.rightB (tap (tvr 1) (tvr 0)) _ _ _ 2 2 [tca, tcb] v46 HTq.out (nm_two 4 (nm_leaf 1 1 ⟨#[]⟩ (by decide)) (nm_leaf 1 0 ⟨#[]⟩ (by decide))) hts rfl (by decide) (by rw [nmOkL, nmOkL, nmOkL]; exact ⟨nm_leaf 3 0 ⟨#[97]⟩ (by decide), nm_leaf 3 0 ⟨#[98]⟩ (by decide), trivial⟩) (HCN.out.below HC.out) true HI1.out).mono ?_
      clear hts
      rintro e v47 ⟨hbq, hres⟩
      rw [if_pos rfl, al1] at hres
      obtain ⟨l8, s8, rfl, ht8⟩ := hres
      obtain ⟨⟨xa, xl, xc, rfl⟩, ya, yl, yc, rfl⟩ := tmP_slices ht8
      dsimp only [tv, tkOf, tnOf, tmOf]
      have HTx := Lib.hid (tmP_move (w := v47) (Q := fun b => b ≠ Bo) (fun b _ (hb : v46.heap.size ≤ b) => ⟨by have := HLz.out; omega, rfl⟩) (Nat.le_refl _) _ _ _ ht8)
      replace HRa := mvR hbq HLa HRa
      replace HLa := mvL hbq HLa
      replace HRb := mvR hbq HLb HRb
      replace HLb := mvL hbq HLb
      replace HRz := mvR hbq HLz HRz
      replace HLz := mvL hbq HLz
      replace HRs := mvR hbq HLs HRs
      replace HLs := mvL hbq HLs
      replace HTq := Lib.hid (tmP_below hbq HTq.out)
      replace HC := mvC hbq HC
      replace HV := mvC hbq HV
      clear hbq ht8
      try (go_wp2_with fail)
      refine hK.out _ _ (hk.out _ HV.out) (fun hHeld => ?_)
      clear hK K
      try simp only [Act.put, s1q, s2q, s3q]
      refine take_in (i := 7) (v := ?_) rfl (by kernel_rfl) (by kernel_rfl) (by kernel_rfl) (fun _ _ _ h => by cases h.1) (by rfl) ?_ hHeld ?_
      rotate_left
      ·intro w hSw
       (try dsimp only at hSw)
       go_simp
       try with_reducible rfl
      try simp only [Act.put, s1q, s2q, s3q]
      refine take_in (i := 8) (v := ?_) rfl (by kernel_rfl) (by kernel_rfl) (by kernel_rfl) (fun _ _ _ h => by cases h.1) (by rfl) ?_ hHeld ?_
      rotate_left
      ·intro w hSw
       (try dsimp only at hSw)
       go_simp
       try with_reducible rfl
      try simp only [Act.put, s1q, s2q, s3q]
      refine take_in (i := 9) (v := ?_) rfl (by kernel_rfl) (by kernel_rfl) (by kernel_rfl) (fun _ _ _ h => by cases h.1) (by rfl) ?_ hHeld ?_
      rotate_left
      ·intro w hSw
       (try dsimp only at hSw)
       go_simp
       try with_reducible rfl
      try simp only [Act.put, s1q, s2q, s3q]
      refine call_in (i := 11) rfl (by kernel_rfl) (fun K hK => ?_)
      clear hHeld
      obtain ⟨n0, n1, n2, n3, n4⟩ := five_cells HRz.out
      have m0 := frozen0 (p := 0) HRz.out
      have m1 := frozen0 (p := 1) HRz.out
      have m2 := frozen0 (p := 2) HRz.out
      have m3 := frozen0 (p := 3) HRz.out
      have m4 := frozen0 (p := 4) HRz.out
      go_simp
      have hb8 := set5_below (n₀ := v4.heap.size) HV.out Bo 0 (.int .i64 4) (.int .i64 0) (.string ⟨#[]⟩) (.slice xa xl xc) (.slice ya yl yc) HSz.out
      refine hK.out _ _ (hk.out _ hb8) (fun hHeld => ?_)
      clear hK K
      try simp only [Act.put, s1q, s2q, s3q]
      refine take_in (i := 12) (v := ?_) rfl (by kernel_rfl) (by kernel_rfl) (by kernel_rfl) (fun _ _ _ h => by cases h.1) (by rfl) ?_ hHeld ?_
      rotate_left
      ·intro w hSw
       (try dsimp only at hSw)
       go_simp
       try with_reducible rfl
      try simp only [Act.put, s1q, s2q, s3q]
      refine wpAnyH_done (by kernel_rfl) ?_ _
      refine ⟨rfl, Bo, Bs, xa, xl, xc, ya, yl, yc, qa, ql, qc, ra, rl, rc, ⟨HSz.out, by rw [set5_sz]; exact HLz.out, hb8, set5_row HRz.out, ?_⟩, rfl⟩
      exact tmP_move (w := v47) (fun b _ (hp : b ≠ Bo) => ⟨hp, set5_far' v47 Bo 0 b _ _ _ _ _ hp⟩) (by rw [set5_sz]; exact Nat.le_refl _) _ _ _ HTx.out
     ·clear hHeld
      go_simp
      have hbq := below_lit v44 (.cells #[.int .i64 3, .int .i64 0, .string ⟨#[97]⟩, .slice none 0 0, .slice none 0 0, .int .i64 3, .int .i64 0, .string ⟨#[98]⟩, .slice none 0 0, .slice none 0 0] 25)
      have hrx := heap_alloc_new v44 (.cells #[.int .i64 3, .int .i64 0, .string ⟨#[97]⟩, .slice none 0 0, .slice none 0 0, .int .i64 3, .int .i64 0, .string ⟨#[98]⟩, .slice none 0 0, .slice none 0 0] 25)
      have hlx : v44.heap.size < (v44.alloc (.cells #[.int .i64 3, .int .i64 0, .string ⟨#[97]⟩, .slice none 0 0, .slice none 0 0, .int .i64 3, .int .i64 0, .string ⟨#[98]⟩, .slice none 0 0, .slice none 0 0] 25)).heap.size := by simp
      try (go_wp2_with fail)
      generalize hgw : v44.alloc (.cells #[.int .i64 3, .int .i64 0, .string ⟨#[97]⟩, .slice none 0 0, .slice none 0 0, .int .i64 3, .int .i64 0, .string ⟨#[98]⟩, .slice none 0 0, .slice none 0 0] 25) = v48 at *
      clear hgw
      replace HRa := mvR hbq HLa HRa
      replace HLa := mvL hbq HLa
      replace HRb := mvR hbq HLb HRb
      replace HLb := mvL hbq HLb
      replace HRz := mvR hbq HLz HRz
      replace HLz := mvL hbq HLz
      replace HC := mvC hbq HC
      replace HV := mvC hbq HV
      have HRs := Lib.hid hrx
      have HLs := Lib.hid hlx
      clear hbq hrx hlx
      generalize hgb : v44.heap.size = Bs at *
      clear hgb
      refine hK.out _ _ (hk.out _ HV.out) (fun hHeld => ?_)
      clear hK K
      try simp only [Act.put, s1q, s2q, s3q]
      refine call_in (i := 2) rfl (by kernel_rfl) (fun K hK => ?_)
      clear hHeld
      go_simp
      refine (h6_app (tvr 1) (tvr 0) _ _ _ _ _ (leaf_in 1 1 ⟨#[]⟩ _) (leaf_in 1 0 ⟨#[]⟩ _)).mono ?_
      rintro e v49 ⟨l9, s9, rfl, ht9, hbq⟩
      obtain ⟨⟨qa, ql, qc, rfl⟩, ra, rl, rc, rfl⟩ := tmP_slices ht9
      replace HRa := mvR hbq HLa HRa
      replace HLa := mvL hbq HLa
      replace HRb := mvR hbq HLb HRb
      replace HLb := mvL hbq HLb
      replace HRz := mvR hbq HLz HRz
      replace HLz := mvL hbq HLz
      replace HRs := mvR hbq HLs HRs
      replace HLs := mvL hbq HLs
      replace HC := mvC hbq HC
      replace HV := mvC hbq HV
      have HTq := Lib.hid ht9
      clear hbq ht9
      dsimp only [tv, tkOf, tnOf, tmOf]
      try (go_wp2_with fail)
      refine hK.out _ _ (hk.out _ HV.out) (fun hHeld => ?_)
      clear hK K
      try simp only [Act.put, s1q, s2q, s3q]
      refine call_in (i := 6) rfl (by kernel_rfl) (fun K hK => ?_)
      clear hHeld
      go_simp
      have hts : TsP v49 (fun _ => True) (some ⟨Bs, 0, none⟩) 0 [tca, tcb] := tsP_row (ts := [tca, tcb]) (ss := [(.slice none 0 0, .slice none 0 0), (.slice none 0 0, .slice none 0 0)]) rfl HRs.out trivial (fun i h1 h2 => by
       have : i = 0 ∨ i = 1 := by simp at h1; omega
       rcases this with rfl | rfl
       ·exact leaf_in 3 0 ⟨#[97]⟩ _
       ·exact leaf_in 3 0 ⟨#[98]⟩ _)
      refine (inst_is Nm.rightB (tap (tvr 1) (tvr 0)) _ _ _ 2 2 [tca, tcb] v49 HTq.out (nm_two 4 (nm_leaf 1 1 ⟨#[]⟩ (by decide)) (nm_leaf 1 0 ⟨#[]⟩ (by decide))) hts rfl (by decide) (by rw [nmOkL, nmOkL, nmOkL]; exact ⟨nm_leaf 3 0 ⟨#[97]⟩ (by decide), nm_leaf 3 0 ⟨#[98]⟩ (by decide), trivial⟩) (HCN.out.below HC.out) true HI1.out).mono ?_
      clear hts
      rintro e v50 ⟨hbq, hres⟩
      rw [if_pos rfl, al1] at hres
      obtain ⟨l8, s8, rfl, ht8⟩ := hres
      obtain ⟨⟨xa, xl, xc, rfl⟩, ya, yl, yc, rfl⟩ := tmP_slices ht8
      dsimp only [tv, tkOf, tnOf, tmOf]
      have HTx := Lib.hid (tmP_move (w := v50) (Q := fun b => b ≠ Bo) (fun b _ (hb : v49.heap.size ≤ b) => ⟨by have := HLz.out; omega, rfl⟩) (Nat.le_refl _) _ _ _ ht8)
      replace HRa := mvR hbq HLa HRa
      replace HLa := mvL hbq HLa
      replace HRb := mvR hbq HLb HRb
      replace HLb := mvL hbq HLb
      replace HRz := mvR hbq HLz HRz
      replace HLz := mvL hbq HLz
      replace HRs := mvR hbq HLs HRs
      replace HLs := mvL hbq HLs
      replace HTq := Lib.hid (tmP_below hbq HTq.out)
      replace HC := mvC hbq HC
      replace HV := mvC hbq HV
      clear hbq ht8
      try (go_wp2_with fail)
      refine hK.out _ _ (hk.out _ HV.out) (fun hHeld => ?_)
      clear hK K
      try simp only [Act.put, s1q, s2q, s3q]
      refine take_in (i := 7) (v := ?_) rfl (by kernel_rfl) (by kernel_rfl) (by kernel_rfl) (fun _ _ _ h => by cases h.1) (by rfl) ?_ hHeld ?_
      rotate_left
      ·intro w hSw
       (try dsimp only at hSw)
       go_simp
       try with_reducible rfl
      try simp only [Act.put, s1q, s2q, s3q]
      refine take_in (i := 8) (v := ?_) rfl (by kernel_rfl) (by kernel_rfl) (by kernel_rfl) (fun _ _ _ h => by cases h.1) (by rfl) ?_ hHeld ?_
      rotate_left
      ·intro w hSw
       (try dsimp only at hSw)
       go_simp
       try with_reducible rfl
      try simp only [Act.put, s1q, s2q, s3q]
      refine take_in (i := 9) (v := ?_) rfl (by kernel_rfl) (by kernel_rfl) (by kernel_rfl) (fun _ _ _ h => by cases h.1) (by rfl) ?_ hHeld ?_
      rotate_left
      ·intro w hSw
       (try dsimp only at hSw)
       go_simp
       try with_reducible rfl
      try simp only [Act.put, s1q, s2q, s3q]
      refine call_in (i := 11) rfl (by kernel_rfl) (fun K hK => ?_)
      clear hHeld
      obtain ⟨n0, n1, n2, n3, n4⟩ := five_cells HRz.out
      have m0 := frozen0 (p := 0) HRz.out
      have m1 := frozen0 (p := 1) HRz.out
      have m2 := frozen0 (p := 2) HRz.out
      have m3 := frozen0 (p := 3) HRz.out
      have m4 := frozen0 (p := 4) HRz.out
      go_simp
      have hb8 := set5_below (n₀ := v4.heap.size) HV.out Bo 0 (.int .i64 4) (.int .i64 0) (.string ⟨#[]⟩) (.slice xa xl xc) (.slice ya yl yc) HSz.out
      refine hK.out _ _ (hk.out _ hb8) (fun hHeld => ?_)
      clear hK K
      try simp only [Act.put, s1q, s2q, s3q]
      refine take_in (i := 12) (v := ?_) rfl (by kernel_rfl) (by kernel_rfl) (by kernel_rfl) (fun _ _ _ h => by cases h.1) (by rfl) ?_ hHeld ?_
      rotate_left
      ·intro w hSw
       (try dsimp only at hSw)
       go_simp
       try with_reducible rfl
      try simp only [Act.put, s1q, s2q, s3q]
      refine wpAnyH_done (by kernel_rfl) ?_ _
      refine ⟨rfl, Bo, Bs, xa, xl, xc, ya, yl, yc, qa, ql, qc, ra, rl, rc, ⟨HSz.out, by rw [set5_sz]; exact HLz.out, hb8, set5_row HRz.out, ?_⟩, rfl⟩
      exact tmP_move (w := v50) (fun b _ (hp : b ≠ Bo) => ⟨hp, set5_far' v50 Bo 0 b _ _ _ _ _ hp⟩) (by rw [set5_sz]; exact Nat.le_refl _) _ _ _ HTx.out
    ·clear hHeld
     go_simp
     have hbq := below_lit v43 (.cells #[.int .i64 3, .int .i64 0, .string ⟨#[97]⟩, .slice none 0 0, .slice none 0 0, .int .i64 3, .int .i64 0, .string ⟨#[98]⟩, .slice none 0 0, .slice none 0 0] 25)
     have hrx := heap_alloc_new v43 (.cells #[.int .i64 3, .int .i64 0, .string ⟨#[97]⟩, .slice none 0 0, .slice none 0 0, .int .i64 3, .int .i64 0, .string ⟨#[98]⟩, .slice none 0 0, .slice none 0 0] 25)
     have hlx : v43.heap.size < (v43.alloc (.cells #[.int .i64 3, .int .i64 0, .string ⟨#[97]⟩, .slice none 0 0, .slice none 0 0, .int .i64 3, .int .i64 0, .string ⟨#[98]⟩, .slice none 0 0, .slice none 0 0] 25)).heap.size := by simp
     try (go_wp2_with fail)
     generalize hgw : v43.alloc (.cells #[.int .i64 3, .int .i64 0, .string ⟨#[97]⟩, .slice none 0 0, .slice none 0 0, .int .i64 3, .int .i64 0, .string ⟨#[98]⟩, .slice none 0 0, .slice none 0 0] 25) = v51 at *
     clear hgw
     replace HRa := mvR hbq HLa HRa
     replace HLa := mvL hbq HLa
     replace HRb := mvR hbq HLb HRb
     replace HLb := mvL hbq HLb
     replace HRz := mvR hbq HLz HRz
     replace HLz := mvL hbq HLz
     replace HC := mvC hbq HC
     replace HV := mvC hbq HV
     have HRs := Lib.hid hrx
     have HLs := Lib.hid hlx
     clear hbq hrx hlx
     generalize hgb : v43.heap.size = Bs at *
     clear hgb
     refine hK.out _ _ (hk.out _ HV.out) (fun hHeld => ?_)
     clear hK K
     try simp only [Act.put, s1q, s2q, s3q]
     refine call_in (i := 1) rfl (by kernel_rfl) (fun K hK => ?_)
     clear hHeld
     go_simp
     refine (h6_variable 0 _).mono ?_
     rintro e v52 ⟨rfl, _, hbq⟩
     replace HRa := mvR hbq HLa HRa
     replace HLa := mvL hbq HLa
     replace HRb := mvR hbq HLb HRb
     replace HLb := mvL hbq HLb
     replace HRz := mvR hbq HLz HRz
     replace HLz := mvL hbq HLz
     replace HRs := mvR hbq HLs HRs
     replace HLs := mvL hbq HLs
     replace HC := mvC hbq HC
     replace HV := mvC hbq HV
     clear hbq
     try (go_wp2_with fail)
     refine hK.out _ _ (hk.out _ HV.out) (fun hHeld => ?_)
     clear hK K
     try simp only [Act.put, s1q, s2q, s3q]
     refine call_in (i := 2) rfl (by kernel_rfl) (fun K hK => ?_)
     clear hHeld
     go_simp
     refine (h6_app (tvr 1) (tvr 0) _ _ _ _ _ (leaf_in 1 1 ⟨#[]⟩ _) (leaf_in 1 0 ⟨#[]⟩ _)).mono ?_
     rintro e v53 ⟨l9, s9, rfl, ht9, hbq⟩
     obtain ⟨⟨qa, ql, qc, rfl⟩, ra, rl, rc, rfl⟩ := tmP_slices ht9
     replace HRa := mvR hbq HLa HRa
     replace HLa := mvL hbq HLa
     replace HRb := mvR hbq HLb HRb
     replace HLb := mvL hbq HLb
     replace HRz := mvR hbq HLz HRz
     replace HLz := mvL hbq HLz
     replace HRs := mvR hbq HLs HRs
     replace HLs := mvL hbq HLs
     replace HC := mvC hbq HC
     replace HV := mvC hbq HV
     have HTq := Lib.hid ht9
     clear hbq ht9
     dsimp only [tv, tkOf, tnOf, tmOf]
     try (go_wp2_with fail)
     refine hK.out _ _ (hk.out _ HV.out) (fun hHeld => ?_)
     clear hK K
     try simp only [Act.put, s1q, s2q, s3q]
     refine call_in (i := 6) rfl (by kernel_rfl) (fun K hK => ?_)
     clear hHeld
     go_simp
     have hts : TsP v53 (fun _ => True) (some ⟨Bs, 0, none⟩) 0 [tca, tcb] := tsP_row (ts := [tca, tcb]) (ss := [(.slice none 0 0, .slice none 0 0), (.slice none 0 0, .slice none 0 0)]) rfl HRs.out trivial (fun i h1 h2 => by
      have : i = 0 ∨ i = 1 := by simp at h1; omega
      rcases this with rfl | rfl
      ·exact leaf_in 3 0 ⟨#[97]⟩ _
      ·exact leaf_in 3 0 ⟨#[98]⟩ _)
     refine (inst_is Nm.rightB (tap (tvr 1) (tvr 0)) _ _ _ 2 2 [tca, tcb] v53 HTq.out (nm_two 4 (nm_leaf 1 1 ⟨#[]⟩ (by decide)) (nm_leaf 1 0 ⟨#[]⟩ (by decide))) hts rfl (by decide) (by rw [nmOkL, nmOkL, nmOkL]; exact ⟨nm_leaf 3 0 ⟨#[97]⟩ (by decide), nm_leaf 3 0 ⟨#[98]⟩ (by decide), trivial⟩) (HCN.out.below HC.out) true HI1.out).mono ?_
     clear hts
     rintro e v54 ⟨hbq, hres⟩
     rw [if_pos rfl, al1] at hres
     obtain ⟨l8, s8, rfl, ht8⟩ := hres
     obtain ⟨⟨xa, xl, xc, rfl⟩, ya, yl, yc, rfl⟩ := tmP_slices ht8
     dsimp only [tv, tkOf, tnOf, tmOf]
     have HTx := Lib.hid (tmP_move (w := v54) (Q := fun b => b ≠ Bo) (fun b _ (hb : v53.heap.size ≤ b) => ⟨by have := HLz.out; omega, rfl⟩) (Nat.le_refl _) _ _ _ ht8)
     replace HRa := mvR hbq HLa HRa
     replace HLa := mvL hbq HLa
     replace HRb := mvR hbq HLb HRb
     replace HLb := mvL hbq HLb
     replace HRz := mvR hbq HLz HRz
     replace HLz := mvL hbq HLz
     replace HRs := mvR hbq HLs HRs
     replace HLs := mvL hbq HLs
     replace HTq := Lib.hid (tmP_below hbq HTq.out)
     replace HC := mvC hbq HC
     replace HV := mvC hbq HV
     clear hbq ht8
     try (go_wp2_with fail)
     refine hK.out _ _ (hk.out _ HV.out) (fun hHeld => ?_)
     clear hK K
     try simp only [Act.put, s1q, s2q, s3q]
     refine take_in (i := 7) (v := ?_) rfl (by kernel_rfl) (by kernel_rfl) (by kernel_rfl) (fun _ _ _ h => by cases h.1) (by rfl) ?_ hHeld ?_
     rotate_left
     ·intro w hSw
      (try dsimp only at hSw)
      go_simp
      try with_reducible rfl
     try simp only [Act.put, s1q, s2q, s3q]
     refine take_in (i := 8) (v := ?_) rfl (by kernel_rfl) (by kernel_rfl) (by kernel_rfl) (fun _ _ _ h => by cases h.1) (by rfl) ?_ hHeld ?_
     rotate_left
     ·intro w hSw
      (try dsimp only at hSw)
      go_simp
      try with_reducible rfl
     try simp only [Act.put, s1q, s2q, s3q]
     refine take_in (i := 9) (v := ?_) rfl (by kernel_rfl) (by kernel_rfl) (by kernel_rfl) (fun _ _ _ h => by cases h.1) (by rfl) ?_ hHeld ?_
     rotate_left
     ·intro w hSw
      (try dsimp only at hSw)
      go_simp
      try with_reducible rfl
     try simp only [Act.put, s1q, s2q, s3q]
     refine call_in (i := 11) rfl (by kernel_rfl) (fun K hK => ?_)
     clear hHeld
     obtain ⟨n0, n1, n2, n3, n4⟩ := five_cells HRz.out
     have m0 := frozen0 (p := 0) HRz.out
     have m1 := frozen0 (p := 1) HRz.out
     have m2 := frozen0 (p := 2) HRz.out
     have m3 := frozen0 (p := 3) HRz.out
     have m4 := frozen0 (p := 4) HRz.out
     go_simp
     have hb8 := set5_below (n₀ := v4.heap.size) HV.out Bo 0 (.int .i64 4) (.int .i64 0) (.string ⟨#[]⟩) (.slice xa xl xc) (.slice ya yl yc) HSz.out
     refine hK.out _ _ (hk.out _ hb8) (fun hHeld => ?_)
     clear hK K
     try simp only [Act.put, s1q, s2q, s3q]
     refine take_in (i := 12) (v := ?_) rfl (by kernel_rfl) (by kernel_rfl) (by kernel_rfl) (fun _ _ _ h => by cases h.1) (by rfl) ?_ hHeld ?_
     rotate_left
     ·intro w hSw
      (try dsimp only at hSw)
      go_simp
      try with_reducible rfl
     try simp only [Act.put, s1q, s2q, s3q]
     refine wpAnyH_done (by kernel_rfl) ?_ _
     refine ⟨rfl, Bo, Bs, xa, xl, xc, ya, yl, yc, qa, ql, qc, ra, rl, rc, ⟨HSz.out, by rw [set5_sz]; exact HLz.out, hb8, set5_row HRz.out, ?_⟩, rfl⟩
     exact tmP_move (w := v54) (fun b _ (hp : b ≠ Bo) => ⟨hp, set5_far' v54 Bo 0 b _ _ _ _ _ hp⟩) (by rw [set5_sz]; exact Nat.le_refl _) _ _ _ HTx.out
  ·clear hHeld
   go_simp
   have hbq := below_lit v0 (.cells #[.int .i64 3, .int .i64 0, .string ⟨#[97]⟩, .slice none 0 0, .slice none 0 0, .int .i64 3, .int .i64 0, .string ⟨#[98]⟩, .slice none 0 0, .slice none 0 0] 25)
   have hrx := heap_alloc_new v0 (.cells #[.int .i64 3, .int .i64 0, .string ⟨#[97]⟩, .slice none 0 0, .slice none 0 0, .int .i64 3, .int .i64 0, .string ⟨#[98]⟩, .slice none 0 0, .slice none 0 0] 25)
   have hlx : v0.heap.size < (v0.alloc (.cells #[.int .i64 3, .int .i64 0, .string ⟨#[97]⟩, .slice none 0 0, .slice none 0 0, .int .i64 3, .int .i64 0, .string ⟨#[98]⟩, .slice none 0 0, .slice none 0 0] 25)).heap.size := by simp
   try (go_wp2_with fail)
   generalize hgw : v0.alloc (.cells #[.int .i64 3, .int .i64 0, .string ⟨#[97]⟩, .slice none 0 0, .slice none 0 0, .int .i64 3, .int .i64 0, .string ⟨#[98]⟩, .slice none 0 0, .slice none 0 0] 25) = v55 at *
   clear hgw
   replace HRa := mvR hbq HLa HRa
   replace HLa := mvL hbq HLa
   replace HRb := mvR hbq HLb HRb
   replace HLb := mvL hbq HLb
   replace HC := mvC hbq HC
   replace HV := mvC hbq HV
   have HRs := Lib.hid hrx
   have HLs := Lib.hid hlx
   clear hbq hrx hlx
   generalize hgb : v0.heap.size = Bs at *
   clear hgb
   refine hK.out _ _ (hk.out _ HV.out) (fun hHeld => ?_)
   clear hK K
   try simp only [Act.put, s1q, s2q, s3q]
   refine two_in (i := 0) (j := 10) rfl rfl (by kernel_rfl) (fun K hK => ?_) (fun K hK => ?_)
   ·clear hHeld
    go_simp
    refine (h6_variable 1 _).mono ?_
    rintro e v56 ⟨rfl, _, hbq⟩
    replace HRa := mvR hbq HLa HRa
    replace HLa := mvL hbq HLa
    replace HRb := mvR hbq HLb HRb
    replace HLb := mvL hbq HLb
    replace HRs := mvR hbq HLs HRs
    replace HLs := mvL hbq HLs
    replace HC := mvC hbq HC
    replace HV := mvC hbq HV
    clear hbq
    try (go_wp2_with fail)
    refine hK.out _ _ (hk.out _ HV.out) (fun hHeld => ?_)
    clear hK K
    try simp only [Act.put, s1q, s2q, s3q]
    refine two_in (i := 1) (j := 10) rfl rfl (by kernel_rfl) (fun K hK => ?_) (fun K hK => ?_)
    ·clear hHeld
     go_simp
     refine (h6_variable 0 _).mono ?_
     rintro e v57 ⟨rfl, _, hbq⟩
     replace HRa := mvR hbq HLa HRa
     replace HLa := mvL hbq HLa
     replace HRb := mvR hbq HLb HRb
     replace HLb := mvL hbq HLb
     replace HRs := mvR hbq HLs HRs
     replace HLs := mvL hbq HLs
     replace HC := mvC hbq HC
     replace HV := mvC hbq HV
     clear hbq
     try (go_wp2_with fail)
     refine hK.out _ _ (hk.out _ HV.out) (fun hHeld => ?_)
     clear hK K
     try simp only [Act.put, s1q, s2q, s3q]
     refine two_in (i := 2) (j := 10) rfl rfl (by kernel_rfl) (fun K hK => ?_) (fun K hK => ?_)
     ·clear hHeld
      go_simp
      refine (h6_app (tvr 1) (tvr 0) _ _ _ _ _ (leaf_in 1 1 ⟨#[]⟩ _) (leaf_in 1 0 ⟨#[]⟩ _)).mono ?_
      rintro e v58 ⟨l9, s9, rfl, ht9, hbq⟩
      obtain ⟨⟨qa, ql, qc, rfl⟩, ra, rl, rc, rfl⟩ := tmP_slices ht9
      replace HRa := mvR hbq HLa HRa
      replace HLa := mvL hbq HLa
      replace HRb := mvR hbq HLb HRb
      replace HLb := mvL hbq HLb
      replace HRs := mvR hbq HLs HRs
      replace HLs := mvL hbq HLs
      replace HC := mvC hbq HC
      replace HV := mvC hbq HV
      have HTq := Lib.hid ht9
      clear hbq ht9
      dsimp only [tv, tkOf, tnOf, tmOf]
      try (go_wp2_with fail)
      refine hK.out _ _ (hk.out _ HV.out) (fun hHeld => ?_)
      clear hK K
      try simp only [Act.put, s1q, s2q, s3q]
      refine two_in (i := 6) (j := 10) rfl rfl (by kernel_rfl) (fun K hK => ?_) (fun K hK => ?_)
      ·clear hHeld
       go_simp
       have hts : TsP v58 (fun _ => True) (some ⟨Bs, 0, none⟩) 0 [tca, tcb] := tsP_row (ts := [tca, tcb]) (ss := [(.slice none 0 0, .slice none 0 0), (.slice none 0 0, .slice none 0 0)]) rfl HRs.out trivial (fun i h1 h2 => by
        have : i = 0 ∨ i = 1 := by simp at h1; omega
        rcases this with rfl | rfl
        ·exact leaf_in 3 0 ⟨#[97]⟩ _
        ·exact leaf_in 3 0 ⟨#[98]⟩ _)
       refine (inst_is Nm.rightB (tap (tvr 1) (tvr 0)) _ _ _ 2 2 [tca, tcb] v58 HTq.out (nm_two 4 (nm_leaf 1 1 ⟨#[]⟩ (by decide)) (nm_leaf 1 0 ⟨#[]⟩ (by decide))) hts rfl (by decide) (by rw [nmOkL, nmOkL, nmOkL]; exact ⟨nm_leaf 3 0 ⟨#[97]⟩ (by decide), nm_leaf 3 0 ⟨#[98]⟩ (by decide), trivial⟩) (HCN.out.below HC.out) true HI1.out).mono ?_
       clear hts
       rintro e v59 ⟨hbq, hres⟩
       rw [if_pos rfl, al1] at hres
       obtain ⟨l8, s8, rfl, ht8⟩ := hres
       obtain ⟨⟨xa, xl, xc, rfl⟩, ya, yl, yc, rfl⟩ := tmP_slices ht8
       dsimp only [tv, tkOf, tnOf, tmOf]
       have HTx := Lib.hid (tmP_move (w := v59) (Q := fun b => b < v59.heap.size) (fun b hlt _ => ⟨hlt, rfl⟩) (Nat.le_refl _) _ _ _ ht8)
       replace HRa := mvR hbq HLa HRa
       replace HLa := mvL hbq HLa
       replace HRb := mvR hbq HLb HRb
       replace HLb := mvL hbq HLb
       replace HRs := mvR hbq HLs HRs
       replace HLs := mvL hbq HLs
       replace HTq := Lib.hid (tmP_below hbq HTq.out)
       replace HC := mvC hbq HC
       replace HV := mvC hbq HV
       clear hbq ht8
       try (go_wp2_with fail)
       refine hK.out _ _ (hk.out _ HV.out) (fun hHeld => ?_)
       clear hK K
       try simp only [Act.put, s1q, s2q, s3q]
       refine take_in (i := 7) (v := ?_) rfl (by kernel_rfl) (by kernel_rfl) (by kernel_rfl) (fun _ _ _ h => by cases h.1) (by rfl) ?_ hHeld ?_
       rotate_left
       ·intro w hSw
        (try dsimp only at hSw)
        go_simp
        try with_reducible rfl
       try simp only [Act.put, s1q, s2q, s3q]
       refine take_in (i := 8) (v := ?_) rfl (by kernel_rfl) (by kernel_rfl) (by kernel_rfl) (fun _ _ _ h => by cases h.1) (by rfl) ?_ hHeld ?_
       rotate_left
       ·intro w hSw
        (try dsimp only at hSw)
        go_simp
        try with_reducible rfl
       try simp only [Act.put, s1q, s2q, s3q]
       refine take_in (i := 9) (v := ?_) rfl (by kernel_rfl) (by kernel_rfl) (by kernel_rfl) (fun _ _ _ h => by cases h.1) (by rfl) ?_ hHeld ?_
       rotate_left
       ·intro w hSw
        (try dsimp only at hSw)
        go_simp
        try with_reducible rfl
       try simp only [Act.put, s1q, s2q, s3q]
       refine call_in (i := 10) rfl (by kernel_rfl) (fun K hK => ?_)
       clear hHeld
       go_simp
       have hb7 := below_lit v59 (.cells #[.int .i64 0, .int .i64 0, .string ⟨#[]⟩, .slice none 0 0, .slice none 0 0] 25)
       have n0 := heap_alloc_new v59 (.cells #[.int .i64 0, .int .i64 0, .string ⟨#[]⟩, .slice none 0 0, .slice none 0 0] 25)
       try (go_wp2_with fail)
       refine hK.out _ _ (hk.out _ (HV.out.trans (hb7.mono HV.out.size))) (fun hHeld => ?_)
       clear hK K
       try simp only [Act.put, s1q, s2q, s3q]
       refine call_in (i := 11) rfl (by kernel_rfl) (fun K hK => ?_)
       clear hHeld
       go_simp
       have hb8 := below_lit v59 (.cells #[.int .i64 4, .int .i64 0, .string ⟨#[]⟩, .slice xa xl xc, .slice ya yl yc] 25)
       refine hK.out _ _ (hk.out _ (HV.out.trans (hb8.mono HV.out.size))) (fun hHeld => ?_)
       clear hK K
       try simp only [Act.put, s1q, s2q, s3q]
       refine take_in (i := 12) (v := ?_) rfl (by kernel_rfl) (by kernel_rfl) (by kernel_rfl) (fun _ _ _ h => by cases h.1) (by rfl) ?_ hHeld ?_
       rotate_left
       ·intro w hSw
        (try dsimp only at hSw)
        go_simp
        try with_reducible rfl
       try simp only [Act.put, s1q, s2q, s3q]
       refine wpAnyH_done (by kernel_rfl) ?_ _
       refine ⟨rfl, v59.heap.size, Bs, xa, xl, xc, ya, yl, yc, qa, ql, qc, ra, rl, rc, ⟨HV.out.size, by simp, HV.out.trans (hb8.mono HV.out.size), heap_alloc_new v59 _, ?_⟩, rfl⟩
       exact tmP_move (w := v59) (fun b hlt _ => ⟨by omega, hb8.block b hlt⟩) hb8.size _ _ _ HTx.out
      ·clear hHeld
       go_simp
       have hbq := below_lit v58 (.cells #[.int .i64 0, .int .i64 0, .string ⟨#[]⟩, .slice none 0 0, .slice none 0 0] 25)
       have hrx := heap_alloc_new v58 (.cells #[.int .i64 0, .int .i64 0, .string ⟨#[]⟩, .slice none 0 0, .slice none 0 0] 25)
       have hlx : v58.heap.size < (v58.alloc (.cells #[.int .i64 0, .int .i64 0, .string ⟨#[]⟩, .slice none 0 0, .slice none 0 0] 25)).heap.size := by simp
       have hsx : v4.heap.size ≤ v58.heap.size := HV.out.size
       try (go_wp2_with fail)
       generalize hgw : v58.alloc (.cells #[.int .i64 0, .int .i64 0, .string ⟨#[]⟩, .slice none 0 0, .slice none 0 0] 25) = v60 at *
       clear hgw
       replace HRa := mvR hbq HLa HRa
       replace HLa := mvL hbq HLa
       replace HRb := mvR hbq HLb HRb
       replace HLb := mvL hbq HLb
       replace HRs := mvR hbq HLs HRs
       replace HLs := mvL hbq HLs
       replace HTq := Lib.hid (tmP_below hbq HTq.out)
       replace HC := mvC hbq HC
       replace HV := mvC hbq HV
       have HRz := Lib.hid hrx
       have HLz := Lib.hid hlx
       clear hbq hrx hlx
       generalize hgb : v58.heap.size = Bo at *
       clear hgb
       have HSz := Lib.hid hsx
       clear hsx
       refine hK.out _ _ (hk.out _ HV.out) (fun hHeld => ?_)
       clear hK K
       try simp only [Act.put, s1q, s2q, s3q]
       refine call_in (i := 6) rfl (by kernel_rfl) (fun K hK => ?_)
       clear hHeld
       go_simp
       have hts : TsP v60 (fun _ => True) (some ⟨Bs, 0, none⟩) 0 [tca, tcb] := tsP_row (ts := [tca, tcb]) (ss := [(.slice none 0 0, .slice none 0 0), (.slice none 0 0, .slice none 0 0)]) rfl HRs.out trivial (fun i h1 h2 => by
        have : i = 0 ∨ i = 1 := by simp at h1; omega
        rcases this with rfl | rfl
        ·exact leaf_in 3 0 ⟨#[97]⟩ _
        ·exact leaf_in 3 0 ⟨#[98]⟩ _)
       refine (inst_is Nm.rightB (tap (tvr 1) (tvr 0)) _ _ _ 2 2 [tca, tcb] v60 HTq.out (nm_two 4 (nm_leaf 1 1 ⟨#[]⟩ (by decide)) (nm_leaf 1 0 ⟨#[]⟩ (by decide))) hts rfl (by decide) (by rw [nmOkL, nmOkL, nmOkL]; exact ⟨nm_leaf 3 0 ⟨#[97]⟩ (by decide), nm_leaf 3 0 ⟨#[98]⟩ (by decide), trivial⟩) (HCN.out.below HC.out) true HI1.out).mono ?_
       clear hts
       rintro e v61 ⟨hbq, hres⟩
       rw [if_pos rfl, al1] at hres
       obtain ⟨l8, s8, rfl, ht8⟩ := hres
       obtain ⟨⟨xa, xl, xc, rfl⟩, ya, yl, yc, rfl⟩ := tmP_slices ht8
       dsimp only [tv, tkOf, tnOf, tmOf]
       have HTx := Lib.hid (tmP_move (w := v61) (Q := fun b => b ≠ Bo) (fun b _ (hb : v60.heap.size ≤ b) => ⟨by have := HLz.out; omega, rfl⟩) (Nat.le_refl _) _ _ _ ht8)
       replace HRa := mvR hbq HLa HRa
       replace HLa := mvL hbq HLa
       replace HRb := mvR hbq HLb HRb
       replace HLb := mvL hbq HLb
       replace HRs := mvR hbq HLs HRs
       replace HLs := mvL hbq HLs
       replace HRz := mvR hbq HLz HRz
       replace HLz := mvL hbq HLz
       replace HTq := Lib.hid (tmP_below hbq HTq.out)
       replace HC := mvC hbq HC
       replace HV := mvC hbq HV
       clear hbq ht8
       try (go_wp2_with fail)
       refine hK.out _ _ (hk.out _ HV.out) (fun hHeld => ?_)
       clear hK K
       try simp only [Act.put, s1q, s2q, s3q]
       refine take_in (i := 7) (v := ?_) rfl (by kernel_rfl) (by kernel_rfl) (by kernel_rfl) (fun _ _ _ h => by cases h.1) (by rfl) ?_ hHeld ?_
       rotate_left
       ·intro w hSw
        (try dsimp only at hSw)
        go_simp
        try with_reducible rfl
       try simp only [Act.put, s1q, s2q, s3q]
       refine take_in (i := 8) (v := ?_) rfl (by kernel_rfl) (by kernel_rfl) (by kernel_rfl) (fun _ _ _ h => by cases h.1) (by rfl) ?_ hHeld ?_
       rotate_left
       ·intro w hSw
        (try dsimp only at hSw)
        go_simp
        try with_reducible rfl
       try simp only [Act.put, s1q, s2q, s3q]
       refine take_in (i := 9) (v := ?_) rfl (by kernel_rfl) (by kernel_rfl) (by kernel_rfl) (fun _ _ _ h => by cases h.1) (by rfl) ?_ hHeld ?_
       rotate_left
       ·intro w hSw
        (try dsimp only at hSw)
        go_simp
        try with_reducible rfl
       try simp only [Act.put, s1q, s2q, s3q]
       refine call_in (i := 11) rfl (by kernel_rfl) (fun K hK => ?_)
       clear hHeld
       obtain ⟨n0, n1, n2, n3, n4⟩ := five_cells HRz.out
       have m0 := frozen0 (p := 0) HRz.out
       have m1 := frozen0 (p := 1) HRz.out
       have m2 := frozen0 (p := 2) HRz.out
       have m3 := frozen0 (p := 3) HRz.out
       have m4 := frozen0 (p := 4) HRz.out
       go_simp
       have hb8 := set5_below (n₀ := v4.heap.size) HV.out Bo 0 (.int .i64 4) (.int .i64 0) (.string ⟨#[]⟩) (.slice xa xl xc) (.slice ya yl yc) HSz.out
       refine hK.out _ _ (hk.out _ hb8) (fun hHeld => ?_)
       clear hK K
       try simp only [Act.put, s1q, s2q, s3q]
       refine take_in (i := 12) (v := ?_) rfl (by kernel_rfl) (by kernel_rfl) (by kernel_rfl) (fun _ _ _ h => by cases h.1) (by rfl) ?_ hHeld ?_
       rotate_left
       ·intro w hSw
        (try dsimp only at hSw)
        go_simp
        try with_reducible rfl
       try simp only [Act.put, s1q, s2q, s3q]
       refine wpAnyH_done (by kernel_rfl) ?_ _
       refine ⟨rfl, Bo, Bs, xa, xl, xc, ya, yl, yc, qa, ql, qc, ra, rl, rc, ⟨HSz.out, by rw [set5_sz]; exact HLz.out, hb8, set5_row HRz.out, ?_⟩, rfl⟩
       exact tmP_move (w := v61) (fun b _ (hp : b ≠ Bo) => ⟨hp, set5_far' v61 Bo 0 b _ _ _ _ _ hp⟩) (by rw [set5_sz]; exact Nat.le_refl _) _ _ _ HTx.out
     ·clear hHeld
      go_simp
      have hbq := below_lit v57 (.cells #[.int .i64 0, .int .i64 0, .string ⟨#[]⟩, .slice none 0 0, .slice none 0 0] 25)
      have hrx := heap_alloc_new v57 (.cells #[.int .i64 0, .int .i64 0, .string ⟨#[]⟩, .slice none 0 0, .slice none 0 0] 25)
      have hlx : v57.heap.size < (v57.alloc (.cells #[.int .i64 0, .int .i64 0, .string ⟨#[]⟩, .slice none 0 0, .slice none 0 0] 25)).heap.size := by simp
      have hsx : v4.heap.size ≤ v57.heap.size := HV.out.size
      try (go_wp2_with fail)
      generalize hgw : v57.alloc (.cells #[.int .i64 0, .int .i64 0, .string ⟨#[]⟩, .slice none 0 0, .slice none 0 0] 25) = v62 at *
      clear hgw
      replace HRa := mvR hbq HLa HRa
      replace HLa := mvL hbq HLa
      replace HRb := mvR hbq HLb HRb
      replace HLb := mvL hbq HLb
      replace HRs := mvR hbq HLs HRs
      replace HLs := mvL hbq HLs
      replace HC := mvC hbq HC
      replace HV := mvC hbq HV
      have HRz := Lib.hid hrx
      have HLz := Lib.hid hlx
      clear hbq hrx hlx
      generalize hgb : v57.heap.size = Bo at *
      clear hgb
      have HSz := Lib.hid hsx
      clear hsx
      refine hK.out _ _ (hk.out _ HV.out) (fun hHeld => ?_)
      clear hK K
      try simp only [Act.put, s1q, s2q, s3q]
      refine call_in (i := 2) rfl (by kernel_rfl) (fun K hK => ?_)
      clear hHeld
      go_simp
      refine (h6_app (tvr 1) (tvr 0) _ _ _ _ _ (leaf_in 1 1 ⟨#[]⟩ _) (leaf_in 1 0 ⟨#[]⟩ _)).mono ?_
      rintro e v63 ⟨l9, s9, rfl, ht9, hbq⟩
      obtain ⟨⟨qa, ql, qc, rfl⟩, ra, rl, rc, rfl⟩ := tmP_slices ht9
      replace HRa := mvR hbq HLa HRa
      replace HLa := mvL hbq HLa
      replace HRb := mvR hbq HLb HRb
      replace HLb := mvL hbq HLb
      replace HRs := mvR hbq HLs HRs
      replace HLs := mvL hbq HLs
      replace HRz := mvR hbq HLz HRz
      replace HLz := mvL hbq HLz
      replace HC := mvC hbq HC
      replace HV := mvC hbq HV
      have HTq := Lib.hid ht9
      clear hbq ht9
      dsimp only [tv, tkOf, tnOf, tmOf]
      try (go_wp2_with fail)
      refine hK.out _ _ (hk.out _ HV.out) (fun hHeld => ?_)
      clear hK K
      try simp only [Act.put, s1q, s2q, s3q]
      refine call_in (i := 6) rfl (by kernel_rfl) (fun K hK => ?_)
      clear hHeld
      go_simp
      have hts : TsP v63 (fun _ => True) (some ⟨Bs, 0, none⟩) 0 [tca, tcb] := tsP_row (ts := [tca, tcb]) (ss := [(.slice none 0 0, .slice none 0 0), (.slice none 0 0, .slice none 0 0)]) rfl HRs.out trivial (fun i h1 h2 => by
       have : i = 0 ∨ i = 1 := by simp at h1; omega
       rcases this with rfl | rfl
       ·exact leaf_in 3 0 ⟨#[97]⟩ _
       ·exact leaf_in 3 0 ⟨#[98]⟩ _)
      refine (inst_is Nm.rightB (tap (tvr 1) (tvr 0)) _ _ _ 2 2 [tca, tcb] v63 HTq.out (nm_two 4 (nm_leaf 1 1 ⟨#[]⟩ (by decide)) (nm_leaf 1 0 ⟨#[]⟩ (by decide))) hts rfl (by decide) (by rw [nmOkL, nmOkL, nmOkL]; exact ⟨nm_leaf 3 0 ⟨#[97]⟩ (by decide), nm_leaf 3 0 ⟨#[98]⟩ (by decide), trivial⟩) (HCN.out.below HC.out) true HI1.out).mono ?_
      clear hts
      rintro e v64 ⟨hbq, hres⟩
      rw [if_pos rfl, al1] at hres
      obtain ⟨l8, s8, rfl, ht8⟩ := hres
      obtain ⟨⟨xa, xl, xc, rfl⟩, ya, yl, yc, rfl⟩ := tmP_slices ht8
      dsimp only [tv, tkOf, tnOf, tmOf]
      have HTx := Lib.hid (tmP_move (w := v64) (Q := fun b => b ≠ Bo) (fun b _ (hb : v63.heap.size ≤ b) => ⟨by have := HLz.out; omega, rfl⟩) (Nat.le_refl _) _ _ _ ht8)
      replace HRa := mvR hbq HLa HRa
      replace HLa := mvL hbq HLa
      replace HRb := mvR hbq HLb HRb
      replace HLb := mvL hbq HLb
      replace HRs := mvR hbq HLs HRs
      replace HLs := mvL hbq HLs
      replace HRz := mvR hbq HLz HRz
      replace HLz := mvL hbq HLz
      replace HTq := Lib.hid (tmP_below hbq HTq.out)
      replace HC := mvC hbq HC
      replace HV := mvC hbq HV
      clear hbq ht8
      try (go_wp2_with fail)
      refine hK.out _ _ (hk.out _ HV.out) (fun hHeld => ?_)
      clear hK K
      try simp only [Act.put, s1q, s2q, s3q]
      refine take_in (i := 7) (v := ?_) rfl (by kernel_rfl) (by kernel_rfl) (by kernel_rfl) (fun _ _ _ h => by cases h.1) (by rfl) ?_ hHeld ?_
      rotate_left
      ·intro w hSw
       (try dsimp only at hSw)
       go_simp
       try with_reducible rfl
      try simp only [Act.put, s1q, s2q, s3q]
      refine take_in (i := 8) (v := ?_) rfl (by kernel_rfl) (by kernel_rfl) (by kernel_rfl) (fun _ _ _ h => by cases h.1) (by rfl) ?_ hHeld ?_
      rotate_left
      ·intro w hSw
       (try dsimp only at hSw)
       go_simp
       try with_reducible rfl
      try simp only [Act.put, s1q, s2q, s3q]
      refine take_in (i := 9) (v := ?_) rfl (by kernel_rfl) (by kernel_rfl) (by kernel_rfl) (fun _ _ _ h => by cases h.1) (by rfl) ?_ hHeld ?_
      rotate_left
      ·intro w hSw
       (try dsimp only at hSw)
       go_simp
       try with_reducible rfl
      try simp only [Act.put, s1q, s2q, s3q]
      refine call_in (i := 11) rfl (by kernel_rfl) (fun K hK => ?_)
      clear hHeld
      obtain ⟨n0, n1, n2, n3, n4⟩ := five_cells HRz.out
      have m0 := frozen0 (p := 0) HRz.out
      have m1 := frozen0 (p := 1) HRz.out
      have m2 := frozen0 (p := 2) HRz.out
      have m3 := frozen0 (p := 3) HRz.out
      have m4 := frozen0 (p := 4) HRz.out
      go_simp
      have hb8 := set5_below (n₀ := v4.heap.size) HV.out Bo 0 (.int .i64 4) (.int .i64 0) (.string ⟨#[]⟩) (.slice xa xl xc) (.slice ya yl yc) HSz.out
      refine hK.out _ _ (hk.out _ hb8) (fun hHeld => ?_)
      clear hK K
      try simp only [Act.put, s1q, s2q, s3q]
      refine take_in (i := 12) (v := ?_) rfl (by kernel_rfl) (by kernel_rfl) (by kernel_rfl) (fun _ _ _ h => by cases h.1) (by rfl) ?_ hHeld ?_
      rotate_left
      ·intro w hSw
       (try dsimp only at hSw)
       go_simp
       try with_reducible rfl
      try simp only [Act.put, s1q, s2q, s3q]
      refine wpAnyH_done (by kernel_rfl) ?_ _
      refine ⟨rfl, Bo, Bs, xa, xl, xc, ya, yl, yc, qa, ql, qc, ra, rl, rc, ⟨HSz.out, by rw [set5_sz]; exact HLz.out, hb8, set5_row HRz.out, ?_⟩, rfl⟩
      exact tmP_move (w := v64) (fun b _ (hp : b ≠ Bo) => ⟨hp, set5_far' v64 Bo 0 b _ _ _ _ _ hp⟩) (by rw [set5_sz]; exact Nat.le_refl _) _ _ _ HTx.out
    ·clear hHeld
     go_simp
     have hbq := below_lit v56 (.cells #[.int .i64 0, .int .i64 0, .string ⟨#[]⟩, .slice none 0 0, .slice none 0 0] 25)
     have hrx := heap_alloc_new v56 (.cells #[.int .i64 0, .int .i64 0, .string ⟨#[]⟩, .slice none 0 0, .slice none 0 0] 25)
     have hlx : v56.heap.size < (v56.alloc (.cells #[.int .i64 0, .int .i64 0, .string ⟨#[]⟩, .slice none 0 0, .slice none 0 0] 25)).heap.size := by simp
     have hsx : v4.heap.size ≤ v56.heap.size := HV.out.size
     try (go_wp2_with fail)
     generalize hgw : v56.alloc (.cells #[.int .i64 0, .int .i64 0, .string ⟨#[]⟩, .slice none 0 0, .slice none 0 0] 25) = v65 at *
     clear hgw
     replace HRa := mvR hbq HLa HRa
     replace HLa := mvL hbq HLa
     replace HRb := mvR hbq HLb HRb
     replace HLb := mvL hbq HLb
     replace HRs := mvR hbq HLs HRs
     replace HLs := mvL hbq HLs
     replace HC := mvC hbq HC
     replace HV := mvC hbq HV
     have HRz := Lib.hid hrx
     have HLz := Lib.hid hlx
     clear hbq hrx hlx
     generalize hgb : v56.heap.size = Bo at *
     clear hgb
     have HSz := Lib.hid hsx
     clear hsx
     refine hK.out _ _ (hk.out _ HV.out) (fun hHeld => ?_)
     clear hK K
     try simp only [Act.put, s1q, s2q, s3q]
     refine call_in (i := 1) rfl (by kernel_rfl) (fun K hK => ?_)
     clear hHeld
     go_simp
     refine (h6_variable 0 _).mono ?_
     rintro e v66 ⟨rfl, _, hbq⟩
     replace HRa := mvR hbq HLa HRa
     replace HLa := mvL hbq HLa
     replace HRb := mvR hbq HLb HRb
     replace HLb := mvL hbq HLb
     replace HRs := mvR hbq HLs HRs
     replace HLs := mvL hbq HLs
     replace HRz := mvR hbq HLz HRz
     replace HLz := mvL hbq HLz
     replace HC := mvC hbq HC
     replace HV := mvC hbq HV
     clear hbq
     try (go_wp2_with fail)
     refine hK.out _ _ (hk.out _ HV.out) (fun hHeld => ?_)
     clear hK K
     try simp only [Act.put, s1q, s2q, s3q]
     refine call_in (i := 2) rfl (by kernel_rfl) (fun K hK => ?_)
     clear hHeld
     go_simp
     refine (h6_app (tvr 1) (tvr 0) _ _ _ _ _ (leaf_in 1 1 ⟨#[]⟩ _) (leaf_in 1 0 ⟨#[]⟩ _)).mono ?_
     rintro e v67 ⟨l9, s9, rfl, ht9, hbq⟩
     obtain ⟨⟨qa, ql, qc, rfl⟩, ra, rl, rc, rfl⟩ := tmP_slices ht9
     replace HRa := mvR hbq HLa HRa
     replace HLa := mvL hbq HLa
     replace HRb := mvR hbq HLb HRb
     replace HLb := mvL hbq HLb
     replace HRs := mvR hbq HLs HRs
     replace HLs := mvL hbq HLs
     replace HRz := mvR hbq HLz HRz
     replace HLz := mvL hbq HLz
     replace HC := mvC hbq HC
     replace HV := mvC hbq HV
     have HTq := Lib.hid ht9
     clear hbq ht9
     dsimp only [tv, tkOf, tnOf, tmOf]
     try (go_wp2_with fail)
     refine hK.out _ _ (hk.out _ HV.out) (fun hHeld => ?_)
     clear hK K
     try simp only [Act.put, s1q, s2q, s3q]
     refine call_in (i := 6) rfl (by kernel_rfl) (fun K hK => ?_)
     clear hHeld
     go_simp
     have hts : TsP v67 (fun _ => True) (some ⟨Bs, 0, none⟩) 0 [tca, tcb] := tsP_row (ts := [tca, tcb]) (ss := [(.slice none 0 0, .slice none 0 0), (.slice none 0 0, .slice none 0 0)]) rfl HRs.out trivial (fun i h1 h2 => by
      have : i = 0 ∨ i = 1 := by simp at h1; omega
      rcases this with rfl | rfl
      ·exact leaf_in 3 0 ⟨#[97]⟩ _
      ·exact leaf_in 3 0 ⟨#[98]⟩ _)
     refine (inst_is Nm.rightB (tap (tvr 1) (tvr 0)) _ _ _ 2 2 [tca, tcb] v67 HTq.out (nm_two 4 (nm_leaf 1 1 ⟨#[]⟩ (by decide)) (nm_leaf 1 0 ⟨#[]⟩ (by decide))) hts rfl (by decide) (by rw [nmOkL, nmOkL, nmOkL]; exact ⟨nm_leaf 3 0 ⟨#[97]⟩ (by decide), nm_leaf 3 0 ⟨#[98]⟩ (by decide), trivial⟩) (HCN.out.below HC.out) true HI1.out).mono ?_
     clear hts
     rintro e v68 ⟨hbq, hres⟩
     rw [if_pos rfl, al1] at hres
     obtain ⟨l8, s8, rfl, ht8⟩ := hres
     obtain ⟨⟨xa, xl, xc, rfl⟩, ya, yl, yc, rfl⟩ := tmP_slices ht8
     dsimp only [tv, tkOf, tnOf, tmOf]
     have HTx := Lib.hid (tmP_move (w := v68) (Q := fun b => b ≠ Bo) (fun b _ (hb : v67.heap.size ≤ b) => ⟨by have := HLz.out; omega, rfl⟩) (Nat.le_refl _) _ _ _ ht8)
     replace HRa := mvR hbq HLa HRa
     replace HLa := mvL hbq HLa
     replace HRb := mvR hbq HLb HRb
     replace HLb := mvL hbq HLb
     replace HRs := mvR hbq HLs HRs
     replace HLs := mvL hbq HLs
     replace HRz := mvR hbq HLz HRz
     replace HLz := mvL hbq HLz
     replace HTq := Lib.hid (tmP_below hbq HTq.out)
     replace HC := mvC hbq HC
     replace HV := mvC hbq HV
     clear hbq ht8
     try (go_wp2_with fail)
     refine hK.out _ _ (hk.out _ HV.out) (fun hHeld => ?_)
     clear hK K
     try simp only [Act.put, s1q, s2q, s3q]
     refine take_in (i := 7) (v := ?_) rfl (by kernel_rfl) (by kernel_rfl) (by kernel_rfl) (fun _ _ _ h => by cases h.1) (by rfl) ?_ hHeld ?_
     rotate_left
     ·intro w hSw
      (try dsimp only at hSw)
      go_simp
      try with_reducible rfl
     try simp only [Act.put, s1q, s2q, s3q]
     refine take_in (i := 8) (v := ?_) rfl (by kernel_rfl) (by kernel_rfl) (by kernel_rfl) (fun _ _ _ h => by cases h.1) (by rfl) ?_ hHeld ?_
     rotate_left
     ·intro w hSw
      (try dsimp only at hSw)
      go_simp
      try with_reducible rfl
     try simp only [Act.put, s1q, s2q, s3q]
     refine take_in (i := 9) (v := ?_) rfl (by kernel_rfl) (by kernel_rfl) (by kernel_rfl) (fun _ _ _ h => by cases h.1) (by rfl) ?_ hHeld ?_
     rotate_left
     ·intro w hSw
      (try dsimp only at hSw)
      go_simp
      try with_reducible rfl
     try simp only [Act.put, s1q, s2q, s3q]
     refine call_in (i := 11) rfl (by kernel_rfl) (fun K hK => ?_)
     clear hHeld
     obtain ⟨n0, n1, n2, n3, n4⟩ := five_cells HRz.out
     have m0 := frozen0 (p := 0) HRz.out
     have m1 := frozen0 (p := 1) HRz.out
     have m2 := frozen0 (p := 2) HRz.out
     have m3 := frozen0 (p := 3) HRz.out
     have m4 := frozen0 (p := 4) HRz.out
     go_simp
     have hb8 := set5_below (n₀ := v4.heap.size) HV.out Bo 0 (.int .i64 4) (.int .i64 0) (.string ⟨#[]⟩) (.slice xa xl xc) (.slice ya yl yc) HSz.out
     refine hK.out _ _ (hk.out _ hb8) (fun hHeld => ?_)
     clear hK K
     try simp only [Act.put, s1q, s2q, s3q]
     refine take_in (i := 12) (v := ?_) rfl (by kernel_rfl) (by kernel_rfl) (by kernel_rfl) (fun _ _ _ h => by cases h.1) (by rfl) ?_ hHeld ?_
     rotate_left
     ·intro w hSw
      (try dsimp only at hSw)
      go_simp
      try with_reducible rfl
     try simp only [Act.put, s1q, s2q, s3q]
     refine wpAnyH_done (by kernel_rfl) ?_ _
     refine ⟨rfl, Bo, Bs, xa, xl, xc, ya, yl, yc, qa, ql, qc, ra, rl, rc, ⟨HSz.out, by rw [set5_sz]; exact HLz.out, hb8, set5_row HRz.out, ?_⟩, rfl⟩
     exact tmP_move (w := v68) (fun b _ (hp : b ≠ Bo) => ⟨hp, set5_far' v68 Bo 0 b _ _ _ _ _ hp⟩) (by rw [set5_sz]; exact Nat.le_refl _) _ _ _ HTx.out
   ·clear hHeld
    go_simp
    have hbq := below_lit v55 (.cells #[.int .i64 0, .int .i64 0, .string ⟨#[]⟩, .slice none 0 0, .slice none 0 0] 25)
    have hrx := heap_alloc_new v55 (.cells #[.int .i64 0, .int .i64 0, .string ⟨#[]⟩, .slice none 0 0, .slice none 0 0] 25)
    have hlx : v55.heap.size < (v55.alloc (.cells #[.int .i64 0, .int .i64 0, .string ⟨#[]⟩, .slice none 0 0, .slice none 0 0] 25)).heap.size := by simp
    have hsx : v4.heap.size ≤ v55.heap.size := HV.out.size
    try (go_wp2_with fail)
    generalize hgw : v55.alloc (.cells #[.int .i64 0, .int .i64 0, .string ⟨#[]⟩, .slice none 0 0, .slice none 0 0] 25) = v69 at *
    clear hgw
    replace HRa := mvR hbq HLa HRa
    replace HLa := mvL hbq HLa
    replace HRb := mvR hbq HLb HRb
    replace HLb := mvL hbq HLb
    replace HRs := mvR hbq HLs HRs
    replace HLs := mvL hbq HLs
    replace HC := mvC hbq HC
    replace HV := mvC hbq HV
    have HRz := Lib.hid hrx
    have HLz := Lib.hid hlx
    clear hbq hrx hlx
    generalize hgb : v55.heap.size = Bo at *
    clear hgb
    have HSz := Lib.hid hsx
    clear hsx
    refine hK.out _ _ (hk.out _ HV.out) (fun hHeld => ?_)
    clear hK K
    try simp only [Act.put, s1q, s2q, s3q]
    refine call_in (i := 0) rfl (by kernel_rfl) (fun K hK => ?_)
    clear hHeld
    go_simp
    refine (h6_variable 1 _).mono ?_
    rintro e v70 ⟨rfl, _, hbq⟩
    replace HRa := mvR hbq HLa HRa
    replace HLa := mvL hbq HLa
    replace HRb := mvR hbq HLb HRb
    replace HLb := mvL hbq HLb
    replace HRs := mvR hbq HLs HRs
    replace HLs := mvL hbq HLs
    replace HRz := mvR hbq HLz HRz
    replace HLz := mvL hbq HLz
    replace HC := mvC hbq HC
    replace HV := mvC hbq HV
    clear hbq
    try (go_wp2_with fail)
    refine hK.out _ _ (hk.out _ HV.out) (fun hHeld => ?_)
    clear hK K
    try simp only [Act.put, s1q, s2q, s3q]
    refine call_in (i := 1) rfl (by kernel_rfl) (fun K hK => ?_)
    clear hHeld
    go_simp
    refine (h6_variable 0 _).mono ?_
    rintro e v71 ⟨rfl, _, hbq⟩
    replace HRa := mvR hbq HLa HRa
    replace HLa := mvL hbq HLa
    replace HRb := mvR hbq HLb HRb
    replace HLb := mvL hbq HLb
    replace HRs := mvR hbq HLs HRs
    replace HLs := mvL hbq HLs
    replace HRz := mvR hbq HLz HRz
    replace HLz := mvL hbq HLz
    replace HC := mvC hbq HC
    replace HV := mvC hbq HV
    clear hbq
    try (go_wp2_with fail)
    refine hK.out _ _ (hk.out _ HV.out) (fun hHeld => ?_)
    clear hK K
    try simp only [Act.put, s1q, s2q, s3q]
    refine call_in (i := 2) rfl (by kernel_rfl) (fun K hK => ?_)
    clear hHeld
    go_simp
    refine (h6_app (tvr 1) (tvr 0) _ _ _ _ _ (leaf_in 1 1 ⟨#[]⟩ _) (leaf_in 1 0 ⟨#[]⟩ _)).mono ?_
    rintro e v72 ⟨l9, s9, rfl, ht9, hbq⟩
    obtain ⟨⟨qa, ql, qc, rfl⟩, ra, rl, rc, rfl⟩ := tmP_slices ht9
    replace HRa := mvR hbq HLa HRa
    replace HLa := mvL hbq HLa
    replace HRb := mvR hbq HLb HRb
    replace HLb := mvL hbq HLb
    replace HRs := mvR hbq HLs HRs
    replace HLs := mvL hbq HLs
    replace HRz := mvR hbq HLz HRz
    replace HLz := mvL hbq HLz
    replace HC := mvC hbq HC
    replace HV := mvC hbq HV
    have HTq := Lib.hid ht9
    clear hbq ht9
    dsimp only [tv, tkOf, tnOf, tmOf]
    try (go_wp2_with fail)
    refine hK.out _ _ (hk.out _ HV.out) (fun hHeld => ?_)
    clear hK K
    try simp only [Act.put, s1q, s2q, s3q]
    refine call_in (i := 6) rfl (by kernel_rfl) (fun K hK => ?_)
    clear hHeld
    go_simp
    have hts : TsP v72 (fun _ => True) (some ⟨Bs, 0, none⟩) 0 [tca, tcb] := tsP_row (ts := [tca, tcb]) (ss := [(.slice none 0 0, .slice none 0 0), (.slice none 0 0, .slice none 0 0)]) rfl HRs.out trivial (fun i h1 h2 => by
     have : i = 0 ∨ i = 1 := by simp at h1; omega
     rcases this with rfl | rfl
     ·exact leaf_in 3 0 ⟨#[97]⟩ _
     ·exact leaf_in 3 0 ⟨#[98]⟩ _)
    refine (inst_is Nm.rightB (tap (tvr 1) (tvr 0)) _ _ _ 2 2 [tca, tcb] v72 HTq.out (nm_two 4 (nm_leaf 1 1 ⟨#[]⟩ (by decide)) (nm_leaf 1 0 ⟨#[]⟩ (by decide))) hts rfl (by decide) (by rw [nmOkL, nmOkL, nmOkL]; exact ⟨nm_leaf 3 0 ⟨#[97]⟩ (by decide), nm_leaf 3 0 ⟨#[98]⟩ (by decide), trivial⟩) (HCN.out.below HC.out) true HI1.out).mono ?_
    clear hts
    rintro e v73 ⟨hbq, hres⟩
    rw [if_pos rfl, al1] at hres
    obtain ⟨l8, s8, rfl, ht8⟩ := hres
    obtain ⟨⟨xa, xl, xc, rfl⟩, ya, yl, yc, rfl⟩ := tmP_slices ht8
    dsimp only [tv, tkOf, tnOf, tmOf]
    have HTx := Lib.hid (tmP_move (w := v73) (Q := fun b => b ≠ Bo) (fun b _ (hb : v72.heap.size ≤ b) => ⟨by have := HLz.out; omega, rfl⟩) (Nat.le_refl _) _ _ _ ht8)
    replace HRa := mvR hbq HLa HRa
    replace HLa := mvL hbq HLa
    replace HRb := mvR hbq HLb HRb
    replace HLb := mvL hbq HLb
    replace HRs := mvR hbq HLs HRs
    replace HLs := mvL hbq HLs
    replace HRz := mvR hbq HLz HRz
    replace HLz := mvL hbq HLz
    replace HTq := Lib.hid (tmP_below hbq HTq.out)
    replace HC := mvC hbq HC
    replace HV := mvC hbq HV
    clear hbq ht8
    try (go_wp2_with fail)
    refine hK.out _ _ (hk.out _ HV.out) (fun hHeld => ?_)
    clear hK K
    try simp only [Act.put, s1q, s2q, s3q]
    refine take_in (i := 7) (v := ?_) rfl (by kernel_rfl) (by kernel_rfl) (by kernel_rfl) (fun _ _ _ h => by cases h.1) (by rfl) ?_ hHeld ?_
    rotate_left
    ·intro w hSw
     (try dsimp only at hSw)
     go_simp
     try with_reducible rfl
    try simp only [Act.put, s1q, s2q, s3q]
    refine take_in (i := 8) (v := ?_) rfl (by kernel_rfl) (by kernel_rfl) (by kernel_rfl) (fun _ _ _ h => by cases h.1) (by rfl) ?_ hHeld ?_
    rotate_left
    ·intro w hSw
     (try dsimp only at hSw)
     go_simp
     try with_reducible rfl
    try simp only [Act.put, s1q, s2q, s3q]
    refine take_in (i := 9) (v := ?_) rfl (by kernel_rfl) (by kernel_rfl) (by kernel_rfl) (fun _ _ _ h => by cases h.1) (by rfl) ?_ hHeld ?_
    rotate_left
    ·intro w hSw
     (try dsimp only at hSw)
     go_simp
     try with_reducible rfl
    try simp only [Act.put, s1q, s2q, s3q]
    refine call_in (i := 11) rfl (by kernel_rfl) (fun K hK => ?_)
    clear hHeld
    obtain ⟨n0, n1, n2, n3, n4⟩ := five_cells HRz.out
    have m0 := frozen0 (p := 0) HRz.out
    have m1 := frozen0 (p := 1) HRz.out
    have m2 := frozen0 (p := 2) HRz.out
    have m3 := frozen0 (p := 3) HRz.out
    have m4 := frozen0 (p := 4) HRz.out
    go_simp
    have hb8 := set5_below (n₀ := v4.heap.size) HV.out Bo 0 (.int .i64 4) (.int .i64 0) (.string ⟨#[]⟩) (.slice xa xl xc) (.slice ya yl yc) HSz.out
    refine hK.out _ _ (hk.out _ hb8) (fun hHeld => ?_)
    clear hK K
    try simp only [Act.put, s1q, s2q, s3q]
    refine take_in (i := 12) (v := ?_) rfl (by kernel_rfl) (by kernel_rfl) (by kernel_rfl) (fun _ _ _ h => by cases h.1) (by rfl) ?_ hHeld ?_
    rotate_left
    ·intro w hSw
     (try dsimp only at hSw)
     go_simp
     try with_reducible rfl
    try simp only [Act.put, s1q, s2q, s3q]
    refine wpAnyH_done (by kernel_rfl) ?_ _
    refine ⟨rfl, Bo, Bs, xa, xl, xc, ya, yl, yc, qa, ql, qc, ra, rl, rc, ⟨HSz.out, by rw [set5_sz]; exact HLz.out, hb8, set5_row HRz.out, ?_⟩, rfl⟩
    exact tmP_move (w := v73) (fun b _ (hp : b ≠ Bo) => ⟨hp, set5_far' v73 Bo 0 b _ _ _ _ _ hp⟩) (by rw [set5_sz]; exact Nat.le_refl _) _ _ _ HTx.out
  ·clear hHeld
   go_simp
   have hbq := below_lit v0 (.cells #[.int .i64 0, .int .i64 0, .string ⟨#[]⟩, .slice none 0 0, .slice none 0 0] 25)
   have hrx := heap_alloc_new v0 (.cells #[.int .i64 0, .int .i64 0, .string ⟨#[]⟩, .slice none 0 0, .slice none 0 0] 25)
   have hlx : v0.heap.size < (v0.alloc (.cells #[.int .i64 0, .int .i64 0, .string ⟨#[]⟩, .slice none 0 0, .slice none 0 0] 25)).heap.size := by simp
   have hsx : v4.heap.size ≤ v0.heap.size := HV.out.size
   try (go_wp2_with fail)
   generalize hgw : v0.alloc (.cells #[.int .i64 0, .int .i64 0, .string ⟨#[]⟩, .slice none 0 0, .slice none 0 0] 25) = v74 at *
   clear hgw
   replace HRa := mvR hbq HLa HRa
   replace HLa := mvL hbq HLa
   replace HRb := mvR hbq HLb HRb
   replace HLb := mvL hbq HLb
   replace HC := mvC hbq HC
   replace HV := mvC hbq HV
   have HRz := Lib.hid hrx
   have HLz := Lib.hid hlx
   clear hbq hrx hlx
   generalize hgb : v0.heap.size = Bo at *
   clear hgb
   have HSz := Lib.hid hsx
   clear hsx
   refine hK.out _ _ (hk.out _ HV.out) (fun hHeld => ?_)
   clear hK K
   try simp only [Act.put, s1q, s2q, s3q]
   refine two_in (i := 0) (j := 5) rfl rfl (by kernel_rfl) (fun K hK => ?_) (fun K hK => ?_)
   ·clear hHeld
    go_simp
    refine (h6_variable 1 _).mono ?_
    rintro e v75 ⟨rfl, _, hbq⟩
    replace HRa := mvR hbq HLa HRa
    replace HLa := mvL hbq HLa
    replace HRb := mvR hbq HLb HRb
    replace HLb := mvL hbq HLb
    replace HRz := mvR hbq HLz HRz
    replace HLz := mvL hbq HLz
    replace HC := mvC hbq HC
    replace HV := mvC hbq HV
    clear hbq
    try (go_wp2_with fail)
    refine hK.out _ _ (hk.out _ HV.out) (fun hHeld => ?_)
    clear hK K
    try simp only [Act.put, s1q, s2q, s3q]
    refine two_in (i := 1) (j := 5) rfl rfl (by kernel_rfl) (fun K hK => ?_) (fun K hK => ?_)
    ·clear hHeld
     go_simp
     refine (h6_variable 0 _).mono ?_
     rintro e v76 ⟨rfl, _, hbq⟩
     replace HRa := mvR hbq HLa HRa
     replace HLa := mvL hbq HLa
     replace HRb := mvR hbq HLb HRb
     replace HLb := mvL hbq HLb
     replace HRz := mvR hbq HLz HRz
     replace HLz := mvL hbq HLz
     replace HC := mvC hbq HC
     replace HV := mvC hbq HV
     clear hbq
     try (go_wp2_with fail)
     refine hK.out _ _ (hk.out _ HV.out) (fun hHeld => ?_)
     clear hK K
     try simp only [Act.put, s1q, s2q, s3q]
     refine two_in (i := 2) (j := 5) rfl rfl (by kernel_rfl) (fun K hK => ?_) (fun K hK => ?_)
     ·clear hHeld
      go_simp
      refine (h6_app (tvr 1) (tvr 0) _ _ _ _ _ (leaf_in 1 1 ⟨#[]⟩ _) (leaf_in 1 0 ⟨#[]⟩ _)).mono ?_
      rintro e v77 ⟨l9, s9, rfl, ht9, hbq⟩
      obtain ⟨⟨qa, ql, qc, rfl⟩, ra, rl, rc, rfl⟩ := tmP_slices ht9
      replace HRa := mvR hbq HLa HRa
      replace HLa := mvL hbq HLa
      replace HRb := mvR hbq HLb HRb
      replace HLb := mvL hbq HLb
      replace HRz := mvR hbq HLz HRz
      replace HLz := mvL hbq HLz
      replace HC := mvC hbq HC
      replace HV := mvC hbq HV
      have HTq := Lib.hid ht9
      clear hbq ht9
      dsimp only [tv, tkOf, tnOf, tmOf]
      try (go_wp2_with fail)
      refine hK.out _ _ (hk.out _ HV.out) (fun hHeld => ?_)
      clear hK K
      try simp only [Act.put, s1q, s2q, s3q]
      refine call_in (i := 5) rfl (by kernel_rfl) (fun K hK => ?_)
      clear hHeld
      go_simp
      have hbq := below_lit v77 (.cells #[.int .i64 3, .int .i64 0, .string ⟨#[97]⟩, .slice none 0 0, .slice none 0 0, .int .i64 3, .int .i64 0, .string ⟨#[98]⟩, .slice none 0 0, .slice none 0 0] 25)
      have hrx := heap_alloc_new v77 (.cells #[.int .i64 3, .int .i64 0, .string ⟨#[97]⟩, .slice none 0 0, .slice none 0 0, .int .i64 3, .int .i64 0, .string ⟨#[98]⟩, .slice none 0 0, .slice none 0 0] 25)
      have hlx : v77.heap.size < (v77.alloc (.cells #[.int .i64 3, .int .i64 0, .string ⟨#[97]⟩, .slice none 0 0, .slice none 0 0, .int .i64 3, .int .i64 0, .string ⟨#[98]⟩, .slice none 0 0, .slice none 0 0] 25)).heap.size := by simp
      try (go_wp2_with fail)
      generalize hgw : v77.alloc (.cells #[.int .i64 3, .int .i64 0, .string ⟨#[97]⟩, .slice none 0 0, .slice none 0 0, .int .i64 3, .int .i64 0, .string ⟨#[98]⟩, .slice none 0 0, .slice none 0 0] 25) = v78 at *
      clear hgw
      replace HRa := mvR hbq HLa HRa
      replace HLa := mvL hbq HLa
      replace HRb := mvR hbq HLb HRb
      replace HLb := mvL hbq HLb
      replace HRz := mvR hbq HLz HRz
      replace HLz := mvL hbq HLz
      replace HTq := Lib.hid (tmP_below hbq HTq.out)
      replace HC := mvC hbq HC
      replace HV := mvC hbq HV
      have HRs := Lib.hid hrx
      have HLs := Lib.hid hlx
      clear hbq hrx hlx
      generalize hgb : v77.heap.size = Bs at *
      clear hgb
      refine hK.out _ _ (hk.out _ HV.out) (fun hHeld => ?_)
      clear hK K
      try simp only [Act.put, s1q, s2q, s3q]
      refine call_in (i := 6) rfl (by kernel_rfl) (fun K hK => ?_)
      clear hHeld
      go_simp
      have hts : TsP v78 (fun _ => True) (some ⟨Bs, 0, none⟩) 0 [tca, tcb] := tsP_row (ts := [tca, tcb]) (ss := [(.slice none 0 0, .slice none 0 0), (.slice none 0 0, .slice none 0 0)]) rfl HRs.out trivial (fun i h1 h2 => by
       have : i = 0 ∨ i = 1 := by simp at h1; omega
       rcases this with rfl | rfl
       ·exact leaf_in 3 0 ⟨#[97]⟩ _
       ·exact leaf_in 3 0 ⟨#[98]⟩ _)
      refine (inst_is Nm.rightB (tap (tvr 1) (tvr 0)) _ _ _ 2 2 [tca, tcb] v78 HTq.out (nm_two 4 (nm_leaf 1 1 ⟨#[]⟩ (by decide)) (nm_leaf 1 0 ⟨#[]⟩ (by decide))) hts rfl (by decide) (by rw [nmOkL, nmOkL, nmOkL]; exact ⟨nm_leaf 3 0 ⟨#[97]⟩ (by decide), nm_leaf 3 0 ⟨#[98]⟩ (by decide), trivial⟩) (HCN.out.below HC.out) true HI1.out).mono ?_
      clear hts
      rintro e v79 ⟨hbq, hres⟩
      rw [if_pos rfl, al1] at hres
      obtain ⟨l8, s8, rfl, ht8⟩ := hres
      obtain ⟨⟨xa, xl, xc, rfl⟩, ya, yl, yc, rfl⟩ := tmP_slices ht8
      dsimp only [tv, tkOf, tnOf, tmOf]
      have HTx := Lib.hid (tmP_move (w := v79) (Q := fun b => b ≠ Bo) (fun b _ (hb : v78.heap.size ≤ b) => ⟨by have := HLz.out; omega, rfl⟩) (Nat.le_refl _) _ _ _ ht8)
      replace HRa := mvR hbq HLa HRa
      replace HLa := mvL hbq HLa
      replace HRb := mvR hbq HLb HRb
      replace HLb := mvL hbq HLb
      replace HRz := mvR hbq HLz HRz
      replace HLz := mvL hbq HLz
      replace HRs := mvR hbq HLs HRs
      replace HLs := mvL hbq HLs
      replace HTq := Lib.hid (tmP_below hbq HTq.out)
      replace HC := mvC hbq HC
      replace HV := mvC hbq HV
      clear hbq ht8
      try (go_wp2_with fail)
      refine hK.out _ _ (hk.out _ HV.out) (fun hHeld => ?_)
      clear hK K
      try simp only [Act.put, s1q, s2q, s3q]
      refine take_in (i := 7) (v := ?_) rfl (by kernel_rfl) (by kernel_rfl) (by kernel_rfl) (fun _ _ _ h => by cases h.1) (by rfl) ?_ hHeld ?_
      rotate_left
      ·intro w hSw
       (try dsimp only at hSw)
       go_simp
       try with_reducible rfl
      try simp only [Act.put, s1q, s2q, s3q]
      refine take_in (i := 8) (v := ?_) rfl (by kernel_rfl) (by kernel_rfl) (by kernel_rfl) (fun _ _ _ h => by cases h.1) (by rfl) ?_ hHeld ?_
      rotate_left
      ·intro w hSw
       (try dsimp only at hSw)
       go_simp
       try with_reducible rfl
      try simp only [Act.put, s1q, s2q, s3q]
      refine take_in (i := 9) (v := ?_) rfl (by kernel_rfl) (by kernel_rfl) (by kernel_rfl) (fun _ _ _ h => by cases h.1) (by rfl) ?_ hHeld ?_
      rotate_left
      ·intro w hSw
       (try dsimp only at hSw)
       go_simp
       try with_reducible rfl
      try simp only [Act.put, s1q, s2q, s3q]
      refine call_in (i := 11) rfl (by kernel_rfl) (fun K hK => ?_)
      clear hHeld
      obtain ⟨n0, n1, n2, n3, n4⟩ := five_cells HRz.out
      have m0 := frozen0 (p := 0) HRz.out
      have m1 := frozen0 (p := 1) HRz.out
      have m2 := frozen0 (p := 2) HRz.out
      have m3 := frozen0 (p := 3) HRz.out
      have m4 := frozen0 (p := 4) HRz.out
      go_simp
      have hb8 := set5_below (n₀ := v4.heap.size) HV.out Bo 0 (.int .i64 4) (.int .i64 0) (.string ⟨#[]⟩) (.slice xa xl xc) (.slice ya yl yc) HSz.out
      refine hK.out _ _ (hk.out _ hb8) (fun hHeld => ?_)
      clear hK K
      try simp only [Act.put, s1q, s2q, s3q]
      refine take_in (i := 12) (v := ?_) rfl (by kernel_rfl) (by kernel_rfl) (by kernel_rfl) (fun _ _ _ h => by cases h.1) (by rfl) ?_ hHeld ?_
      rotate_left
      ·intro w hSw
       (try dsimp only at hSw)
       go_simp
       try with_reducible rfl
      try simp only [Act.put, s1q, s2q, s3q]
      refine wpAnyH_done (by kernel_rfl) ?_ _
      refine ⟨rfl, Bo, Bs, xa, xl, xc, ya, yl, yc, qa, ql, qc, ra, rl, rc, ⟨HSz.out, by rw [set5_sz]; exact HLz.out, hb8, set5_row HRz.out, ?_⟩, rfl⟩
      exact tmP_move (w := v79) (fun b _ (hp : b ≠ Bo) => ⟨hp, set5_far' v79 Bo 0 b _ _ _ _ _ hp⟩) (by rw [set5_sz]; exact Nat.le_refl _) _ _ _ HTx.out
     ·clear hHeld
      go_simp
      have hbq := below_lit v76 (.cells #[.int .i64 3, .int .i64 0, .string ⟨#[97]⟩, .slice none 0 0, .slice none 0 0, .int .i64 3, .int .i64 0, .string ⟨#[98]⟩, .slice none 0 0, .slice none 0 0] 25)
      have hrx := heap_alloc_new v76 (.cells #[.int .i64 3, .int .i64 0, .string ⟨#[97]⟩, .slice none 0 0, .slice none 0 0, .int .i64 3, .int .i64 0, .string ⟨#[98]⟩, .slice none 0 0, .slice none 0 0] 25)
      have hlx : v76.heap.size < (v76.alloc (.cells #[.int .i64 3, .int .i64 0, .string ⟨#[97]⟩, .slice none 0 0, .slice none 0 0, .int .i64 3, .int .i64 0, .string ⟨#[98]⟩, .slice none 0 0, .slice none 0 0] 25)).heap.size := by simp
      try (go_wp2_with fail)
      generalize hgw : v76.alloc (.cells #[.int .i64 3, .int .i64 0, .string ⟨#[97]⟩, .slice none 0 0, .slice none 0 0, .int .i64 3, .int .i64 0, .string ⟨#[98]⟩, .slice none 0 0, .slice none 0 0] 25) = v80 at *
      clear hgw
      replace HRa := mvR hbq HLa HRa
      replace HLa := mvL hbq HLa
      replace HRb := mvR hbq HLb HRb
      replace HLb := mvL hbq HLb
      replace HRz := mvR hbq HLz HRz
      replace HLz := mvL hbq HLz
      replace HC := mvC hbq HC
      replace HV := mvC hbq HV
      have HRs := Lib.hid hrx
      have HLs := Lib.hid hlx
      clear hbq hrx hlx
      generalize hgb : v76.heap.size = Bs at *
      clear hgb
      refine hK.out _ _ (hk.out _ HV.out) (fun hHeld => ?_)
      clear hK K
      try simp only [Act.put, s1q, s2q, s3q]
      refine call_in (i := 2) rfl (by kernel_rfl) (fun K hK => ?_)
      clear hHeld
      go_simp
      refine (h6_app (tvr 1) (tvr 0) _ _ _ _ _ (leaf_in 1 1 ⟨#[]⟩ _) (leaf_in 1 0 ⟨#[]⟩ _)).mono ?_
      rintro e v81 ⟨l9, s9, rfl, ht9, hbq⟩
      obtain ⟨⟨qa, ql, qc, rfl⟩, ra, rl, rc, rfl⟩ := tmP_slices ht9
      replace HRa := mvR hbq HLa HRa
      replace HLa := mvL hbq HLa
      replace HRb := mvR hbq HLb HRb
      replace HLb := mvL hbq HLb
      replace HRz := mvR hbq HLz HRz
      replace HLz := mvL hbq HLz
      replace HRs := mvR hbq HLs HRs
      replace HLs := mvL hbq HLs
      replace HC := mvC hbq HC
      replace HV := mvC hbq HV
      have HTq := Lib.hid ht9
      clear hbq ht9
      dsimp only [tv, tkOf, tnOf, tmOf]
      try (go_wp2_with fail)
      refine hK.out _ _ (hk.out _ HV.out) (fun hHeld => ?_)
      clear hK K
      try simp only [Act.put, s1q, s2q, s3q]
      refine call_in (i := 6) rfl (by kernel_rfl) (fun K hK => ?_)
      clear hHeld
      go_simp
      have hts : TsP v81 (fun _ => True) (some ⟨Bs, 0, none⟩) 0 [tca, tcb] := tsP_row (ts := [tca, tcb]) (ss := [(.slice none 0 0, .slice none 0 0), (.slice none 0 0, .slice none 0 0)]) rfl HRs.out trivial (fun i h1 h2 => by
       have : i = 0 ∨ i = 1 := by simp at h1; omega
       rcases this with rfl | rfl
       ·exact leaf_in 3 0 ⟨#[97]⟩ _
       ·exact leaf_in 3 0 ⟨#[98]⟩ _)
      refine (inst_is Nm.rightB (tap (tvr 1) (tvr 0)) _ _ _ 2 2 [tca, tcb] v81 HTq.out (nm_two 4 (nm_leaf 1 1 ⟨#[]⟩ (by decide)) (nm_leaf 1 0 ⟨#[]⟩ (by decide))) hts rfl (by decide) (by rw [nmOkL, nmOkL, nmOkL]; exact ⟨nm_leaf 3 0 ⟨#[97]⟩ (by decide), nm_leaf 3 0 ⟨#[98]⟩ (by decide), trivial⟩) (HCN.out.below HC.out) true HI1.out).mono ?_
      clear hts
      rintro e v82 ⟨hbq, hres⟩
      rw [if_pos rfl, al1] at hres
      obtain ⟨l8, s8, rfl, ht8⟩ := hres
      obtain ⟨⟨xa, xl, xc, rfl⟩, ya, yl, yc, rfl⟩ := tmP_slices ht8
      dsimp only [tv, tkOf, tnOf, tmOf]
      have HTx := Lib.hid (tmP_move (w := v82) (Q := fun b => b ≠ Bo) (fun b _ (hb : v81.heap.size ≤ b) => ⟨by have := HLz.out; omega, rfl⟩) (Nat.le_refl _) _ _ _ ht8)
      replace HRa := mvR hbq HLa HRa
      replace HLa := mvL hbq HLa
      replace HRb := mvR hbq HLb HRb
      replace HLb := mvL hbq HLb
      replace HRz := mvR hbq HLz HRz
      replace HLz := mvL hbq HLz
      replace HRs := mvR hbq HLs HRs
      replace HLs := mvL hbq HLs
      replace HTq := Lib.hid (tmP_below hbq HTq.out)
      replace HC := mvC hbq HC
      replace HV := mvC hbq HV
      clear hbq ht8
      try (go_wp2_with fail)
      refine hK.out _ _ (hk.out _ HV.out) (fun hHeld => ?_)
      clear hK K
      try simp only [Act.put, s1q, s2q, s3q]
      refine take_in (i := 7) (v := ?_) rfl (by kernel_rfl) (by kernel_rfl) (by kernel_rfl) (fun _ _ _ h => by cases h.1) (by rfl) ?_ hHeld ?_
      rotate_left
      ·intro w hSw
       (try dsimp only at hSw)
       go_simp
       try with_reducible rfl
      try simp only [Act.put, s1q, s2q, s3q]
      refine take_in (i := 8) (v := ?_) rfl (by kernel_rfl) (by kernel_rfl) (by kernel_rfl) (fun _ _ _ h => by cases h.1) (by rfl) ?_ hHeld ?_
      rotate_left
      ·intro w hSw
       (try dsimp only at hSw)
       go_simp
       try with_reducible rfl
      try simp only [Act.put, s1q, s2q, s3q]
      refine take_in (i := 9) (v := ?_) rfl (by kernel_rfl) (by kernel_rfl) (by kernel_rfl) (fun _ _ _ h => by cases h.1) (by rfl) ?_ hHeld ?_
      rotate_left
      ·intro w hSw
       (try dsimp only at hSw)
       go_simp
       try with_reducible rfl
      try simp only [Act.put, s1q, s2q, s3q]
      refine call_in (i := 11) rfl (by kernel_rfl) (fun K hK => ?_)
      clear hHeld
      obtain ⟨n0, n1, n2, n3, n4⟩ := five_cells HRz.out
      have m0 := frozen0 (p := 0) HRz.out
      have m1 := frozen0 (p := 1) HRz.out
      have m2 := frozen0 (p := 2) HRz.out
      have m3 := frozen0 (p := 3) HRz.out
      have m4 := frozen0 (p := 4) HRz.out
      go_simp
      have hb8 := set5_below (n₀ := v4.heap.size) HV.out Bo 0 (.int .i64 4) (.int .i64 0) (.string ⟨#[]⟩) (.slice xa xl xc) (.slice ya yl yc) HSz.out
      refine hK.out _ _ (hk.out _ hb8) (fun hHeld => ?_)
      clear hK K
      try simp only [Act.put, s1q, s2q, s3q]
      refine take_in (i := 12) (v := ?_) rfl (by kernel_rfl) (by kernel_rfl) (by kernel_rfl) (fun _ _ _ h => by cases h.1) (by rfl) ?_ hHeld ?_
      rotate_left
      ·intro w hSw
       (try dsimp only at hSw)
       go_simp
       try with_reducible rfl
      try simp only [Act.put, s1q, s2q, s3q]
      refine wpAnyH_done (by kernel_rfl) ?_ _
      refine ⟨rfl, Bo, Bs, xa, xl, xc, ya, yl, yc, qa, ql, qc, ra, rl, rc, ⟨HSz.out, by rw [set5_sz]; exact HLz.out, hb8, set5_row HRz.out, ?_⟩, rfl⟩
      exact tmP_move (w := v82) (fun b _ (hp : b ≠ Bo) => ⟨hp, set5_far' v82 Bo 0 b _ _ _ _ _ hp⟩) (by rw [set5_sz]; exact Nat.le_refl _) _ _ _ HTx.out
    ·clear hHeld
     go_simp
     have hbq := below_lit v75 (.cells #[.int .i64 3, .int .i64 0, .string ⟨#[97]⟩, .slice none 0 0, .slice none 0 0, .int .i64 3, .int .i64 0, .string ⟨#[98]⟩, .slice none 0 0, .slice none 0 0] 25)
     have hrx := heap_alloc_new v75 (.cells #[.int .i64 3, .int .i64 0, .string ⟨#[97]⟩, .slice none 0 0, .slice none 0 0, .int .i64 3, .int .i64 0, .string ⟨#[98]⟩, .slice none 0 0, .slice none 0 0] 25)
     have hlx : v75.heap.size < (v75.alloc (.cells #[.int .i64 3, .int .i64 0, .string ⟨#[97]⟩, .slice none 0 0, .slice none 0 0, .int .i64 3, .int .i64 0, .string ⟨#[98]⟩, .slice none 0 0, .slice none 0 0] 25)).heap.size := by simp
     try (go_wp2_with fail)
     generalize hgw : v75.alloc (.cells #[.int .i64 3, .int .i64 0, .string ⟨#[97]⟩, .slice none 0 0, .slice none 0 0, .int .i64 3, .int .i64 0, .string ⟨#[98]⟩, .slice none 0 0, .slice none 0 0] 25) = v83 at *
     clear hgw
     replace HRa := mvR hbq HLa HRa
     replace HLa := mvL hbq HLa
     replace HRb := mvR hbq HLb HRb
     replace HLb := mvL hbq HLb
     replace HRz := mvR hbq HLz HRz
     replace HLz := mvL hbq HLz
     replace HC := mvC hbq HC
     replace HV := mvC hbq HV
     have HRs := Lib.hid hrx
     have HLs := Lib.hid hlx
     clear hbq hrx hlx
     generalize hgb : v75.heap.size = Bs at *
     clear hgb
     refine hK.out _ _ (hk.out _ HV.out) (fun hHeld => ?_)
     clear hK K
     try simp only [Act.put, s1q, s2q, s3q]
     refine call_in (i := 1) rfl (by kernel_rfl) (fun K hK => ?_)
     clear hHeld
     go_simp
     refine (h6_variable 0 _).mono ?_
     rintro e v84 ⟨rfl, _, hbq⟩
     replace HRa := mvR hbq HLa HRa
     replace HLa := mvL hbq HLa
     replace HRb := mvR hbq HLb HRb
     replace HLb := mvL hbq HLb
     replace HRz := mvR hbq HLz HRz
     replace HLz := mvL hbq HLz
     replace HRs := mvR hbq HLs HRs
     replace HLs := mvL hbq HLs
     replace HC := mvC hbq HC
     replace HV := mvC hbq HV
     clear hbq
     try (go_wp2_with fail)
     refine hK.out _ _ (hk.out _ HV.out) (fun hHeld => ?_)
     clear hK K
     try simp only [Act.put, s1q, s2q, s3q]
     refine call_in (i := 2) rfl (by kernel_rfl) (fun K hK => ?_)
     clear hHeld
     go_simp
     refine (h6_app (tvr 1) (tvr 0) _ _ _ _ _ (leaf_in 1 1 ⟨#[]⟩ _) (leaf_in 1 0 ⟨#[]⟩ _)).mono ?_
     rintro e v85 ⟨l9, s9, rfl, ht9, hbq⟩
     obtain ⟨⟨qa, ql, qc, rfl⟩, ra, rl, rc, rfl⟩ := tmP_slices ht9
     replace HRa := mvR hbq HLa HRa
     replace HLa := mvL hbq HLa
     replace HRb := mvR hbq HLb HRb
     replace HLb := mvL hbq HLb
     replace HRz := mvR hbq HLz HRz
     replace HLz := mvL hbq HLz
     replace HRs := mvR hbq HLs HRs
     replace HLs := mvL hbq HLs
     replace HC := mvC hbq HC
     replace HV := mvC hbq HV
     have HTq := Lib.hid ht9
     clear hbq ht9
     dsimp only [tv, tkOf, tnOf, tmOf]
     try (go_wp2_with fail)
     refine hK.out _ _ (hk.out _ HV.out) (fun hHeld => ?_)
     clear hK K
     try simp only [Act.put, s1q, s2q, s3q]
     refine call_in (i := 6) rfl (by kernel_rfl) (fun K hK => ?_)
     clear hHeld
     go_simp
     have hts : TsP v85 (fun _ => True) (some ⟨Bs, 0, none⟩) 0 [tca, tcb] := tsP_row (ts := [tca, tcb]) (ss := [(.slice none 0 0, .slice none 0 0), (.slice none 0 0, .slice none 0 0)]) rfl HRs.out trivial (fun i h1 h2 => by
      have : i = 0 ∨ i = 1 := by simp at h1; omega
      rcases this with rfl | rfl
      ·exact leaf_in 3 0 ⟨#[97]⟩ _
      ·exact leaf_in 3 0 ⟨#[98]⟩ _)
     refine (inst_is Nm.rightB (tap (tvr 1) (tvr 0)) _ _ _ 2 2 [tca, tcb] v85 HTq.out (nm_two 4 (nm_leaf 1 1 ⟨#[]⟩ (by decide)) (nm_leaf 1 0 ⟨#[]⟩ (by decide))) hts rfl (by decide) (by rw [nmOkL, nmOkL, nmOkL]; exact ⟨nm_leaf 3 0 ⟨#[97]⟩ (by decide), nm_leaf 3 0 ⟨#[98]⟩ (by decide), trivial⟩) (HCN.out.below HC.out) true HI1.out).mono ?_
     clear hts
     rintro e v86 ⟨hbq, hres⟩
     rw [if_pos rfl, al1] at hres
     obtain ⟨l8, s8, rfl, ht8⟩ := hres
     obtain ⟨⟨xa, xl, xc, rfl⟩, ya, yl, yc, rfl⟩ := tmP_slices ht8
     dsimp only [tv, tkOf, tnOf, tmOf]
     have HTx := Lib.hid (tmP_move (w := v86) (Q := fun b => b ≠ Bo) (fun b _ (hb : v85.heap.size ≤ b) => ⟨by have := HLz.out; omega, rfl⟩) (Nat.le_refl _) _ _ _ ht8)
     replace HRa := mvR hbq HLa HRa
     replace HLa := mvL hbq HLa
     replace HRb := mvR hbq HLb HRb
     replace HLb := mvL hbq HLb
     replace HRz := mvR hbq HLz HRz
     replace HLz := mvL hbq HLz
     replace HRs := mvR hbq HLs HRs
     replace HLs := mvL hbq HLs
     replace HTq := Lib.hid (tmP_below hbq HTq.out)
     replace HC := mvC hbq HC
     replace HV := mvC hbq HV
     clear hbq ht8
     try (go_wp2_with fail)
     refine hK.out _ _ (hk.out _ HV.out) (fun hHeld => ?_)
     clear hK K
     try simp only [Act.put, s1q, s2q, s3q]
     refine take_in (i := 7) (v := ?_) rfl (by kernel_rfl) (by kernel_rfl) (by kernel_rfl) (fun _ _ _ h => by cases h.1) (by rfl) ?_ hHeld ?_
     rotate_left
     ·intro w hSw
      (try dsimp only at hSw)
      go_simp
      try with_reducible rfl
     try simp only [Act.put, s1q, s2q, s3q]
     refine take_in (i := 8) (v := ?_) rfl (by kernel_rfl) (by kernel_rfl) (by kernel_rfl) (fun _ _ _ h => by cases h.1) (by rfl) ?_ hHeld ?_
     rotate_left
     ·intro w hSw
      (try dsimp only at hSw)
      go_simp
      try with_reducible rfl
     try simp only [Act.put, s1q, s2q, s3q]
     refine take_in (i := 9) (v := ?_) rfl (by kernel_rfl) (by kernel_rfl) (by kernel_rfl) (fun _ _ _ h => by cases h.1) (by rfl) ?_ hHeld ?_
     rotate_left
     ·intro w hSw
      (try dsimp only at hSw)
      go_simp
      try with_reducible rfl
     try simp only [Act.put, s1q, s2q, s3q]
     refine call_in (i := 11) rfl (by kernel_rfl) (fun K hK => ?_)
     clear hHeld
     obtain ⟨n0, n1, n2, n3, n4⟩ := five_cells HRz.out
     have m0 := frozen0 (p := 0) HRz.out
     have m1 := frozen0 (p := 1) HRz.out
     have m2 := frozen0 (p := 2) HRz.out
     have m3 := frozen0 (p := 3) HRz.out
     have m4 := frozen0 (p := 4) HRz.out
     go_simp
     have hb8 := set5_below (n₀ := v4.heap.size) HV.out Bo 0 (.int .i64 4) (.int .i64 0) (.string ⟨#[]⟩) (.slice xa xl xc) (.slice ya yl yc) HSz.out
     refine hK.out _ _ (hk.out _ hb8) (fun hHeld => ?_)
     clear hK K
     try simp only [Act.put, s1q, s2q, s3q]
     refine take_in (i := 12) (v := ?_) rfl (by kernel_rfl) (by kernel_rfl) (by kernel_rfl) (fun _ _ _ h => by cases h.1) (by rfl) ?_ hHeld ?_
     rotate_left
     ·intro w hSw
      (try dsimp only at hSw)
      go_simp
      try with_reducible rfl
     try simp only [Act.put, s1q, s2q, s3q]
     refine wpAnyH_done (by kernel_rfl) ?_ _
     refine ⟨rfl, Bo, Bs, xa, xl, xc, ya, yl, yc, qa, ql, qc, ra, rl, rc, ⟨HSz.out, by rw [set5_sz]; exact HLz.out, hb8, set5_row HRz.out, ?_⟩, rfl⟩
     exact tmP_move (w := v86) (fun b _ (hp : b ≠ Bo) => ⟨hp, set5_far' v86 Bo 0 b _ _ _ _ _ hp⟩) (by rw [set5_sz]; exact Nat.le_refl _) _ _ _ HTx.out
   ·clear hHeld
    go_simp
    have hbq := below_lit v74 (.cells #[.int .i64 3, .int .i64 0, .string ⟨#[97]⟩, .slice none 0 0, .slice none 0 0, .int .i64 3, .int .i64 0, .string ⟨#[98]⟩, .slice none 0 0, .slice none 0 0] 25)
    have hrx := heap_alloc_new v74 (.cells #[.int .i64 3, .int .i64 0, .string ⟨#[97]⟩, .slice none 0 0, .slice none 0 0, .int .i64 3, .int .i64 0, .string ⟨#[98]⟩, .slice none 0 0, .slice none 0 0] 25)
    have hlx : v74.heap.size < (v74.alloc (.cells #[.int .i64 3, .int .i64 0, .string ⟨#[97]⟩, .slice none 0 0, .slice none 0 0, .int .i64 3, .int .i64 0, .string ⟨#[98]⟩, .slice none 0 0, .slice none 0 0] 25)).heap.size := by simp
    try (go_wp2_with fail)
    generalize hgw : v74.alloc (.cells #[.int .i64 3, .int .i64 0, .string ⟨#[97]⟩, .slice none 0 0, .slice none 0 0, .int .i64 3, .int .i64 0, .string ⟨#[98]⟩, .slice none 0 0, .slice none 0 0] 25) = v87 at *
    clear hgw
    replace HRa := mvR hbq HLa HRa
    replace HLa := mvL hbq HLa
    replace HRb := mvR hbq HLb HRb
    replace HLb := mvL hbq HLb
    replace HRz := mvR hbq HLz HRz
    replace HLz := mvL hbq HLz
    replace HC := mvC hbq HC
    replace HV := mvC hbq HV
    have HRs := Lib.hid hrx
    have HLs := Lib.hid hlx
    clear hbq hrx hlx
    generalize hgb : v74.heap.size = Bs at *
    clear hgb
    refine hK.out _ _ (hk.out _ HV.out) (fun hHeld => ?_)
    clear hK K
    try simp only [Act.put, s1q, s2q, s3q]
    refine call_in (i := 0) rfl (by kernel_rfl) (fun K hK => ?_)
    clear hHeld
    go_simp
    refine (h6_variable 1 _).mono ?_
    rintro e v88 ⟨rfl, _, hbq⟩
    replace HRa := mvR hbq HLa HRa
    replace HLa := mvL hbq HLa
    replace HRb := mvR hbq HLb HRb
    replace HLb := mvL hbq HLb
    replace HRz := mvR hbq HLz HRz
    replace HLz := mvL hbq HLz
    replace HRs := mvR hbq HLs HRs
    replace HLs := mvL hbq HLs
    replace HC := mvC hbq HC
    replace HV := mvC hbq HV
    clear hbq
    try (go_wp2_with fail)
    refine hK.out _ _ (hk.out _ HV.out) (fun hHeld => ?_)
    clear hK K
    try simp only [Act.put, s1q, s2q, s3q]
    refine call_in (i := 1) rfl (by kernel_rfl) (fun K hK => ?_)
    clear hHeld
    go_simp
    refine (h6_variable 0 _).mono ?_
    rintro e v89 ⟨rfl, _, hbq⟩
    replace HRa := mvR hbq HLa HRa
    replace HLa := mvL hbq HLa
    replace HRb := mvR hbq HLb HRb
    replace HLb := mvL hbq HLb
    replace HRz := mvR hbq HLz HRz
    replace HLz := mvL hbq HLz
    replace HRs := mvR hbq HLs HRs
    replace HLs := mvL hbq HLs
    replace HC := mvC hbq HC
    replace HV := mvC hbq HV
    clear hbq
    try (go_wp2_with fail)
    refine hK.out _ _ (hk.out _ HV.out) (fun hHeld => ?_)
    clear hK K
    try simp only [Act.put, s1q, s2q, s3q]
    refine call_in (i := 2) rfl (by kernel_rfl) (fun K hK => ?_)
    clear hHeld
    go_simp
    refine (h6_app (tvr 1) (tvr 0) _ _ _ _ _ (leaf_in 1 1 ⟨#[]⟩ _) (leaf_in 1 0 ⟨#[]⟩ _)).mono ?_
    rintro e v90 ⟨l9, s9, rfl, ht9, hbq⟩
    obtain ⟨⟨qa, ql, qc, rfl⟩, ra, rl, rc, rfl⟩ := tmP_slices ht9
    replace HRa := mvR hbq HLa HRa
    replace HLa := mvL hbq HLa
    replace HRb := mvR hbq HLb HRb
    replace HLb := mvL hbq HLb
    replace HRz := mvR hbq HLz HRz
    replace HLz := mvL hbq HLz
    replace HRs := mvR hbq HLs HRs
    replace HLs := mvL hbq HLs
    replace HC := mvC hbq HC
    replace HV := mvC hbq HV
    have HTq := Lib.hid ht9
    clear hbq ht9
    dsimp only [tv, tkOf, tnOf, tmOf]
    try (go_wp2_with fail)
    refine hK.out _ _ (hk.out _ HV.out) (fun hHeld => ?_)
    clear hK K
    try simp only [Act.put, s1q, s2q, s3q]
    refine call_in (i := 6) rfl (by kernel_rfl) (fun K hK => ?_)
    clear hHeld
    go_simp
    have hts : TsP v90 (fun _ => True) (some ⟨Bs, 0, none⟩) 0 [tca, tcb] := tsP_row (ts := [tca, tcb]) (ss := [(.slice none 0 0, .slice none 0 0), (.slice none 0 0, .slice none 0 0)]) rfl HRs.out trivial (fun i h1 h2 => by
     have : i = 0 ∨ i = 1 := by simp at h1; omega
     rcases this with rfl | rfl
     ·exact leaf_in 3 0 ⟨#[97]⟩ _
     ·exact leaf_in 3 0 ⟨#[98]⟩ _)
    refine (inst_is Nm.rightB (tap (tvr 1) (tvr 0)) _ _ _ 2 2 [tca, tcb] v90 HTq.out (nm_two 4 (nm_leaf 1 1 ⟨#[]⟩ (by decide)) (nm_leaf 1 0 ⟨#[]⟩ (by decide))) hts rfl (by decide) (by rw [nmOkL, nmOkL, nmOkL]; exact ⟨nm_leaf 3 0 ⟨#[97]⟩ (by decide), nm_leaf 3 0 ⟨#[98]⟩ (by decide), trivial⟩) (HCN.out.below HC.out) true HI1.out).mono ?_
    clear hts
    rintro e v91 ⟨hbq, hres⟩
    rw [if_pos rfl, al1] at hres
    obtain ⟨l8, s8, rfl, ht8⟩ := hres
    obtain ⟨⟨xa, xl, xc, rfl⟩, ya, yl, yc, rfl⟩ := tmP_slices ht8
    dsimp only [tv, tkOf, tnOf, tmOf]
    have HTx := Lib.hid (tmP_move (w := v91) (Q := fun b => b ≠ Bo) (fun b _ (hb : v90.heap.size ≤ b) => ⟨by have := HLz.out; omega, rfl⟩) (Nat.le_refl _) _ _ _ ht8)
    replace HRa := mvR hbq HLa HRa
    replace HLa := mvL hbq HLa
    replace HRb := mvR hbq HLb HRb
    replace HLb := mvL hbq HLb
    replace HRz := mvR hbq HLz HRz
    replace HLz := mvL hbq HLz
    replace HRs := mvR hbq HLs HRs
    replace HLs := mvL hbq HLs
    replace HTq := Lib.hid (tmP_below hbq HTq.out)
    replace HC := mvC hbq HC
    replace HV := mvC hbq HV
    clear hbq ht8
    try (go_wp2_with fail)
    refine hK.out _ _ (hk.out _ HV.out) (fun hHeld => ?_)
    clear hK K
    try simp only [Act.put, s1q, s2q, s3q]
    refine take_in (i := 7) (v := ?_) rfl (by kernel_rfl) (by kernel_rfl) (by kernel_rfl) (fun _ _ _ h => by cases h.1) (by rfl) ?_ hHeld ?_
    rotate_left
    ·intro w hSw
     (try dsimp only at hSw)
     go_simp
     try with_reducible rfl
    try simp only [Act.put, s1q, s2q, s3q]
    refine take_in (i := 8) (v := ?_) rfl (by kernel_rfl) (by kernel_rfl) (by kernel_rfl) (fun _ _ _ h => by cases h.1) (by rfl) ?_ hHeld ?_
    rotate_left
    ·intro w hSw
     (try dsimp only at hSw)
     go_simp
     try with_reducible rfl
    try simp only [Act.put, s1q, s2q, s3q]
    refine take_in (i := 9) (v := ?_) rfl (by kernel_rfl) (by kernel_rfl) (by kernel_rfl) (fun _ _ _ h => by cases h.1) (by rfl) ?_ hHeld ?_
    rotate_left
    ·intro w hSw
     (try dsimp only at hSw)
     go_simp
     try with_reducible rfl
    try simp only [Act.put, s1q, s2q, s3q]
    refine call_in (i := 11) rfl (by kernel_rfl) (fun K hK => ?_)
    clear hHeld
    obtain ⟨n0, n1, n2, n3, n4⟩ := five_cells HRz.out
    have m0 := frozen0 (p := 0) HRz.out
    have m1 := frozen0 (p := 1) HRz.out
    have m2 := frozen0 (p := 2) HRz.out
    have m3 := frozen0 (p := 3) HRz.out
    have m4 := frozen0 (p := 4) HRz.out
    go_simp
    have hb8 := set5_below (n₀ := v4.heap.size) HV.out Bo 0 (.int .i64 4) (.int .i64 0) (.string ⟨#[]⟩) (.slice xa xl xc) (.slice ya yl yc) HSz.out
    refine hK.out _ _ (hk.out _ hb8) (fun hHeld => ?_)
    clear hK K
    try simp only [Act.put, s1q, s2q, s3q]
    refine take_in (i := 12) (v := ?_) rfl (by kernel_rfl) (by kernel_rfl) (by kernel_rfl) (fun _ _ _ h => by cases h.1) (by rfl) ?_ hHeld ?_
    rotate_left
    ·intro w hSw
     (try dsimp only at hSw)
     go_simp
     try with_reducible rfl
    try simp only [Act.put, s1q, s2q, s3q]
    refine wpAnyH_done (by kernel_rfl) ?_ _
    refine ⟨rfl, Bo, Bs, xa, xl, xc, ya, yl, yc, qa, ql, qc, ra, rl, rc, ⟨HSz.out, by rw [set5_sz]; exact HLz.out, hb8, set5_row HRz.out, ?_⟩, rfl⟩
    exact tmP_move (w := v91) (fun b _ (hp : b ≠ Bo) => ⟨hp, set5_far' v91 Bo 0 b _ _ _ _ _ hp⟩) (by rw [set5_sz]; exact Nat.le_refl _) _ _ _ HTx.out
 case rest =>
  rintro e a7 W4 ⟨rfl, Bo, Bs, xa, xl, xc, ya, yl, yc, qa, ql, qc, ra, rl, rc, ⟨hBo, hBo2, hb4, hro, htx⟩, rfl⟩
  have HTx := Lib.hid (tmP_weak (Q := fun _ => True) (fun _ _ => trivial) htx)
  have HRx := Lib.hid hro
  have HLx := Lib.hid hBo2
  have hbq := hb4
  clear htx hro hBo hBo2 hb4 hk
  replace HRa := mvR hbq HLa HRa
  replace HLa := mvL hbq HLa
  replace HRb := mvR hbq HLb HRb
  replace HLb := mvL hbq HLb
  replace HC := mvC hbq HC
  clear hbq
  obtain ⟨ca0, ca1, ca2, ca3, ca4⟩ := five_cells HRa.out
  obtain ⟨cb0, cb1, cb2, cb3, cb4⟩ := five_cells HRb.out
  go_wp2_with fail
  refine (h6_app tca tcb _ _ _ _ _ (leaf_in 3 0 ⟨#[97]⟩ _) (leaf_in 3 0 ⟨#[98]⟩ _)).mono ?_
  rintro e v201 ⟨l9, s9, rfl, ht9, hbq⟩
  obtain ⟨⟨p1, p2, p3, rfl⟩, p4, p5, p6, rfl⟩ := tmP_slices ht9
  replace HRa := mvR hbq HLa HRa
  replace HLa := mvL hbq HLa
  replace HRb := mvR hbq HLb HRb
  replace HLb := mvL hbq HLb
  replace HRx := mvR hbq HLx HRx
  replace HLx := mvL hbq HLx
  replace HTx := Lib.hid (tmP_below hbq HTx.out)
  replace HC := mvC hbq HC
  have HTp := Lib.hid ht9
  clear hbq ht9
  dsimp only [tv, tkOf, tnOf, tmOf]
  clear ca0 ca1 ca2 ca3 ca4 cb0 cb1 cb2 cb3 cb4
  have hbq := below_lit v201 (.cells #[.string ⟨#[97]⟩, .string ⟨#[98]⟩] 9)
  have hxx := Lib.hid (txt_lit v201 [⟨#[97]⟩, ⟨#[98]⟩] #[.string ⟨#[97]⟩, .string ⟨#[98]⟩] rfl)
  go_wp2_with fail
  generalize hgw : v201.alloc (.cells #[.string ⟨#[97]⟩, .string ⟨#[98]⟩] 9) = v202 at *
  clear hgw
  replace HRa := mvR hbq HLa HRa
  replace HLa := mvL hbq HLa
  replace HRb := mvR hbq HLb HRb
  replace HLb := mvL hbq HLb
  replace HRx := mvR hbq HLx HRx
  replace HLx := mvL hbq HLx
  replace HTx := Lib.hid (tmP_below hbq HTx.out)
  replace HTp := Lib.hid (tmP_below hbq HTp.out)
  replace HC := mvC hbq HC
  clear hbq
  refine (abstract_is Nm.rightB (tap tca tcb) _ _ _ 2 2 [⟨#[97]⟩, ⟨#[98]⟩] _ HTp.out (nm_two 4 (nm_leaf 3 0 ⟨#[97]⟩ (by decide)) (nm_leaf 3 0 ⟨#[98]⟩ (by decide))) hxx.out (by decide) rfl (by decide) (HCN.out.below HC.out) true al9).mono ?_
  rintro e v203 ⟨hbq, hres⟩
  rw [if_pos rfl, al2] at hres
  obtain ⟨l9, s9, rfl, ht9⟩ := hres
  obtain ⟨⟨y1, y2, y3, rfl⟩, y4, y5, y6, rfl⟩ := tmP_slices ht9
  replace HRa := mvR hbq HLa HRa
  replace HLa := mvL hbq HLa
  replace HRb := mvR hbq HLb HRb
  replace HLb := mvL hbq HLb
  replace HRx := mvR hbq HLx HRx
  replace HLx := mvL hbq HLx
  replace HTx := Lib.hid (tmP_below hbq HTx.out)
  replace HTp := Lib.hid (tmP_below hbq HTp.out)
  replace HC := mvC hbq HC
  have HTy := Lib.hid (tmP_weak (Q := fun _ => True) (fun _ _ => trivial) ht9)
  clear hbq ht9
  dsimp only [tv, tkOf, tnOf, tmOf]
  clear hxx
  have hbq := below_lit v203 (.cells #[.int .i64 4, .int .i64 0, .string ⟨#[]⟩, .slice y1 y2 y3, .slice y4 y5 y6] 25)
  have hrx := heap_alloc_new v203 (.cells #[.int .i64 4, .int .i64 0, .string ⟨#[]⟩, .slice y1 y2 y3, .slice y4 y5 y6] 25)
  have hlx : v203.heap.size < (v203.alloc (.cells #[.int .i64 4, .int .i64 0, .string ⟨#[]⟩, .slice y1 y2 y3, .slice y4 y5 y6] 25)).heap.size := by simp
  go_wp2_with fail
  generalize hgw : v203.alloc (.cells #[.int .i64 4, .int .i64 0, .string ⟨#[]⟩, .slice y1 y2 y3, .slice y4 y5 y6] 25) = v204 at *
  clear hgw
  replace HRa := mvR hbq HLa HRa
  replace HLa := mvL hbq HLa
  replace HRb := mvR hbq HLb HRb
  replace HLb := mvL hbq HLb
  replace HRx := mvR hbq HLx HRx
  replace HLx := mvL hbq HLx
  replace HTx := Lib.hid (tmP_below hbq HTx.out)
  replace HTp := Lib.hid (tmP_below hbq HTp.out)
  replace HTy := Lib.hid (tmP_below hbq HTy.out)
  replace HC := mvC hbq HC
  have HRy := Lib.hid hrx
  have HLy := Lib.hid hlx
  clear hbq hrx hlx
  generalize hgb : v203.heap.size = By at *
  clear hgb
  refine (h6_variable 0 _).mono ?_
  rintro e v205 ⟨rfl, _, hbq⟩
  replace HRa := mvR hbq HLa HRa
  replace HLa := mvL hbq HLa
  replace HRb := mvR hbq HLb HRb
  replace HLb := mvL hbq HLb
  replace HRx := mvR hbq HLx HRx
  replace HLx := mvL hbq HLx
  replace HRy := mvR hbq HLy HRy
  replace HLy := mvL hbq HLy
  replace HTx := Lib.hid (tmP_below hbq HTx.out)
  replace HTp := Lib.hid (tmP_below hbq HTp.out)
  replace HTy := Lib.hid (tmP_below hbq HTy.out)
  replace HC := mvC hbq HC
  clear hbq
  dsimp only [tv, tkOf, tnOf, tmOf]
  go_wp2_with fail
  refine (h6_variable 0 _).mono ?_
  rintro e v206 ⟨rfl, _, hbq⟩
  replace HRa := mvR hbq HLa HRa
  replace HLa := mvL hbq HLa
  replace HRb := mvR hbq HLb HRb
  replace HLb := mvL hbq HLb
  replace HRx := mvR hbq HLx HRx
  replace HLx := mvL hbq HLx
  replace HRy := mvR hbq HLy HRy
  replace HLy := mvL hbq HLy
  replace HTx := Lib.hid (tmP_below hbq HTx.out)
  replace HTp := Lib.hid (tmP_below hbq HTp.out)
  replace HTy := Lib.hid (tmP_below hbq HTy.out)
  replace HC := mvC hbq HC
  clear hbq
  dsimp only [tv, tkOf, tnOf, tmOf]
  go_wp2_with fail
  refine (h6_variable 1 _).mono ?_
  rintro e v207 ⟨rfl, _, hbq⟩
  replace HRa := mvR hbq HLa HRa
  replace HLa := mvL hbq HLa
  replace HRb := mvR hbq HLb HRb
  replace HLb := mvL hbq HLb
  replace HRx := mvR hbq HLx HRx
  replace HLx := mvL hbq HLx
  replace HRy := mvR hbq HLy HRy
  replace HLy := mvL hbq HLy
  replace HTx := Lib.hid (tmP_below hbq HTx.out)
  replace HTp := Lib.hid (tmP_below hbq HTp.out)
  replace HTy := Lib.hid (tmP_below hbq HTy.out)
  replace HC := mvC hbq HC
  clear hbq
  dsimp only [tv, tkOf, tnOf, tmOf]
  go_wp2_with fail
  refine (h6_app (tvr 0) (tvr 1) _ _ _ _ _ (leaf_in 1 0 ⟨#[]⟩ _) (leaf_in 1 1 ⟨#[]⟩ _)).mono ?_
  rintro e v208 ⟨l9, s9, rfl, ht9, hbq⟩
  obtain ⟨⟨f1, f2, f3, rfl⟩, f4, f5, f6, rfl⟩ := tmP_slices ht9
  replace HRa := mvR hbq HLa HRa
  replace HLa := mvL hbq HLa
  replace HRb := mvR hbq HLb HRb
  replace HLb := mvL hbq HLb
  replace HRx := mvR hbq HLx HRx
  replace HLx := mvL hbq HLx
  replace HRy := mvR hbq HLy HRy
  replace HLy := mvL hbq HLy
  replace HTx := Lib.hid (tmP_below hbq HTx.out)
  replace HTp := Lib.hid (tmP_below hbq HTp.out)
  replace HTy := Lib.hid (tmP_below hbq HTy.out)
  replace HC := mvC hbq HC
  have HTf := Lib.hid ht9
  clear hbq ht9
  dsimp only [tv, tkOf, tnOf, tmOf]
  go_wp2_with fail
  refine (h6_lam (tvr 0) (tap (tvr 0) (tvr 1)) _ _ _ _ _ (leaf_in 1 0 ⟨#[]⟩ _) HTf.out).mono ?_
  rintro e v209 ⟨l9, s9, rfl, ht9, hbq⟩
  obtain ⟨⟨g1, g2, g3, rfl⟩, g4, g5, g6, rfl⟩ := tmP_slices ht9
  replace HRa := mvR hbq HLa HRa
  replace HLa := mvL hbq HLa
  replace HRb := mvR hbq HLb HRb
  replace HLb := mvL hbq HLb
  replace HRx := mvR hbq HLx HRx
  replace HLx := mvL hbq HLx
  replace HRy := mvR hbq HLy HRy
  replace HLy := mvL hbq HLy
  replace HTx := Lib.hid (tmP_below hbq HTx.out)
  replace HTp := Lib.hid (tmP_below hbq HTp.out)
  replace HTy := Lib.hid (tmP_below hbq HTy.out)
  replace HTf := Lib.hid (tmP_below hbq HTf.out)
  replace HC := mvC hbq HC
  have HTg := Lib.hid ht9
  clear hbq ht9
  dsimp only [tv, tkOf, tnOf, tmOf]
  go_wp2_with fail
  refine (lift_is Nm.rightB 3 0 tz0 _ _ _ HTg.out (nm_two 5 (nm_leaf 1 0 ⟨#[]⟩ (by decide)) (nm_two 4 (nm_leaf 1 0 ⟨#[]⟩ (by decide)) (nm_leaf 1 1 ⟨#[]⟩ (by decide)))) (HCN.out.below HC.out) true al10).mono ?_
  rintro e v210 ⟨hbq, hres⟩
  rw [if_pos rfl, al3] at hres
  obtain ⟨l9, s9, rfl, ht9⟩ := hres
  obtain ⟨⟨z1, z2, z3, rfl⟩, z4, z5, z6, rfl⟩ := tmP_slices ht9
  replace HRa := mvR hbq HLa HRa
  replace HLa := mvL hbq HLa
  replace HRb := mvR hbq HLb HRb
  replace HLb := mvL hbq HLb
  replace HRx := mvR hbq HLx HRx
  replace HLx := mvL hbq HLx
  replace HRy := mvR hbq HLy HRy
  replace HLy := mvL hbq HLy
  replace HTx := Lib.hid (tmP_below hbq HTx.out)
  replace HTp := Lib.hid (tmP_below hbq HTp.out)
  replace HTy := Lib.hid (tmP_below hbq HTy.out)
  replace HTf := Lib.hid (tmP_below hbq HTf.out)
  replace HTg := Lib.hid (tmP_below hbq HTg.out)
  replace HC := mvC hbq HC
  have HTz := Lib.hid (tmP_weak (Q := fun _ => True) (fun _ _ => trivial) ht9)
  clear hbq ht9
  dsimp only [tv, tkOf, tnOf, tmOf]
  have hbq := below_lit v210 (.cells #[.int .i64 5, .int .i64 0, .string ⟨#[]⟩, .slice z1 z2 z3, .slice z4 z5 z6] 25)
  have hrx := heap_alloc_new v210 (.cells #[.int .i64 5, .int .i64 0, .string ⟨#[]⟩, .slice z1 z2 z3, .slice z4 z5 z6] 25)
  have hlx : v210.heap.size < (v210.alloc (.cells #[.int .i64 5, .int .i64 0, .string ⟨#[]⟩, .slice z1 z2 z3, .slice z4 z5 z6] 25)).heap.size := by simp
  go_wp2_with fail
  generalize hgw : v210.alloc (.cells #[.int .i64 5, .int .i64 0, .string ⟨#[]⟩, .slice z1 z2 z3, .slice z4 z5 z6] 25) = v211 at *
  clear hgw
  replace HRa := mvR hbq HLa HRa
  replace HLa := mvL hbq HLa
  replace HRb := mvR hbq HLb HRb
  replace HLb := mvL hbq HLb
  replace HRx := mvR hbq HLx HRx
  replace HLx := mvL hbq HLx
  replace HRy := mvR hbq HLy HRy
  replace HLy := mvL hbq HLy
  replace HTx := Lib.hid (tmP_below hbq HTx.out)
  replace HTp := Lib.hid (tmP_below hbq HTp.out)
  replace HTy := Lib.hid (tmP_below hbq HTy.out)
  replace HTf := Lib.hid (tmP_below hbq HTf.out)
  replace HTg := Lib.hid (tmP_below hbq HTg.out)
  replace HTz := Lib.hid (tmP_below hbq HTz.out)
  replace HC := mvC hbq HC
  have HRz := Lib.hid hrx
  have HLz := Lib.hid hlx
  clear hbq hrx hlx
  generalize hgb : v210.heap.size = Bz at *
  clear hgb
  refine (h6_variable 3 _).mono ?_
  rintro e v212 ⟨rfl, _, hbq⟩
  replace HRa := mvR hbq HLa HRa
  replace HLa := mvL hbq HLa
  replace HRb := mvR hbq HLb HRb
  replace HLb := mvL hbq HLb
  replace HRx := mvR hbq HLx HRx
  replace HLx := mvL hbq HLx
  replace HRy := mvR hbq HLy HRy
  replace HLy := mvL hbq HLy
  replace HRz := mvR hbq HLz HRz
  replace HLz := mvL hbq HLz
  replace HTx := Lib.hid (tmP_below hbq HTx.out)
  replace HTp := Lib.hid (tmP_below hbq HTp.out)
  replace HTy := Lib.hid (tmP_below hbq HTy.out)
  replace HTf := Lib.hid (tmP_below hbq HTf.out)
  replace HTg := Lib.hid (tmP_below hbq HTg.out)
  replace HTz := Lib.hid (tmP_below hbq HTz.out)
  replace HC := mvC hbq HC
  clear hbq
  dsimp only [tv, tkOf, tnOf, tmOf]
  go_wp2_with fail
  refine (lower_is Nm.rightB 2 (tvr 3) _ _ _ (leaf_in 1 3 ⟨#[]⟩ _) (nm_leaf 1 3 ⟨#[]⟩ (by decide)) (HCN.out.below HC.out) true al11).mono ?_
  rintro e v213 ⟨hbq, hres⟩
  rw [if_pos rfl, al4] at hres
  obtain ⟨l9, s9, rfl, ht9⟩ := hres
  obtain ⟨⟨l1, l2, l3, rfl⟩, l4, l5, l6, rfl⟩ := tmP_slices ht9
  replace HRa := mvR hbq HLa HRa
  replace HLa := mvL hbq HLa
  replace HRb := mvR hbq HLb HRb
  replace HLb := mvL hbq HLb
  replace HRx := mvR hbq HLx HRx
  replace HLx := mvL hbq HLx
  replace HRy := mvR hbq HLy HRy
  replace HLy := mvL hbq HLy
  replace HRz := mvR hbq HLz HRz
  replace HLz := mvL hbq HLz
  replace HTx := Lib.hid (tmP_below hbq HTx.out)
  replace HTp := Lib.hid (tmP_below hbq HTp.out)
  replace HTy := Lib.hid (tmP_below hbq HTy.out)
  replace HTf := Lib.hid (tmP_below hbq HTf.out)
  replace HTg := Lib.hid (tmP_below hbq HTg.out)
  replace HTz := Lib.hid (tmP_below hbq HTz.out)
  replace HC := mvC hbq HC
  have HTl := Lib.hid (tmP_weak (Q := fun _ => True) (fun _ _ => trivial) ht9)
  clear hbq ht9
  dsimp only [tv, tkOf, tnOf, tmOf]
  have hbq := below_lit v213 (.cells #[.int .i64 1, .int .i64 1, .string ⟨#[]⟩, .slice l1 l2 l3, .slice l4 l5 l6] 25)
  have hrx := heap_alloc_new v213 (.cells #[.int .i64 1, .int .i64 1, .string ⟨#[]⟩, .slice l1 l2 l3, .slice l4 l5 l6] 25)
  have hlx : v213.heap.size < (v213.alloc (.cells #[.int .i64 1, .int .i64 1, .string ⟨#[]⟩, .slice l1 l2 l3, .slice l4 l5 l6] 25)).heap.size := by simp
  go_wp2_with fail
  generalize hgw : v213.alloc (.cells #[.int .i64 1, .int .i64 1, .string ⟨#[]⟩, .slice l1 l2 l3, .slice l4 l5 l6] 25) = v214 at *
  clear hgw
  replace HRa := mvR hbq HLa HRa
  replace HLa := mvL hbq HLa
  replace HRb := mvR hbq HLb HRb
  replace HLb := mvL hbq HLb
  replace HRx := mvR hbq HLx HRx
  replace HLx := mvL hbq HLx
  replace HRy := mvR hbq HLy HRy
  replace HLy := mvL hbq HLy
  replace HRz := mvR hbq HLz HRz
  replace HLz := mvL hbq HLz
  replace HTx := Lib.hid (tmP_below hbq HTx.out)
  replace HTp := Lib.hid (tmP_below hbq HTp.out)
  replace HTy := Lib.hid (tmP_below hbq HTy.out)
  replace HTf := Lib.hid (tmP_below hbq HTf.out)
  replace HTg := Lib.hid (tmP_below hbq HTg.out)
  replace HTz := Lib.hid (tmP_below hbq HTz.out)
  replace HTl := Lib.hid (tmP_below hbq HTl.out)
  replace HC := mvC hbq HC
  have HRl := Lib.hid hrx
  have HLl := Lib.hid hlx
  clear hbq hrx hlx
  generalize hgb : v213.heap.size = Bl at *
  clear hgb
  refine (h6_variable 1 _).mono ?_
  rintro e v215 ⟨rfl, _, hbq⟩
  replace HRa := mvR hbq HLa HRa
  replace HLa := mvL hbq HLa
  replace HRb := mvR hbq HLb HRb
  replace HLb := mvL hbq HLb
  replace HRx := mvR hbq HLx HRx
  replace HLx := mvL hbq HLx
  replace HRy := mvR hbq HLy HRy
  replace HLy := mvL hbq HLy
  replace HRz := mvR hbq HLz HRz
  replace HLz := mvL hbq HLz
  replace HRl := mvR hbq HLl HRl
  replace HLl := mvL hbq HLl
  replace HTx := Lib.hid (tmP_below hbq HTx.out)
  replace HTp := Lib.hid (tmP_below hbq HTp.out)
  replace HTy := Lib.hid (tmP_below hbq HTy.out)
  replace HTf := Lib.hid (tmP_below hbq HTf.out)
  replace HTg := Lib.hid (tmP_below hbq HTg.out)
  replace HTz := Lib.hid (tmP_below hbq HTz.out)
  replace HTl := Lib.hid (tmP_below hbq HTl.out)
  replace HC := mvC hbq HC
  clear hbq
  dsimp only [tv, tkOf, tnOf, tmOf]
  go_wp2_with fail
  refine (lower_is Nm.rightB 2 (tvr 1) _ _ _ (leaf_in 1 1 ⟨#[]⟩ _) (nm_leaf 1 1 ⟨#[]⟩ (by decide)) (HCN.out.below HC.out) false al12).mono ?_
  rintro e v216 ⟨hbq, hres⟩
  rw [if_neg (by simp)] at hres
  obtain rfl := hres
  replace HRa := mvR hbq HLa HRa
  replace HLa := mvL hbq HLa
  replace HRb := mvR hbq HLb HRb
  replace HLb := mvL hbq HLb
  replace HRx := mvR hbq HLx HRx
  replace HLx := mvL hbq HLx
  replace HRy := mvR hbq HLy HRy
  replace HLy := mvL hbq HLy
  replace HRz := mvR hbq HLz HRz
  replace HLz := mvL hbq HLz
  replace HRl := mvR hbq HLl HRl
  replace HLl := mvL hbq HLl
  replace HTx := Lib.hid (tmP_below hbq HTx.out)
  replace HTp := Lib.hid (tmP_below hbq HTp.out)
  replace HTy := Lib.hid (tmP_below hbq HTy.out)
  replace HTf := Lib.hid (tmP_below hbq HTf.out)
  replace HTg := Lib.hid (tmP_below hbq HTg.out)
  replace HTz := Lib.hid (tmP_below hbq HTz.out)
  replace HTl := Lib.hid (tmP_below hbq HTl.out)
  replace HC := mvC hbq HC
  clear hbq
  dsimp only [tv, tkOf, tnOf, tmOf]
  have hbq := below_lit v216 (.cells #[.int .i64 0, .int .i64 0, .string ⟨#[]⟩, .slice none 0 0, .slice none 0 0] 25)
  have hrx := heap_alloc_new v216 (.cells #[.int .i64 0, .int .i64 0, .string ⟨#[]⟩, .slice none 0 0, .slice none 0 0] 25)
  have hlx : v216.heap.size < (v216.alloc (.cells #[.int .i64 0, .int .i64 0, .string ⟨#[]⟩, .slice none 0 0, .slice none 0 0] 25)).heap.size := by simp
  obtain ⟨ca0, ca1, ca2, ca3, ca4⟩ := five_cells ((hbq.block _ HLa.out).trans HRa.out)
  go_wp2_with fail
  clear ca0 ca1 ca2 ca3 ca4
  generalize hgw : v216.alloc (.cells #[.int .i64 0, .int .i64 0, .string ⟨#[]⟩, .slice none 0 0, .slice none 0 0] 25) = v217 at *
  clear hgw
  replace HRa := mvR hbq HLa HRa
  replace HLa := mvL hbq HLa
  replace HRb := mvR hbq HLb HRb
  replace HLb := mvL hbq HLb
  replace HRx := mvR hbq HLx HRx
  replace HLx := mvL hbq HLx
  replace HRy := mvR hbq HLy HRy
  replace HLy := mvL hbq HLy
  replace HRz := mvR hbq HLz HRz
  replace HLz := mvL hbq HLz
  replace HRl := mvR hbq HLl HRl
  replace HLl := mvL hbq HLl
  replace HTx := Lib.hid (tmP_below hbq HTx.out)
  replace HTp := Lib.hid (tmP_below hbq HTp.out)
  replace HTy := Lib.hid (tmP_below hbq HTy.out)
  replace HTf := Lib.hid (tmP_below hbq HTf.out)
  replace HTg := Lib.hid (tmP_below hbq HTg.out)
  replace HTz := Lib.hid (tmP_below hbq HTz.out)
  replace HTl := Lib.hid (tmP_below hbq HTl.out)
  replace HC := mvC hbq HC
  have HRno := Lib.hid hrx
  have HLno := Lib.hid hlx
  clear hbq hrx hlx
  generalize hgb : v216.heap.size = Bno at *
  clear hgb
  refine (h6_lam tca tca _ _ _ _ _ (leaf_in 3 0 ⟨#[97]⟩ _) (leaf_in 3 0 ⟨#[97]⟩ _)).mono ?_
  rintro e v218 ⟨l9, s9, rfl, ht9, hbq⟩
  obtain ⟨⟨h1, h2, h3, rfl⟩, h4, h5, h6, rfl⟩ := tmP_slices ht9
  replace HRa := mvR hbq HLa HRa
  replace HLa := mvL hbq HLa
  replace HRb := mvR hbq HLb HRb
  replace HLb := mvL hbq HLb
  replace HRx := mvR hbq HLx HRx
  replace HLx := mvL hbq HLx
  replace HRy := mvR hbq HLy HRy
  replace HLy := mvL hbq HLy
  replace HRz := mvR hbq HLz HRz
  replace HLz := mvL hbq HLz
  replace HRl := mvR hbq HLl HRl
  replace HLl := mvL hbq HLl
  replace HRno := mvR hbq HLno HRno
  replace HLno := mvL hbq HLno
  replace HTx := Lib.hid (tmP_below hbq HTx.out)
  replace HTp := Lib.hid (tmP_below hbq HTp.out)
  replace HTy := Lib.hid (tmP_below hbq HTy.out)
  replace HTf := Lib.hid (tmP_below hbq HTf.out)
  replace HTg := Lib.hid (tmP_below hbq HTg.out)
  replace HTz := Lib.hid (tmP_below hbq HTz.out)
  replace HTl := Lib.hid (tmP_below hbq HTl.out)
  replace HC := mvC hbq HC
  have HTh := Lib.hid ht9
  clear hbq ht9
  dsimp only [tv, tkOf, tnOf, tmOf]
  go_wp2_with fail
  refine (h6_variable 0 _).mono ?_
  rintro e v219 ⟨rfl, _, hbq⟩
  replace HRa := mvR hbq HLa HRa
  replace HLa := mvL hbq HLa
  replace HRb := mvR hbq HLb HRb
  replace HLb := mvL hbq HLb
  replace HRx := mvR hbq HLx HRx
  replace HLx := mvL hbq HLx
  replace HRy := mvR hbq HLy HRy
  replace HLy := mvL hbq HLy
  replace HRz := mvR hbq HLz HRz
  replace HLz := mvL hbq HLz
  replace HRl := mvR hbq HLl HRl
  replace HLl := mvL hbq HLl
  replace HRno := mvR hbq HLno HRno
  replace HLno := mvL hbq HLno
  replace HTx := Lib.hid (tmP_below hbq HTx.out)
  replace HTp := Lib.hid (tmP_below hbq HTp.out)
  replace HTy := Lib.hid (tmP_below hbq HTy.out)
  replace HTf := Lib.hid (tmP_below hbq HTf.out)
  replace HTg := Lib.hid (tmP_below hbq HTg.out)
  replace HTz := Lib.hid (tmP_below hbq HTz.out)
  replace HTl := Lib.hid (tmP_below hbq HTl.out)
  replace HTh := Lib.hid (tmP_below hbq HTh.out)
  replace HC := mvC hbq HC
  clear hbq
  dsimp only [tv, tkOf, tnOf, tmOf]
  go_wp2_with fail
  refine (replace_is Nm.rightB (tlm tca tca) _ _ ⟨#[97]⟩ (tvr 0) _ _ _ HTh.out (nm_two 5 (nm_leaf 3 0 ⟨#[97]⟩ (by decide)) (nm_leaf 3 0 ⟨#[97]⟩ (by decide))) (leaf_in 1 0 ⟨#[]⟩ _) (nm_leaf 1 0 ⟨#[]⟩ (by decide)) (HCN.out.below HC.out) true al13).mono ?_
  rintro e v220 ⟨hbq, hres⟩
  rw [if_pos rfl, al5] at hres
  obtain ⟨l9, s9, rfl, ht9⟩ := hres
  obtain ⟨⟨r1, r2, r3, rfl⟩, r4, r5, r6, rfl⟩ := tmP_slices ht9
  replace HRa := mvR hbq HLa HRa
  replace HLa := mvL hbq HLa
  replace HRb := mvR hbq HLb HRb
  replace HLb := mvL hbq HLb
  replace HRx := mvR hbq HLx HRx
  replace HLx := mvL hbq HLx
  replace HRy := mvR hbq HLy HRy
  replace HLy := mvL hbq HLy
  replace HRz := mvR hbq HLz HRz
  replace HLz := mvL hbq HLz
  replace HRl := mvR hbq HLl HRl
  replace HLl := mvL hbq HLl
  replace HRno := mvR hbq HLno HRno
  replace HLno := mvL hbq HLno
  replace HTx := Lib.hid (tmP_below hbq HTx.out)
  replace HTp := Lib.hid (tmP_below hbq HTp.out)
  replace HTy := Lib.hid (tmP_below hbq HTy.out)
  replace HTf := Lib.hid (tmP_below hbq HTf.out)
  replace HTg := Lib.hid (tmP_below hbq HTg.out)
  replace HTz := Lib.hid (tmP_below hbq HTz.out)
  replace HTl := Lib.hid (tmP_below hbq HTl.out)
  replace HTh := Lib.hid (tmP_below hbq HTh.out)
  replace HC := mvC hbq HC
  have HTr := Lib.hid (tmP_weak (Q := fun _ => True) (fun _ _ => trivial) ht9)
  clear hbq ht9
  dsimp only [tv, tkOf, tnOf, tmOf]
  have hbq := below_lit v220 (.cells #[.int .i64 5, .int .i64 0, .string ⟨#[]⟩, .slice r1 r2 r3, .slice r4 r5 r6] 25)
  have hrx := heap_alloc_new v220 (.cells #[.int .i64 5, .int .i64 0, .string ⟨#[]⟩, .slice r1 r2 r3, .slice r4 r5 r6] 25)
  have hlx : v220.heap.size < (v220.alloc (.cells #[.int .i64 5, .int .i64 0, .string ⟨#[]⟩, .slice r1 r2 r3, .slice r4 r5 r6] 25)).heap.size := by simp
  obtain ⟨ca0, ca1, ca2, ca3, ca4⟩ := five_cells ((hbq.block _ HLa.out).trans HRa.out)
  obtain ⟨cb0, cb1, cb2, cb3, cb4⟩ := five_cells ((hbq.block _ HLb.out).trans HRb.out)
  obtain ⟨cx0, cx1, cx2, cx3, cx4⟩ := five_cells ((hbq.block _ HLx.out).trans HRx.out)
  go_wp2_with fail
  clear ca0 ca1 ca2 ca3 ca4 cb0 cb1 cb2 cb3 cb4 cx0 cx1 cx2 cx3 cx4
  generalize hgw : v220.alloc (.cells #[.int .i64 5, .int .i64 0, .string ⟨#[]⟩, .slice r1 r2 r3, .slice r4 r5 r6] 25) = v221 at *
  clear hgw
  replace HRa := mvR hbq HLa HRa
  replace HLa := mvL hbq HLa
  replace HRb := mvR hbq HLb HRb
  replace HLb := mvL hbq HLb
  replace HRx := mvR hbq HLx HRx
  replace HLx := mvL hbq HLx
  replace HRy := mvR hbq HLy HRy
  replace HLy := mvL hbq HLy
  replace HRz := mvR hbq HLz HRz
  replace HLz := mvL hbq HLz
  replace HRl := mvR hbq HLl HRl
  replace HLl := mvL hbq HLl
  replace HRno := mvR hbq HLno HRno
  replace HLno := mvL hbq HLno
  replace HTx := Lib.hid (tmP_below hbq HTx.out)
  replace HTp := Lib.hid (tmP_below hbq HTp.out)
  replace HTy := Lib.hid (tmP_below hbq HTy.out)
  replace HTf := Lib.hid (tmP_below hbq HTf.out)
  replace HTg := Lib.hid (tmP_below hbq HTg.out)
  replace HTz := Lib.hid (tmP_below hbq HTz.out)
  replace HTl := Lib.hid (tmP_below hbq HTl.out)
  replace HTh := Lib.hid (tmP_below hbq HTh.out)
  replace HTr := Lib.hid (tmP_below hbq HTr.out)
  replace HC := mvC hbq HC
  have HRr := Lib.hid hrx
  have HLr := Lib.hid hlx
  clear hbq hrx hlx
  generalize hgb : v220.heap.size = Br at *
  clear hgb
  have hk : Hid (∀ W', Below v221.heap.size v221 W' → W'.cell? ⟨Ba, 0, none⟩ = some (.int .i64 3) ∧ W'.cell? ⟨Ba, 1, none⟩ = some (.int .i64 0) ∧ W'.cell? ⟨Ba, 2, none⟩ = some (.string ⟨#[97]⟩) ∧ W'.cell? ⟨Ba, 3, none⟩ = some (.slice none 0 0) ∧ W'.cell? ⟨Ba, 4, none⟩ = some (.slice none 0 0) ∧ W'.cell? ⟨Bb, 0, none⟩ = some (.int .i64 3) ∧ W'.cell? ⟨Bb, 1, none⟩ = some (.int .i64 0) ∧ W'.cell? ⟨Bb, 2, none⟩ = some (.string ⟨#[98]⟩) ∧ W'.cell? ⟨Bb, 3, none⟩ = some (.slice none 0 0) ∧ W'.cell? ⟨Bb, 4, none⟩ = some (.slice none 0 0) ∧ W'.cell? ⟨Bo, 0, none⟩ = some (.int .i64 4) ∧ W'.cell? ⟨Bo, 1, none⟩ = some (.int .i64 0) ∧ W'.cell? ⟨Bo, 2, none⟩ = some (.string ⟨#[]⟩) ∧ W'.cell? ⟨Bo, 3, none⟩ = some (.slice xa xl xc) ∧ W'.cell? ⟨Bo, 4, none⟩ = some (.slice ya yl yc) ∧ W'.cell? ⟨By, 0, none⟩ = some (.int .i64 4) ∧ W'.cell? ⟨By, 1, none⟩ = some (.int .i64 0) ∧ W'.cell? ⟨By, 2, none⟩ = some (.string ⟨#[]⟩) ∧ W'.cell? ⟨By, 3, none⟩ = some (.slice y1 y2 y3) ∧ W'.cell? ⟨By, 4, none⟩ = some (.slice y4 y5 y6) ∧ W'.cell? ⟨Bz, 0, none⟩ = some (.int .i64 5) ∧ W'.cell? ⟨Bz, 1, none⟩ = some (.int .i64 0) ∧ W'.cell? ⟨Bz, 2, none⟩ = some (.string ⟨#[]⟩) ∧ W'.cell? ⟨Bz, 3, none⟩ = some (.slice z1 z2 z3) ∧ W'.cell? ⟨Bz, 4, none⟩ = some (.slice z4 z5 z6) ∧ W'.cell? ⟨Bl, 0, none⟩ = some (.int .i64 1) ∧ W'.cell? ⟨Bl, 1, none⟩ = some (.int .i64 1) ∧ W'.cell? ⟨Bl, 2, none⟩ = some (.string ⟨#[]⟩) ∧ W'.cell? ⟨Bl, 3, none⟩ = some (.slice l1 l2 l3) ∧ W'.cell? ⟨Bl, 4, none⟩ = some (.slice l4 l5 l6) ∧ W'.cell? ⟨Br, 0, none⟩ = some (.int .i64 5) ∧ W'.cell? ⟨Br, 1, none⟩ = some (.int .i64 0) ∧ W'.cell? ⟨Br, 2, none⟩ = some (.string ⟨#[]⟩) ∧ W'.cell? ⟨Br, 3, none⟩ = some (.slice r1 r2 r3) ∧ W'.cell? ⟨Br, 4, none⟩ = some (.slice r4 r5 r6)) := fun W' h => by
   obtain ⟨ac0, ac1, ac2, ac3, ac4⟩ := five_cells ((h.block _ HLa.out).trans HRa.out)
   obtain ⟨bc0, bc1, bc2, bc3, bc4⟩ := five_cells ((h.block _ HLb.out).trans HRb.out)
   obtain ⟨xc0, xc1, xc2, xc3, xc4⟩ := five_cells ((h.block _ HLx.out).trans HRx.out)
   obtain ⟨yc0, yc1, yc2, yc3, yc4⟩ := five_cells ((h.block _ HLy.out).trans HRy.out)
   obtain ⟨zc0, zc1, zc2, zc3, zc4⟩ := five_cells ((h.block _ HLz.out).trans HRz.out)
   obtain ⟨lc0, lc1, lc2, lc3, lc4⟩ := five_cells ((h.block _ HLl.out).trans HRl.out)
   obtain ⟨rc0, rc1, rc2, rc3, rc4⟩ := five_cells ((h.block _ HLr.out).trans HRr.out)
   exact ⟨ac0, ac1, ac2, ac3, ac4, bc0, bc1, bc2, bc3, bc4, xc0, xc1, xc2, xc3, xc4, yc0, yc1, yc2, yc3, yc4, zc0, zc1, zc2, zc3, zc4, lc0, lc1, lc2, lc3, lc4, rc0, rc1, rc2, rc3, rc4⟩
  refine wp_region_held_drew (S := fun W' => W'.cell? ⟨Ba, 0, none⟩ = some (.int .i64 3) ∧ W'.cell? ⟨Ba, 1, none⟩ = some (.int .i64 0) ∧ W'.cell? ⟨Ba, 2, none⟩ = some (.string ⟨#[97]⟩) ∧ W'.cell? ⟨Ba, 3, none⟩ = some (.slice none 0 0) ∧ W'.cell? ⟨Ba, 4, none⟩ = some (.slice none 0 0) ∧ W'.cell? ⟨Bb, 0, none⟩ = some (.int .i64 3) ∧ W'.cell? ⟨Bb, 1, none⟩ = some (.int .i64 0) ∧ W'.cell? ⟨Bb, 2, none⟩ = some (.string ⟨#[98]⟩) ∧ W'.cell? ⟨Bb, 3, none⟩ = some (.slice none 0 0) ∧ W'.cell? ⟨Bb, 4, none⟩ = some (.slice none 0 0) ∧ W'.cell? ⟨Bo, 0, none⟩ = some (.int .i64 4) ∧ W'.cell? ⟨Bo, 1, none⟩ = some (.int .i64 0) ∧ W'.cell? ⟨Bo, 2, none⟩ = some (.string ⟨#[]⟩) ∧ W'.cell? ⟨Bo, 3, none⟩ = some (.slice xa xl xc) ∧ W'.cell? ⟨Bo, 4, none⟩ = some (.slice ya yl yc) ∧ W'.cell? ⟨By, 0, none⟩ = some (.int .i64 4) ∧ W'.cell? ⟨By, 1, none⟩ = some (.int .i64 0) ∧ W'.cell? ⟨By, 2, none⟩ = some (.string ⟨#[]⟩) ∧ W'.cell? ⟨By, 3, none⟩ = some (.slice y1 y2 y3) ∧ W'.cell? ⟨By, 4, none⟩ = some (.slice y4 y5 y6) ∧ W'.cell? ⟨Bz, 0, none⟩ = some (.int .i64 5) ∧ W'.cell? ⟨Bz, 1, none⟩ = some (.int .i64 0) ∧ W'.cell? ⟨Bz, 2, none⟩ = some (.string ⟨#[]⟩) ∧ W'.cell? ⟨Bz, 3, none⟩ = some (.slice z1 z2 z3) ∧ W'.cell? ⟨Bz, 4, none⟩ = some (.slice z4 z5 z6) ∧ W'.cell? ⟨Bl, 0, none⟩ = some (.int .i64 1) ∧ W'.cell? ⟨Bl, 1, none⟩ = some (.int .i64 1) ∧ W'.cell? ⟨Bl, 2, none⟩ = some (.string ⟨#[]⟩) ∧ W'.cell? ⟨Bl, 3, none⟩ = some (.slice l1 l2 l3) ∧ W'.cell? ⟨Bl, 4, none⟩ = some (.slice l4 l5 l6) ∧ W'.cell? ⟨Br, 0, none⟩ = some (.int .i64 5) ∧ W'.cell? ⟨Br, 1, none⟩ = some (.int .i64 0) ∧ W'.cell? ⟨Br, 2, none⟩ = some (.string ⟨#[]⟩) ∧ W'.cell? ⟨Br, 3, none⟩ = some (.slice r1 r2 r3) ∧ W'.cell? ⟨Br, 4, none⟩ = some (.slice r4 r5 r6)) (by kernel_rfl) (hk.out _ ((Below.refl _ _).drew)) (fun hHeld => ?_)
  have HV := Lib.hid ((Below.refl v221.heap.size v221).drew)
  have hbq := HV.out
  replace HRa := mvR hbq HLa HRa
  replace HLa := mvL hbq HLa
  replace HRb := mvR hbq HLb HRb
  replace HLb := mvL hbq HLb
  replace HRx := mvR hbq HLx HRx
  replace HLx := mvL hbq HLx
  replace HRy := mvR hbq HLy HRy
  replace HLy := mvL hbq HLy
  replace HRz := mvR hbq HLz HRz
  replace HLz := mvL hbq HLz
  replace HRl := mvR hbq HLl HRl
  replace HLl := mvL hbq HLl
  replace HRno := mvR hbq HLno HRno
  replace HLno := mvL hbq HLno
  replace HRr := mvR hbq HLr HRr
  replace HLr := mvL hbq HLr
  replace HTx := Lib.hid (tmP_below hbq HTx.out)
  replace HTp := Lib.hid (tmP_below hbq HTp.out)
  replace HTy := Lib.hid (tmP_below hbq HTy.out)
  replace HTf := Lib.hid (tmP_below hbq HTf.out)
  replace HTg := Lib.hid (tmP_below hbq HTg.out)
  replace HTz := Lib.hid (tmP_below hbq HTz.out)
  replace HTl := Lib.hid (tmP_below hbq HTl.out)
  replace HTh := Lib.hid (tmP_below hbq HTh.out)
  replace HTr := Lib.hid (tmP_below hbq HTr.out)
  replace HC := mvC hbq HC
  clear hbq
  generalize v221.drew = vd at *
  refine take_in (i := 0) (v := ?_) rfl (by kernel_rfl) (by kernel_rfl) (by kernel_rfl) (fun _ _ _ h => h) (by rfl) ?_ hHeld ?_
  rotate_left
  ·intro w hSw
   (try dsimp only at hSw)
   go_simp
   try with_reducible rfl
  try simp only [Act.put, s1q, s2q, s3q]
  refine take_in (i := 1) (v := ?_) rfl (by kernel_rfl) (by kernel_rfl) (by kernel_rfl) (fun _ _ _ h => h) (by rfl) ?_ hHeld ?_
  rotate_left
  ·intro w hSw
   (try dsimp only at hSw)
   go_simp
   try with_reducible rfl
  try simp only [Act.put, s1q, s2q, s3q]
  refine take_in (i := 2) (v := ?_) rfl (by kernel_rfl) (by kernel_rfl) (by kernel_rfl) (fun _ _ _ h => h) (by rfl) ?_ hHeld ?_
  rotate_left
  ·intro w hSw
   (try dsimp only at hSw)
   go_simp
   try with_reducible rfl
  try simp only [Act.put, s1q, s2q, s3q]
  refine take_in (i := 3) (v := ?_) rfl (by kernel_rfl) (by kernel_rfl) (by kernel_rfl) (fun _ _ _ h => h) (by rfl) ?_ hHeld ?_
  rotate_left
  ·intro w hSw
   (try dsimp only at hSw)
   go_simp
   try with_reducible rfl
  try simp only [Act.put, s1q, s2q, s3q]
  refine take_in (i := 4) (v := ?_) rfl (by kernel_rfl) (by kernel_rfl) (by kernel_rfl) (fun _ _ _ h => h) (by rfl) ?_ hHeld ?_
  rotate_left
  ·intro w hSw
   (try dsimp only at hSw)
   go_simp
   try with_reducible rfl
  try simp only [Act.put, s1q, s2q, s3q]
  refine take_in (i := 5) (v := ?_) rfl (by kernel_rfl) (by kernel_rfl) (by kernel_rfl) (fun _ _ _ h => h) (by rfl) ?_ hHeld ?_
  rotate_left
  ·intro w hSw
   (try dsimp only at hSw)
   go_simp
   try with_reducible rfl
  try simp only [Act.put, s1q, s2q, s3q]
  refine take_in (i := 6) (v := ?_) rfl (by kernel_rfl) (by kernel_rfl) (by kernel_rfl) (fun _ _ _ h => h) (by rfl) ?_ hHeld ?_
  rotate_left
  ·intro w hSw
   (try dsimp only at hSw)
   go_simp
   try with_reducible rfl
  try simp only [Act.put, s1q, s2q, s3q]
  refine take_in (i := 7) (v := ?_) rfl (by kernel_rfl) (by kernel_rfl) (by kernel_rfl) (fun _ _ _ h => h) (by rfl) ?_ hHeld ?_
  rotate_left
  ·intro w hSw
   (try dsimp only at hSw)
   go_simp
   try with_reducible rfl
  try simp only [Act.put, s1q, s2q, s3q]
  refine take_in (i := 8) (v := ?_) rfl (by kernel_rfl) (by kernel_rfl) (by kernel_rfl) (fun _ _ _ h => h) (by rfl) ?_ hHeld ?_
  rotate_left
  ·intro w hSw
   (try dsimp only at hSw)
   go_simp
   try with_reducible rfl
  try simp only [Act.put, s1q, s2q, s3q]
  refine take_in (i := 9) (v := ?_) rfl (by kernel_rfl) (by kernel_rfl) (by kernel_rfl) (fun _ _ _ h => h) (by rfl) ?_ hHeld ?_
  rotate_left
  ·intro w hSw
   (try dsimp only at hSw)
   go_simp
   try with_reducible rfl
  try simp only [Act.put, s1q, s2q, s3q]
  refine take_in (i := 10) (v := ?_) rfl (by kernel_rfl) (by kernel_rfl) (by kernel_rfl) (fun _ _ _ h => h) (by rfl) ?_ hHeld ?_
  rotate_left
  ·intro w hSw
   (try dsimp only at hSw)
   go_simp
   try with_reducible rfl
  try simp only [Act.put, s1q, s2q, s3q]
  refine take_in (i := 11) (v := ?_) rfl (by kernel_rfl) (by kernel_rfl) (by kernel_rfl) (fun _ _ _ h => h) (by rfl) ?_ hHeld ?_
  rotate_left
  ·intro w hSw
   (try dsimp only at hSw)
   go_simp
   try with_reducible rfl
  try simp only [Act.put, s1q, s2q, s3q]
  refine take_in (i := 12) (v := ?_) rfl (by kernel_rfl) (by kernel_rfl) (by kernel_rfl) (fun _ _ _ h => h) (by rfl) ?_ hHeld ?_
  rotate_left
  ·intro w hSw
   (try dsimp only at hSw)
   go_simp
   try with_reducible rfl
  try simp only [Act.put, s1q, s2q, s3q]
  refine take_in (i := 13) (v := ?_) rfl (by kernel_rfl) (by kernel_rfl) (by kernel_rfl) (fun _ _ _ h => h) (by rfl) ?_ hHeld ?_
  rotate_left
  ·intro w hSw
   (try dsimp only at hSw)
   go_simp
   try with_reducible rfl
  try simp only [Act.put, s1q, s2q, s3q]
  refine take_in (i := 14) (v := ?_) rfl (by kernel_rfl) (by kernel_rfl) (by kernel_rfl) (fun _ _ _ h => h) (by rfl) ?_ hHeld ?_
  rotate_left
  ·intro w hSw
   (try dsimp only at hSw)
   go_simp
   try with_reducible rfl
  try simp only [Act.put, s1q, s2q, s3q]
  refine take_in (i := 15) (v := ?_) rfl (by kernel_rfl) (by kernel_rfl) (by kernel_rfl) (fun _ _ _ h => h) (by rfl) ?_ hHeld ?_
  rotate_left
  ·intro w hSw
   (try dsimp only at hSw)
   go_simp
   try with_reducible rfl
  try simp only [Act.put, s1q, s2q, s3q]
  refine take_in (i := 16) (v := ?_) rfl (by kernel_rfl) (by kernel_rfl) (by kernel_rfl) (fun _ _ _ h => h) (by rfl) ?_ hHeld ?_
  rotate_left
  ·intro w hSw
   (try dsimp only at hSw)
   go_simp
   try with_reducible rfl
  try simp only [Act.put, s1q, s2q, s3q]
  refine take_in (i := 17) (v := ?_) rfl (by kernel_rfl) (by kernel_rfl) (by kernel_rfl) (fun _ _ _ h => h) (by rfl) ?_ hHeld ?_
  rotate_left
  ·intro w hSw
   (try dsimp only at hSw)
   go_simp
   try with_reducible rfl
  try simp only [Act.put, s1q, s2q, s3q]
  refine take_in (i := 18) (v := ?_) rfl (by kernel_rfl) (by kernel_rfl) (by kernel_rfl) (fun _ _ _ h => h) (by rfl) ?_ hHeld ?_
  rotate_left
  ·intro w hSw
   (try dsimp only at hSw)
   go_simp
   try with_reducible rfl
  try simp only [Act.put, s1q, s2q, s3q]
  refine take_in (i := 19) (v := ?_) rfl (by kernel_rfl) (by kernel_rfl) (by kernel_rfl) (fun _ _ _ h => h) (by rfl) ?_ hHeld ?_
  rotate_left
  ·intro w hSw
   (try dsimp only at hSw)
   go_simp
   try with_reducible rfl
  try simp only [Act.put, s1q, s2q, s3q]
  refine take_in (i := 20) (v := ?_) rfl (by kernel_rfl) (by kernel_rfl) (by kernel_rfl) (fun _ _ _ h => h) (by rfl) ?_ hHeld ?_
  rotate_left
  ·intro w hSw
   (try dsimp only at hSw)
   go_simp
   try with_reducible rfl
  try simp only [Act.put, s1q, s2q, s3q]
  refine call_in (i := 21) rfl (by kernel_rfl) (fun K hK => ?_)
  clear hHeld
  go_simp
  refine (h6_app tca tcb _ _ _ _ _ (leaf_in 3 0 ⟨#[97]⟩ _) (leaf_in 3 0 ⟨#[98]⟩ _)).mono ?_
  rintro e v222 ⟨l9, s9, rfl, ht9, hbq⟩
  obtain ⟨⟨i1, i2, i3, rfl⟩, i4, i5, i6, rfl⟩ := tmP_slices ht9
  replace HRa := mvR hbq HLa HRa
  replace HLa := mvL hbq HLa
  replace HRb := mvR hbq HLb HRb
  replace HLb := mvL hbq HLb
  replace HRx := mvR hbq HLx HRx
  replace HLx := mvL hbq HLx
  replace HRy := mvR hbq HLy HRy
  replace HLy := mvL hbq HLy
  replace HRz := mvR hbq HLz HRz
  replace HLz := mvL hbq HLz
  replace HRl := mvR hbq HLl HRl
  replace HLl := mvL hbq HLl
  replace HRno := mvR hbq HLno HRno
  replace HLno := mvL hbq HLno
  replace HRr := mvR hbq HLr HRr
  replace HLr := mvL hbq HLr
  replace HTx := Lib.hid (tmP_below hbq HTx.out)
  replace HTp := Lib.hid (tmP_below hbq HTp.out)
  replace HTy := Lib.hid (tmP_below hbq HTy.out)
  replace HTf := Lib.hid (tmP_below hbq HTf.out)
  replace HTg := Lib.hid (tmP_below hbq HTg.out)
  replace HTz := Lib.hid (tmP_below hbq HTz.out)
  replace HTl := Lib.hid (tmP_below hbq HTl.out)
  replace HTh := Lib.hid (tmP_below hbq HTh.out)
  replace HTr := Lib.hid (tmP_below hbq HTr.out)
  replace HC := mvC hbq HC
  replace HV := mvC hbq HV
  have HTi := Lib.hid ht9
  clear hbq ht9
  dsimp only [tv, tkOf, tnOf, tmOf]
  try (go_wp2_with fail)
  refine hK.out _ _ (hk.out _ HV.out) (fun hHeld => ?_)
  clear hK K
  try simp only [Act.put, s1q, s2q, s3q]
  refine call_in (i := 22) rfl (by kernel_rfl) (fun K hK => ?_)
  clear hHeld
  go_simp
  refine (sameTerm_is (tap tca tcb) _ _ _ ⟨_, _, rfl, HTx.out⟩ ⟨_, _, rfl, HTi.out⟩).mono ?_
  rintro e v223 ⟨rfl, hbq⟩
  replace HRa := mvR hbq HLa HRa
  replace HLa := mvL hbq HLa
  replace HRb := mvR hbq HLb HRb
  replace HLb := mvL hbq HLb
  replace HRx := mvR hbq HLx HRx
  replace HLx := mvL hbq HLx
  replace HRy := mvR hbq HLy HRy
  replace HLy := mvL hbq HLy
  replace HRz := mvR hbq HLz HRz
  replace HLz := mvL hbq HLz
  replace HRl := mvR hbq HLl HRl
  replace HLl := mvL hbq HLl
  replace HRno := mvR hbq HLno HRno
  replace HLno := mvL hbq HLno
  replace HRr := mvR hbq HLr HRr
  replace HLr := mvL hbq HLr
  replace HTx := Lib.hid (tmP_below hbq HTx.out)
  replace HTp := Lib.hid (tmP_below hbq HTp.out)
  replace HTy := Lib.hid (tmP_below hbq HTy.out)
  replace HTf := Lib.hid (tmP_below hbq HTf.out)
  replace HTg := Lib.hid (tmP_below hbq HTg.out)
  replace HTz := Lib.hid (tmP_below hbq HTz.out)
  replace HTl := Lib.hid (tmP_below hbq HTl.out)
  replace HTh := Lib.hid (tmP_below hbq HTh.out)
  replace HTr := Lib.hid (tmP_below hbq HTr.out)
  replace HTi := Lib.hid (tmP_below hbq HTi.out)
  replace HC := mvC hbq HC
  replace HV := mvC hbq HV
  clear hbq
  try (go_wp2_with fail)
  refine hK.out _ _ (hk.out _ HV.out) (fun hHeld => ?_)
  clear hK K
  try simp only [Act.put, s1q, s2q, s3q]
  refine take_in (i := 23) (v := ?_) rfl (by kernel_rfl) (by kernel_rfl) (by kernel_rfl) (fun _ _ _ h => h) (by rfl) ?_ hHeld ?_
  rotate_left
  ·intro w hSw
   (try dsimp only at hSw)
   go_simp
   try with_reducible rfl
  try simp only [Act.put, s1q, s2q, s3q]
  refine take_in (i := 24) (v := ?_) rfl (by kernel_rfl) (by kernel_rfl) (by kernel_rfl) (fun _ _ _ h => h) (by rfl) ?_ hHeld ?_
  rotate_left
  ·intro w hSw
   (try dsimp only at hSw)
   go_simp
   try with_reducible rfl
  try simp only [Act.put, s1q, s2q, s3q]
  refine take_in (i := 25) (v := ?_) rfl (by kernel_rfl) (by kernel_rfl) (by kernel_rfl) (fun _ _ _ h => h) (by rfl) ?_ hHeld ?_
  rotate_left
  ·intro w hSw
   (try dsimp only at hSw)
   go_simp
   try with_reducible rfl
  try simp only [Act.put, s1q, s2q, s3q]
  refine call_in (i := 26) rfl (by kernel_rfl) (fun K hK => ?_)
  clear hHeld
  go_simp
  refine (h6_variable 1 _).mono ?_
  rintro e v224 ⟨rfl, _, hbq⟩
  replace HRa := mvR hbq HLa HRa
  replace HLa := mvL hbq HLa
  replace HRb := mvR hbq HLb HRb
  replace HLb := mvL hbq HLb
  replace HRx := mvR hbq HLx HRx
  replace HLx := mvL hbq HLx
  replace HRy := mvR hbq HLy HRy
  replace HLy := mvL hbq HLy
  replace HRz := mvR hbq HLz HRz
  replace HLz := mvL hbq HLz
  replace HRl := mvR hbq HLl HRl
  replace HLl := mvL hbq HLl
  replace HRno := mvR hbq HLno HRno
  replace HLno := mvL hbq HLno
  replace HRr := mvR hbq HLr HRr
  replace HLr := mvL hbq HLr
  replace HTx := Lib.hid (tmP_below hbq HTx.out)
  replace HTp := Lib.hid (tmP_below hbq HTp.out)
  replace HTy := Lib.hid (tmP_below hbq HTy.out)
  replace HTf := Lib.hid (tmP_below hbq HTf.out)
  replace HTg := Lib.hid (tmP_below hbq HTg.out)
  replace HTz := Lib.hid (tmP_below hbq HTz.out)
  replace HTl := Lib.hid (tmP_below hbq HTl.out)
  replace HTh := Lib.hid (tmP_below hbq HTh.out)
  replace HTr := Lib.hid (tmP_below hbq HTr.out)
  replace HTi := Lib.hid (tmP_below hbq HTi.out)
  replace HC := mvC hbq HC
  replace HV := mvC hbq HV
  clear hbq
  dsimp only [tv, tkOf, tnOf, tmOf]
  try (go_wp2_with fail)
  refine hK.out _ _ (hk.out _ HV.out) (fun hHeld => ?_)
  clear hK K
  try simp only [Act.put, s1q, s2q, s3q]
  refine call_in (i := 27) rfl (by kernel_rfl) (fun K hK => ?_)
  clear hHeld
  go_simp
  refine (h6_variable 0 _).mono ?_
  rintro e v225 ⟨rfl, _, hbq⟩
  replace HRa := mvR hbq HLa HRa
  replace HLa := mvL hbq HLa
  replace HRb := mvR hbq HLb HRb
  replace HLb := mvL hbq HLb
  replace HRx := mvR hbq HLx HRx
  replace HLx := mvL hbq HLx
  replace HRy := mvR hbq HLy HRy
  replace HLy := mvL hbq HLy
  replace HRz := mvR hbq HLz HRz
  replace HLz := mvL hbq HLz
  replace HRl := mvR hbq HLl HRl
  replace HLl := mvL hbq HLl
  replace HRno := mvR hbq HLno HRno
  replace HLno := mvL hbq HLno
  replace HRr := mvR hbq HLr HRr
  replace HLr := mvL hbq HLr
  replace HTx := Lib.hid (tmP_below hbq HTx.out)
  replace HTp := Lib.hid (tmP_below hbq HTp.out)
  replace HTy := Lib.hid (tmP_below hbq HTy.out)
  replace HTf := Lib.hid (tmP_below hbq HTf.out)
  replace HTg := Lib.hid (tmP_below hbq HTg.out)
  replace HTz := Lib.hid (tmP_below hbq HTz.out)
  replace HTl := Lib.hid (tmP_below hbq HTl.out)
  replace HTh := Lib.hid (tmP_below hbq HTh.out)
  replace HTr := Lib.hid (tmP_below hbq HTr.out)
  replace HTi := Lib.hid (tmP_below hbq HTi.out)
  replace HC := mvC hbq HC
  replace HV := mvC hbq HV
  clear hbq
  dsimp only [tv, tkOf, tnOf, tmOf]
  try (go_wp2_with fail)
  refine hK.out _ _ (hk.out _ HV.out) (fun hHeld => ?_)
  clear hK K
  try simp only [Act.put, s1q, s2q, s3q]
  refine call_in (i := 28) rfl (by kernel_rfl) (fun K hK => ?_)
  clear hHeld
  go_simp
  refine (h6_app (tvr 1) (tvr 0) _ _ _ _ _ (leaf_in 1 1 ⟨#[]⟩ _) (leaf_in 1 0 ⟨#[]⟩ _)).mono ?_
  rintro e v226 ⟨l9, s9, rfl, ht9, hbq⟩
  obtain ⟨⟨j1, j2, j3, rfl⟩, j4, j5, j6, rfl⟩ := tmP_slices ht9
  replace HRa := mvR hbq HLa HRa
  replace HLa := mvL hbq HLa
  replace HRb := mvR hbq HLb HRb
  replace HLb := mvL hbq HLb
  replace HRx := mvR hbq HLx HRx
  replace HLx := mvL hbq HLx
  replace HRy := mvR hbq HLy HRy
  replace HLy := mvL hbq HLy
  replace HRz := mvR hbq HLz HRz
  replace HLz := mvL hbq HLz
  replace HRl := mvR hbq HLl HRl
  replace HLl := mvL hbq HLl
  replace HRno := mvR hbq HLno HRno
  replace HLno := mvL hbq HLno
  replace HRr := mvR hbq HLr HRr
  replace HLr := mvL hbq HLr
  replace HTx := Lib.hid (tmP_below hbq HTx.out)
  replace HTp := Lib.hid (tmP_below hbq HTp.out)
  replace HTy := Lib.hid (tmP_below hbq HTy.out)
  replace HTf := Lib.hid (tmP_below hbq HTf.out)
  replace HTg := Lib.hid (tmP_below hbq HTg.out)
  replace HTz := Lib.hid (tmP_below hbq HTz.out)
  replace HTl := Lib.hid (tmP_below hbq HTl.out)
  replace HTh := Lib.hid (tmP_below hbq HTh.out)
  replace HTr := Lib.hid (tmP_below hbq HTr.out)
  replace HTi := Lib.hid (tmP_below hbq HTi.out)
  replace HC := mvC hbq HC
  replace HV := mvC hbq HV
  have HTj := Lib.hid ht9
  clear hbq ht9
  dsimp only [tv, tkOf, tnOf, tmOf]
  try (go_wp2_with fail)
  refine hK.out _ _ (hk.out _ HV.out) (fun hHeld => ?_)
  clear hK K
  try simp only [Act.put, s1q, s2q, s3q]
  refine call_in (i := 29) rfl (by kernel_rfl) (fun K hK => ?_)
  clear hHeld
  go_simp
  refine (sameTerm_is (tap (tvr 1) (tvr 0)) _ _ _ ⟨_, _, rfl, HTy.out⟩ ⟨_, _, rfl, HTj.out⟩).mono ?_
  rintro e v227 ⟨rfl, hbq⟩
  replace HRa := mvR hbq HLa HRa
  replace HLa := mvL hbq HLa
  replace HRb := mvR hbq HLb HRb
  replace HLb := mvL hbq HLb
  replace HRx := mvR hbq HLx HRx
  replace HLx := mvL hbq HLx
  replace HRy := mvR hbq HLy HRy
  replace HLy := mvL hbq HLy
  replace HRz := mvR hbq HLz HRz
  replace HLz := mvL hbq HLz
  replace HRl := mvR hbq HLl HRl
  replace HLl := mvL hbq HLl
  replace HRno := mvR hbq HLno HRno
  replace HLno := mvL hbq HLno
  replace HRr := mvR hbq HLr HRr
  replace HLr := mvL hbq HLr
  replace HTx := Lib.hid (tmP_below hbq HTx.out)
  replace HTp := Lib.hid (tmP_below hbq HTp.out)
  replace HTy := Lib.hid (tmP_below hbq HTy.out)
  replace HTf := Lib.hid (tmP_below hbq HTf.out)
  replace HTg := Lib.hid (tmP_below hbq HTg.out)
  replace HTz := Lib.hid (tmP_below hbq HTz.out)
  replace HTl := Lib.hid (tmP_below hbq HTl.out)
  replace HTh := Lib.hid (tmP_below hbq HTh.out)
  replace HTr := Lib.hid (tmP_below hbq HTr.out)
  replace HTi := Lib.hid (tmP_below hbq HTi.out)
  replace HTj := Lib.hid (tmP_below hbq HTj.out)
  replace HC := mvC hbq HC
  replace HV := mvC hbq HV
  clear hbq
  try (go_wp2_with fail)
  refine hK.out _ _ (hk.out _ HV.out) (fun hHeld => ?_)
  clear hK K
  try simp only [Act.put, s1q, s2q, s3q]
  refine take_in (i := 30) (v := ?_) rfl (by kernel_rfl) (by kernel_rfl) (by kernel_rfl) (fun _ _ _ h => h) (by rfl) ?_ hHeld ?_
  rotate_left
  ·intro w hSw
   (try dsimp only at hSw)
   go_simp
   try with_reducible rfl
  try simp only [Act.put, s1q, s2q, s3q]
  refine take_in (i := 31) (v := ?_) rfl (by kernel_rfl) (by kernel_rfl) (by kernel_rfl) (fun _ _ _ h => h) (by rfl) ?_ hHeld ?_
  rotate_left
  ·intro w hSw
   (try dsimp only at hSw)
   go_simp
   try with_reducible rfl
  try simp only [Act.put, s1q, s2q, s3q]
  refine take_in (i := 32) (v := ?_) rfl (by kernel_rfl) (by kernel_rfl) (by kernel_rfl) (fun _ _ _ h => h) (by rfl) ?_ hHeld ?_
  rotate_left
  ·intro w hSw
   (try dsimp only at hSw)
   go_simp
   try with_reducible rfl
  try simp only [Act.put, s1q, s2q, s3q]
  refine call_in (i := 33) rfl (by kernel_rfl) (fun K hK => ?_)
  clear hHeld
  go_simp
  refine (h6_variable 3 _).mono ?_
  rintro e v228 ⟨rfl, _, hbq⟩
  replace HRa := mvR hbq HLa HRa
  replace HLa := mvL hbq HLa
  replace HRb := mvR hbq HLb HRb
  replace HLb := mvL hbq HLb
  replace HRx := mvR hbq HLx HRx
  replace HLx := mvL hbq HLx
  replace HRy := mvR hbq HLy HRy
  replace HLy := mvL hbq HLy
  replace HRz := mvR hbq HLz HRz
  replace HLz := mvL hbq HLz
  replace HRl := mvR hbq HLl HRl
  replace HLl := mvL hbq HLl
  replace HRno := mvR hbq HLno HRno
  replace HLno := mvL hbq HLno
  replace HRr := mvR hbq HLr HRr
  replace HLr := mvL hbq HLr
  replace HTx := Lib.hid (tmP_below hbq HTx.out)
  replace HTp := Lib.hid (tmP_below hbq HTp.out)
  replace HTy := Lib.hid (tmP_below hbq HTy.out)
  replace HTf := Lib.hid (tmP_below hbq HTf.out)
  replace HTg := Lib.hid (tmP_below hbq HTg.out)
  replace HTz := Lib.hid (tmP_below hbq HTz.out)
  replace HTl := Lib.hid (tmP_below hbq HTl.out)
  replace HTh := Lib.hid (tmP_below hbq HTh.out)
  replace HTr := Lib.hid (tmP_below hbq HTr.out)
  replace HTi := Lib.hid (tmP_below hbq HTi.out)
  replace HTj := Lib.hid (tmP_below hbq HTj.out)
  replace HC := mvC hbq HC
  replace HV := mvC hbq HV
  clear hbq
  dsimp only [tv, tkOf, tnOf, tmOf]
  try (go_wp2_with fail)
  refine hK.out _ _ (hk.out _ HV.out) (fun hHeld => ?_)
  clear hK K
  try simp only [Act.put, s1q, s2q, s3q]
  refine call_in (i := 34) rfl (by kernel_rfl) (fun K hK => ?_)
  clear hHeld
  go_simp
  refine (h6_variable 0 _).mono ?_
  rintro e v229 ⟨rfl, _, hbq⟩
  replace HRa := mvR hbq HLa HRa
  replace HLa := mvL hbq HLa
  replace HRb := mvR hbq HLb HRb
  replace HLb := mvL hbq HLb
  replace HRx := mvR hbq HLx HRx
  replace HLx := mvL hbq HLx
  replace HRy := mvR hbq HLy HRy
  replace HLy := mvL hbq HLy
  replace HRz := mvR hbq HLz HRz
  replace HLz := mvL hbq HLz
  replace HRl := mvR hbq HLl HRl
  replace HLl := mvL hbq HLl
  replace HRno := mvR hbq HLno HRno
  replace HLno := mvL hbq HLno
  replace HRr := mvR hbq HLr HRr
  replace HLr := mvL hbq HLr
  replace HTx := Lib.hid (tmP_below hbq HTx.out)
  replace HTp := Lib.hid (tmP_below hbq HTp.out)
  replace HTy := Lib.hid (tmP_below hbq HTy.out)
  replace HTf := Lib.hid (tmP_below hbq HTf.out)
  replace HTg := Lib.hid (tmP_below hbq HTg.out)
  replace HTz := Lib.hid (tmP_below hbq HTz.out)
  replace HTl := Lib.hid (tmP_below hbq HTl.out)
  replace HTh := Lib.hid (tmP_below hbq HTh.out)
  replace HTr := Lib.hid (tmP_below hbq HTr.out)
  replace HTi := Lib.hid (tmP_below hbq HTi.out)
  replace HTj := Lib.hid (tmP_below hbq HTj.out)
  replace HC := mvC hbq HC
  replace HV := mvC hbq HV
  clear hbq
  dsimp only [tv, tkOf, tnOf, tmOf]
  try (go_wp2_with fail)
  refine hK.out _ _ (hk.out _ HV.out) (fun hHeld => ?_)
  clear hK K
  try simp only [Act.put, s1q, s2q, s3q]
  refine call_in (i := 35) rfl (by kernel_rfl) (fun K hK => ?_)
  clear hHeld
  go_simp
  refine (h6_variable 4 _).mono ?_
  rintro e v230 ⟨rfl, _, hbq⟩
  replace HRa := mvR hbq HLa HRa
  replace HLa := mvL hbq HLa
  replace HRb := mvR hbq HLb HRb
  replace HLb := mvL hbq HLb
  replace HRx := mvR hbq HLx HRx
  replace HLx := mvL hbq HLx
  replace HRy := mvR hbq HLy HRy
  replace HLy := mvL hbq HLy
  replace HRz := mvR hbq HLz HRz
  replace HLz := mvL hbq HLz
  replace HRl := mvR hbq HLl HRl
  replace HLl := mvL hbq HLl
  replace HRno := mvR hbq HLno HRno
  replace HLno := mvL hbq HLno
  replace HRr := mvR hbq HLr HRr
  replace HLr := mvL hbq HLr
  replace HTx := Lib.hid (tmP_below hbq HTx.out)
  replace HTp := Lib.hid (tmP_below hbq HTp.out)
  replace HTy := Lib.hid (tmP_below hbq HTy.out)
  replace HTf := Lib.hid (tmP_below hbq HTf.out)
  replace HTg := Lib.hid (tmP_below hbq HTg.out)
  replace HTz := Lib.hid (tmP_below hbq HTz.out)
  replace HTl := Lib.hid (tmP_below hbq HTl.out)
  replace HTh := Lib.hid (tmP_below hbq HTh.out)
  replace HTr := Lib.hid (tmP_below hbq HTr.out)
  replace HTi := Lib.hid (tmP_below hbq HTi.out)
  replace HTj := Lib.hid (tmP_below hbq HTj.out)
  replace HC := mvC hbq HC
  replace HV := mvC hbq HV
  clear hbq
  dsimp only [tv, tkOf, tnOf, tmOf]
  try (go_wp2_with fail)
  refine hK.out _ _ (hk.out _ HV.out) (fun hHeld => ?_)
  clear hK K
  try simp only [Act.put, s1q, s2q, s3q]
  refine call_in (i := 36) rfl (by kernel_rfl) (fun K hK => ?_)
  clear hHeld
  go_simp
  refine (h6_app (tvr 0) (tvr 4) _ _ _ _ _ (leaf_in 1 0 ⟨#[]⟩ _) (leaf_in 1 4 ⟨#[]⟩ _)).mono ?_
  rintro e v231 ⟨l9, s9, rfl, ht9, hbq⟩
  obtain ⟨⟨k1, k2, k3, rfl⟩, k4, k5, k6, rfl⟩ := tmP_slices ht9
  replace HRa := mvR hbq HLa HRa
  replace HLa := mvL hbq HLa
  replace HRb := mvR hbq HLb HRb
  replace HLb := mvL hbq HLb
  replace HRx := mvR hbq HLx HRx
  replace HLx := mvL hbq HLx
  replace HRy := mvR hbq HLy HRy
  replace HLy := mvL hbq HLy
  replace HRz := mvR hbq HLz HRz
  replace HLz := mvL hbq HLz
  replace HRl := mvR hbq HLl HRl
  replace HLl := mvL hbq HLl
  replace HRno := mvR hbq HLno HRno
  replace HLno := mvL hbq HLno
  replace HRr := mvR hbq HLr HRr
  replace HLr := mvL hbq HLr
  replace HTx := Lib.hid (tmP_below hbq HTx.out)
  replace HTp := Lib.hid (tmP_below hbq HTp.out)
  replace HTy := Lib.hid (tmP_below hbq HTy.out)
  replace HTf := Lib.hid (tmP_below hbq HTf.out)
  replace HTg := Lib.hid (tmP_below hbq HTg.out)
  replace HTz := Lib.hid (tmP_below hbq HTz.out)
  replace HTl := Lib.hid (tmP_below hbq HTl.out)
  replace HTh := Lib.hid (tmP_below hbq HTh.out)
  replace HTr := Lib.hid (tmP_below hbq HTr.out)
  replace HTi := Lib.hid (tmP_below hbq HTi.out)
  replace HTj := Lib.hid (tmP_below hbq HTj.out)
  replace HC := mvC hbq HC
  replace HV := mvC hbq HV
  have HTk := Lib.hid ht9
  clear hbq ht9
  dsimp only [tv, tkOf, tnOf, tmOf]
  try (go_wp2_with fail)
  refine hK.out _ _ (hk.out _ HV.out) (fun hHeld => ?_)
  clear hK K
  try simp only [Act.put, s1q, s2q, s3q]
  refine call_in (i := 37) rfl (by kernel_rfl) (fun K hK => ?_)
  clear hHeld
  go_simp
  refine (h6_lam (tvr 3) (tap (tvr 0) (tvr 4)) _ _ _ _ _ (leaf_in 1 3 ⟨#[]⟩ _) HTk.out).mono ?_
  rintro e v232 ⟨l9, s9, rfl, ht9, hbq⟩
  obtain ⟨⟨m1, m2, m3, rfl⟩, m4, m5, m6, rfl⟩ := tmP_slices ht9
  replace HRa := mvR hbq HLa HRa
  replace HLa := mvL hbq HLa
  replace HRb := mvR hbq HLb HRb
  replace HLb := mvL hbq HLb
  replace HRx := mvR hbq HLx HRx
  replace HLx := mvL hbq HLx
  replace HRy := mvR hbq HLy HRy
  replace HLy := mvL hbq HLy
  replace HRz := mvR hbq HLz HRz
  replace HLz := mvL hbq HLz
  replace HRl := mvR hbq HLl HRl
  replace HLl := mvL hbq HLl
  replace HRno := mvR hbq HLno HRno
  replace HLno := mvL hbq HLno
  replace HRr := mvR hbq HLr HRr
  replace HLr := mvL hbq HLr
  replace HTx := Lib.hid (tmP_below hbq HTx.out)
  replace HTp := Lib.hid (tmP_below hbq HTp.out)
  replace HTy := Lib.hid (tmP_below hbq HTy.out)
  replace HTf := Lib.hid (tmP_below hbq HTf.out)
  replace HTg := Lib.hid (tmP_below hbq HTg.out)
  replace HTz := Lib.hid (tmP_below hbq HTz.out)
  replace HTl := Lib.hid (tmP_below hbq HTl.out)
  replace HTh := Lib.hid (tmP_below hbq HTh.out)
  replace HTr := Lib.hid (tmP_below hbq HTr.out)
  replace HTi := Lib.hid (tmP_below hbq HTi.out)
  replace HTj := Lib.hid (tmP_below hbq HTj.out)
  replace HTk := Lib.hid (tmP_below hbq HTk.out)
  replace HC := mvC hbq HC
  replace HV := mvC hbq HV
  have HTm := Lib.hid ht9
  clear hbq ht9
  dsimp only [tv, tkOf, tnOf, tmOf]
  try (go_wp2_with fail)
  refine hK.out _ _ (hk.out _ HV.out) (fun hHeld => ?_)
  clear hK K
  try simp only [Act.put, s1q, s2q, s3q]
  refine call_in (i := 38) rfl (by kernel_rfl) (fun K hK => ?_)
  clear hHeld
  go_simp
  refine (sameTerm_is tz2 _ _ _ ⟨_, _, rfl, HTz.out⟩ ⟨_, _, rfl, HTm.out⟩).mono ?_
  rintro e v233 ⟨rfl, hbq⟩
  replace HRa := mvR hbq HLa HRa
  replace HLa := mvL hbq HLa
  replace HRb := mvR hbq HLb HRb
  replace HLb := mvL hbq HLb
  replace HRx := mvR hbq HLx HRx
  replace HLx := mvL hbq HLx
  replace HRy := mvR hbq HLy HRy
  replace HLy := mvL hbq HLy
  replace HRz := mvR hbq HLz HRz
  replace HLz := mvL hbq HLz
  replace HRl := mvR hbq HLl HRl
  replace HLl := mvL hbq HLl
  replace HRno := mvR hbq HLno HRno
  replace HLno := mvL hbq HLno
  replace HRr := mvR hbq HLr HRr
  replace HLr := mvL hbq HLr
  replace HTx := Lib.hid (tmP_below hbq HTx.out)
  replace HTp := Lib.hid (tmP_below hbq HTp.out)
  replace HTy := Lib.hid (tmP_below hbq HTy.out)
  replace HTf := Lib.hid (tmP_below hbq HTf.out)
  replace HTg := Lib.hid (tmP_below hbq HTg.out)
  replace HTz := Lib.hid (tmP_below hbq HTz.out)
  replace HTl := Lib.hid (tmP_below hbq HTl.out)
  replace HTh := Lib.hid (tmP_below hbq HTh.out)
  replace HTr := Lib.hid (tmP_below hbq HTr.out)
  replace HTi := Lib.hid (tmP_below hbq HTi.out)
  replace HTj := Lib.hid (tmP_below hbq HTj.out)
  replace HTk := Lib.hid (tmP_below hbq HTk.out)
  replace HTm := Lib.hid (tmP_below hbq HTm.out)
  replace HC := mvC hbq HC
  replace HV := mvC hbq HV
  clear hbq
  try (go_wp2_with fail)
  refine hK.out _ _ (hk.out _ HV.out) (fun hHeld => ?_)
  clear hK K
  try simp only [Act.put, s1q, s2q, s3q]
  refine take_in (i := 39) (v := ?_) rfl (by kernel_rfl) (by kernel_rfl) (by kernel_rfl) (fun _ _ _ h => h) (by rfl) ?_ hHeld ?_
  rotate_left
  ·intro w hSw
   (try dsimp only at hSw)
   go_simp
   try with_reducible rfl
  try simp only [Act.put, s1q, s2q, s3q]
  refine take_in (i := 40) (v := ?_) rfl (by kernel_rfl) (by kernel_rfl) (by kernel_rfl) (fun _ _ _ h => h) (by rfl) ?_ hHeld ?_
  rotate_left
  ·intro w hSw
   (try dsimp only at hSw)
   go_simp
   try with_reducible rfl
  try simp only [Act.put, s1q, s2q, s3q]
  refine take_in (i := 41) (v := ?_) rfl (by kernel_rfl) (by kernel_rfl) (by kernel_rfl) (fun _ _ _ h => h) (by rfl) ?_ hHeld ?_
  rotate_left
  ·intro w hSw
   (try dsimp only at hSw)
   go_simp
   try with_reducible rfl
  try simp only [Act.put, s1q, s2q, s3q]
  refine take_in (i := 42) (v := ?_) rfl (by kernel_rfl) (by kernel_rfl) (by kernel_rfl) (fun _ _ _ h => h) (by rfl) ?_ hHeld ?_
  rotate_left
  ·intro w hSw
   (try dsimp only at hSw)
   go_simp
   try with_reducible rfl
  try simp only [Act.put, s1q, s2q, s3q]
  refine take_in (i := 43) (v := ?_) rfl (by kernel_rfl) (by kernel_rfl) (by kernel_rfl) (fun _ _ _ h => h) (by rfl) ?_ hHeld ?_
  rotate_left
  ·intro w hSw
   (try dsimp only at hSw)
   go_simp
   try with_reducible rfl
  try simp only [Act.put, s1q, s2q, s3q]
  refine take_in (i := 44) (v := ?_) rfl (by kernel_rfl) (by kernel_rfl) (by kernel_rfl) (fun _ _ _ h => h) (by rfl) ?_ hHeld ?_
  rotate_left
  ·intro w hSw
   (try dsimp only at hSw)
   go_simp
   try with_reducible rfl
  try simp only [Act.put, s1q, s2q, s3q]
  refine take_in (i := 45) (v := ?_) rfl (by kernel_rfl) (by kernel_rfl) (by kernel_rfl) (fun _ _ _ h => h) (by rfl) ?_ hHeld ?_
  rotate_left
  ·intro w hSw
   (try dsimp only at hSw)
   go_simp
   try with_reducible rfl
  try simp only [Act.put, s1q, s2q, s3q]
  refine take_in (i := 46) (v := ?_) rfl (by kernel_rfl) (by kernel_rfl) (by kernel_rfl) (fun _ _ _ h => h) (by rfl) ?_ hHeld ?_
  rotate_left
  ·intro w hSw
   (try dsimp only at hSw)
   go_simp
   try with_reducible rfl
  try simp only [Act.put, s1q, s2q, s3q]
  refine call_in (i := 47) rfl (by kernel_rfl) (fun K hK => ?_)
  clear hHeld
  go_simp
  refine (h6_variable 0 _).mono ?_
  rintro e v234 ⟨rfl, _, hbq⟩
  replace HRa := mvR hbq HLa HRa
  replace HLa := mvL hbq HLa
  replace HRb := mvR hbq HLb HRb
  replace HLb := mvL hbq HLb
  replace HRx := mvR hbq HLx HRx
  replace HLx := mvL hbq HLx
  replace HRy := mvR hbq HLy HRy
  replace HLy := mvL hbq HLy
  replace HRz := mvR hbq HLz HRz
  replace HLz := mvL hbq HLz
  replace HRl := mvR hbq HLl HRl
  replace HLl := mvL hbq HLl
  replace HRno := mvR hbq HLno HRno
  replace HLno := mvL hbq HLno
  replace HRr := mvR hbq HLr HRr
  replace HLr := mvL hbq HLr
  replace HTx := Lib.hid (tmP_below hbq HTx.out)
  replace HTp := Lib.hid (tmP_below hbq HTp.out)
  replace HTy := Lib.hid (tmP_below hbq HTy.out)
  replace HTf := Lib.hid (tmP_below hbq HTf.out)
  replace HTg := Lib.hid (tmP_below hbq HTg.out)
  replace HTz := Lib.hid (tmP_below hbq HTz.out)
  replace HTl := Lib.hid (tmP_below hbq HTl.out)
  replace HTh := Lib.hid (tmP_below hbq HTh.out)
  replace HTr := Lib.hid (tmP_below hbq HTr.out)
  replace HTi := Lib.hid (tmP_below hbq HTi.out)
  replace HTj := Lib.hid (tmP_below hbq HTj.out)
  replace HTk := Lib.hid (tmP_below hbq HTk.out)
  replace HTm := Lib.hid (tmP_below hbq HTm.out)
  replace HC := mvC hbq HC
  replace HV := mvC hbq HV
  clear hbq
  dsimp only [tv, tkOf, tnOf, tmOf]
  try (go_wp2_with fail)
  refine hK.out _ _ (hk.out _ HV.out) (fun hHeld => ?_)
  clear hK K
  try simp only [Act.put, s1q, s2q, s3q]
  refine call_in (i := 48) rfl (by kernel_rfl) (fun K hK => ?_)
  clear hHeld
  go_simp
  refine (h6_variable 1 _).mono ?_
  rintro e v235 ⟨rfl, _, hbq⟩
  replace HRa := mvR hbq HLa HRa
  replace HLa := mvL hbq HLa
  replace HRb := mvR hbq HLb HRb
  replace HLb := mvL hbq HLb
  replace HRx := mvR hbq HLx HRx
  replace HLx := mvL hbq HLx
  replace HRy := mvR hbq HLy HRy
  replace HLy := mvL hbq HLy
  replace HRz := mvR hbq HLz HRz
  replace HLz := mvL hbq HLz
  replace HRl := mvR hbq HLl HRl
  replace HLl := mvL hbq HLl
  replace HRno := mvR hbq HLno HRno
  replace HLno := mvL hbq HLno
  replace HRr := mvR hbq HLr HRr
  replace HLr := mvL hbq HLr
  replace HTx := Lib.hid (tmP_below hbq HTx.out)
  replace HTp := Lib.hid (tmP_below hbq HTp.out)
  replace HTy := Lib.hid (tmP_below hbq HTy.out)
  replace HTf := Lib.hid (tmP_below hbq HTf.out)
  replace HTg := Lib.hid (tmP_below hbq HTg.out)
  replace HTz := Lib.hid (tmP_below hbq HTz.out)
  replace HTl := Lib.hid (tmP_below hbq HTl.out)
  replace HTh := Lib.hid (tmP_below hbq HTh.out)
  replace HTr := Lib.hid (tmP_below hbq HTr.out)
  replace HTi := Lib.hid (tmP_below hbq HTi.out)
  replace HTj := Lib.hid (tmP_below hbq HTj.out)
  replace HTk := Lib.hid (tmP_below hbq HTk.out)
  replace HTm := Lib.hid (tmP_below hbq HTm.out)
  replace HC := mvC hbq HC
  replace HV := mvC hbq HV
  clear hbq
  dsimp only [tv, tkOf, tnOf, tmOf]
  try (go_wp2_with fail)
  refine hK.out _ _ (hk.out _ HV.out) (fun hHeld => ?_)
  clear hK K
  try simp only [Act.put, s1q, s2q, s3q]
  refine call_in (i := 49) rfl (by kernel_rfl) (fun K hK => ?_)
  clear hHeld
  go_simp
  refine (h6_lam (tvr 0) (tvr 1) _ _ _ _ _ (leaf_in 1 0 ⟨#[]⟩ _) (leaf_in 1 1 ⟨#[]⟩ _)).mono ?_
  rintro e v236 ⟨l9, s9, rfl, ht9, hbq⟩
  obtain ⟨⟨n1, n2, n3, rfl⟩, n4, n5, n6, rfl⟩ := tmP_slices ht9
  replace HRa := mvR hbq HLa HRa
  replace HLa := mvL hbq HLa
  replace HRb := mvR hbq HLb HRb
  replace HLb := mvL hbq HLb
  replace HRx := mvR hbq HLx HRx
  replace HLx := mvL hbq HLx
  replace HRy := mvR hbq HLy HRy
  replace HLy := mvL hbq HLy
  replace HRz := mvR hbq HLz HRz
  replace HLz := mvL hbq HLz
  replace HRl := mvR hbq HLl HRl
  replace HLl := mvL hbq HLl
  replace HRno := mvR hbq HLno HRno
  replace HLno := mvL hbq HLno
  replace HRr := mvR hbq HLr HRr
  replace HLr := mvL hbq HLr
  replace HTx := Lib.hid (tmP_below hbq HTx.out)
  replace HTp := Lib.hid (tmP_below hbq HTp.out)
  replace HTy := Lib.hid (tmP_below hbq HTy.out)
  replace HTf := Lib.hid (tmP_below hbq HTf.out)
  replace HTg := Lib.hid (tmP_below hbq HTg.out)
  replace HTz := Lib.hid (tmP_below hbq HTz.out)
  replace HTl := Lib.hid (tmP_below hbq HTl.out)
  replace HTh := Lib.hid (tmP_below hbq HTh.out)
  replace HTr := Lib.hid (tmP_below hbq HTr.out)
  replace HTi := Lib.hid (tmP_below hbq HTi.out)
  replace HTj := Lib.hid (tmP_below hbq HTj.out)
  replace HTk := Lib.hid (tmP_below hbq HTk.out)
  replace HTm := Lib.hid (tmP_below hbq HTm.out)
  replace HC := mvC hbq HC
  replace HV := mvC hbq HV
  have HTn := Lib.hid ht9
  clear hbq ht9
  dsimp only [tv, tkOf, tnOf, tmOf]
  try (go_wp2_with fail)
  refine hK.out _ _ (hk.out _ HV.out) (fun hHeld => ?_)
  clear hK K
  try simp only [Act.put, s1q, s2q, s3q]
  refine call_in (i := 50) rfl (by kernel_rfl) (fun K hK => ?_)
  clear hHeld
  go_simp
  refine (sameTerm_is (tlm (tvr 0) (tvr 1)) _ _ _ ⟨_, _, rfl, HTr.out⟩ ⟨_, _, rfl, HTn.out⟩).mono ?_
  rintro e v237 ⟨rfl, hbq⟩
  replace HRa := mvR hbq HLa HRa
  replace HLa := mvL hbq HLa
  replace HRb := mvR hbq HLb HRb
  replace HLb := mvL hbq HLb
  replace HRx := mvR hbq HLx HRx
  replace HLx := mvL hbq HLx
  replace HRy := mvR hbq HLy HRy
  replace HLy := mvL hbq HLy
  replace HRz := mvR hbq HLz HRz
  replace HLz := mvL hbq HLz
  replace HRl := mvR hbq HLl HRl
  replace HLl := mvL hbq HLl
  replace HRno := mvR hbq HLno HRno
  replace HLno := mvL hbq HLno
  replace HRr := mvR hbq HLr HRr
  replace HLr := mvL hbq HLr
  replace HTx := Lib.hid (tmP_below hbq HTx.out)
  replace HTp := Lib.hid (tmP_below hbq HTp.out)
  replace HTy := Lib.hid (tmP_below hbq HTy.out)
  replace HTf := Lib.hid (tmP_below hbq HTf.out)
  replace HTg := Lib.hid (tmP_below hbq HTg.out)
  replace HTz := Lib.hid (tmP_below hbq HTz.out)
  replace HTl := Lib.hid (tmP_below hbq HTl.out)
  replace HTh := Lib.hid (tmP_below hbq HTh.out)
  replace HTr := Lib.hid (tmP_below hbq HTr.out)
  replace HTi := Lib.hid (tmP_below hbq HTi.out)
  replace HTj := Lib.hid (tmP_below hbq HTj.out)
  replace HTk := Lib.hid (tmP_below hbq HTk.out)
  replace HTm := Lib.hid (tmP_below hbq HTm.out)
  replace HTn := Lib.hid (tmP_below hbq HTn.out)
  replace HC := mvC hbq HC
  replace HV := mvC hbq HV
  clear hbq
  try (go_wp2_with fail)
  refine hK.out _ _ (hk.out _ HV.out) (fun hHeld => ?_)
  clear hK K
  try simp only [Act.put, s1q, s2q, s3q]
  refine take_in (i := 51) (v := ?_) rfl (by kernel_rfl) (by kernel_rfl) (by kernel_rfl) (fun _ _ _ h => h) (by rfl) ?_ hHeld ?_
  rotate_left
  ·intro w hSw
   (try dsimp only at hSw)
   go_simp
   try with_reducible rfl
  try simp only [Act.put, s1q, s2q, s3q]
  refine take_in (i := 52) (v := ?_) rfl (by kernel_rfl) (by kernel_rfl) (by kernel_rfl) (fun _ _ _ h => h) (by rfl) ?_ hHeld ?_
  rotate_left
  ·intro w hSw
   (try dsimp only at hSw)
   go_simp
   try with_reducible rfl
  try simp only [Act.put, s1q, s2q, s3q]
  refine take_in (i := 53) (v := ?_) rfl (by kernel_rfl) (by kernel_rfl) (by kernel_rfl) (fun _ _ _ h => h) (by rfl) ?_ hHeld ?_
  rotate_left
  ·intro w hSw
   (try dsimp only at hSw)
   go_simp
   try with_reducible rfl
  try simp only [Act.put, s1q, s2q, s3q]
  refine call_in (i := 54) rfl (by kernel_rfl) (fun K hK => ?_)
  clear hHeld
  go_simp
  refine (buses_is Nm.rightB 3 tz2 _ _ _ HTz.out (nm_two 5 (nm_leaf 1 3 ⟨#[]⟩ (by decide)) (nm_two 4 (nm_leaf 1 0 ⟨#[]⟩ (by decide)) (nm_leaf 1 4 ⟨#[]⟩ (by decide)))) (HCN.out.below HC.out) true al14).mono ?_
  rintro e v238 ⟨rfl, hbq⟩
  replace HRa := mvR hbq HLa HRa
  replace HLa := mvL hbq HLa
  replace HRb := mvR hbq HLb HRb
  replace HLb := mvL hbq HLb
  replace HRx := mvR hbq HLx HRx
  replace HLx := mvL hbq HLx
  replace HRy := mvR hbq HLy HRy
  replace HLy := mvL hbq HLy
  replace HRz := mvR hbq HLz HRz
  replace HLz := mvL hbq HLz
  replace HRl := mvR hbq HLl HRl
  replace HLl := mvL hbq HLl
  replace HRno := mvR hbq HLno HRno
  replace HLno := mvL hbq HLno
  replace HRr := mvR hbq HLr HRr
  replace HLr := mvL hbq HLr
  replace HTx := Lib.hid (tmP_below hbq HTx.out)
  replace HTp := Lib.hid (tmP_below hbq HTp.out)
  replace HTy := Lib.hid (tmP_below hbq HTy.out)
  replace HTf := Lib.hid (tmP_below hbq HTf.out)
  replace HTg := Lib.hid (tmP_below hbq HTg.out)
  replace HTz := Lib.hid (tmP_below hbq HTz.out)
  replace HTl := Lib.hid (tmP_below hbq HTl.out)
  replace HTh := Lib.hid (tmP_below hbq HTh.out)
  replace HTr := Lib.hid (tmP_below hbq HTr.out)
  replace HTi := Lib.hid (tmP_below hbq HTi.out)
  replace HTj := Lib.hid (tmP_below hbq HTj.out)
  replace HTk := Lib.hid (tmP_below hbq HTk.out)
  replace HTm := Lib.hid (tmP_below hbq HTm.out)
  replace HTn := Lib.hid (tmP_below hbq HTn.out)
  replace HC := mvC hbq HC
  replace HV := mvC hbq HV
  clear hbq
  try (go_wp2_with fail)
  refine hK.out _ _ (hk.out _ HV.out) (fun hHeld => ?_)
  clear hK K
  try simp only [Act.put, s1q, s2q, s3q]
  refine take_in (i := 55) (v := ?_) rfl (by kernel_rfl) (by kernel_rfl) (by kernel_rfl) (fun _ _ _ h => h) (by rfl) ?_ hHeld ?_
  rotate_left
  ·intro w hSw
   (try dsimp only at hSw)
   go_simp
   try with_reducible rfl
  try simp only [Act.put, s1q, s2q, s3q]
  refine take_in (i := 56) (v := ?_) rfl (by kernel_rfl) (by kernel_rfl) (by kernel_rfl) (fun _ _ _ h => h) (by rfl) ?_ hHeld ?_
  rotate_left
  ·intro w hSw
   (try dsimp only at hSw)
   go_simp
   try with_reducible rfl
  try simp only [Act.put, s1q, s2q, s3q]
  refine take_in (i := 57) (v := ?_) rfl (by kernel_rfl) (by kernel_rfl) (by kernel_rfl) (fun _ _ _ h => h) (by rfl) ?_ hHeld ?_
  rotate_left
  ·intro w hSw
   (try dsimp only at hSw)
   go_simp
   try with_reducible rfl
  try simp only [Act.put, s1q, s2q, s3q]
  refine call_in (i := 58) rfl (by kernel_rfl) (fun K hK => ?_)
  clear hHeld
  go_simp
  refine (bcount_is Nm.rightB 3 tz2 _ _ _ HTz.out (nm_two 5 (nm_leaf 1 3 ⟨#[]⟩ (by decide)) (nm_two 4 (nm_leaf 1 0 ⟨#[]⟩ (by decide)) (nm_leaf 1 4 ⟨#[]⟩ (by decide)))) (HCN.out.below HC.out) 2 al15).mono ?_
  rintro e v239 ⟨rfl, hbq⟩
  replace HRa := mvR hbq HLa HRa
  replace HLa := mvL hbq HLa
  replace HRb := mvR hbq HLb HRb
  replace HLb := mvL hbq HLb
  replace HRx := mvR hbq HLx HRx
  replace HLx := mvL hbq HLx
  replace HRy := mvR hbq HLy HRy
  replace HLy := mvL hbq HLy
  replace HRz := mvR hbq HLz HRz
  replace HLz := mvL hbq HLz
  replace HRl := mvR hbq HLl HRl
  replace HLl := mvL hbq HLl
  replace HRno := mvR hbq HLno HRno
  replace HLno := mvL hbq HLno
  replace HRr := mvR hbq HLr HRr
  replace HLr := mvL hbq HLr
  replace HTx := Lib.hid (tmP_below hbq HTx.out)
  replace HTp := Lib.hid (tmP_below hbq HTp.out)
  replace HTy := Lib.hid (tmP_below hbq HTy.out)
  replace HTf := Lib.hid (tmP_below hbq HTf.out)
  replace HTg := Lib.hid (tmP_below hbq HTg.out)
  replace HTz := Lib.hid (tmP_below hbq HTz.out)
  replace HTl := Lib.hid (tmP_below hbq HTl.out)
  replace HTh := Lib.hid (tmP_below hbq HTh.out)
  replace HTr := Lib.hid (tmP_below hbq HTr.out)
  replace HTi := Lib.hid (tmP_below hbq HTi.out)
  replace HTj := Lib.hid (tmP_below hbq HTj.out)
  replace HTk := Lib.hid (tmP_below hbq HTk.out)
  replace HTm := Lib.hid (tmP_below hbq HTm.out)
  replace HTn := Lib.hid (tmP_below hbq HTn.out)
  replace HC := mvC hbq HC
  replace HV := mvC hbq HV
  clear hbq
  try (go_wp2_with fail)
  refine hK.out _ _ (hk.out _ HV.out) (fun hHeld => ?_)
  clear hK K
  try simp only [Act.put, s1q, s2q, s3q]
  refine take_in (i := 59) (v := ?_) rfl (by kernel_rfl) (by kernel_rfl) (by kernel_rfl) (fun _ _ _ h => h) (by rfl) ?_ hHeld ?_
  rotate_left
  ·intro w hSw
   (try dsimp only at hSw)
   go_simp
   try with_reducible rfl
  try simp only [Act.put, s1q, s2q, s3q]
  refine take_in (i := 60) (v := ?_) rfl (by kernel_rfl) (by kernel_rfl) (by kernel_rfl) (fun _ _ _ h => h) (by rfl) ?_ hHeld ?_
  rotate_left
  ·intro w hSw
   (try dsimp only at hSw)
   go_simp
   try with_reducible rfl
  try simp only [Act.put, s1q, s2q, s3q]
  refine take_in (i := 61) (v := ?_) rfl (by kernel_rfl) (by kernel_rfl) (by kernel_rfl) (fun _ _ _ h => h) (by rfl) ?_ hHeld ?_
  rotate_left
  ·intro w hSw
   (try dsimp only at hSw)
   go_simp
   try with_reducible rfl
  try simp only [Act.put, s1q, s2q, s3q]
  refine take_in (i := 62) (v := ?_) rfl (by kernel_rfl) (by kernel_rfl) (by kernel_rfl) (fun _ _ _ h => h) (by rfl) ?_ hHeld ?_
  rotate_left
  ·intro w hSw
   (try dsimp only at hSw)
   go_simp
   try with_reducible rfl
  try simp only [Act.put, s1q, s2q, s3q]
  refine call_in (i := 63) rfl (by kernel_rfl) (fun K hK => ?_)
  clear hHeld
  go_simp
  refine (occurs_is Nm.rightB (tap tca tcb) _ _ ⟨#[97]⟩ _ HTx.out (by decide) (nm_two 4 (nm_leaf 3 0 ⟨#[97]⟩ (by decide)) (nm_leaf 3 0 ⟨#[98]⟩ (by decide))) (HCN.out.below HC.out) true al16).mono ?_
  rintro e v240 ⟨rfl, hbq⟩
  replace HRa := mvR hbq HLa HRa
  replace HLa := mvL hbq HLa
  replace HRb := mvR hbq HLb HRb
  replace HLb := mvL hbq HLb
  replace HRx := mvR hbq HLx HRx
  replace HLx := mvL hbq HLx
  replace HRy := mvR hbq HLy HRy
  replace HLy := mvL hbq HLy
  replace HRz := mvR hbq HLz HRz
  replace HLz := mvL hbq HLz
  replace HRl := mvR hbq HLl HRl
  replace HLl := mvL hbq HLl
  replace HRno := mvR hbq HLno HRno
  replace HLno := mvL hbq HLno
  replace HRr := mvR hbq HLr HRr
  replace HLr := mvL hbq HLr
  replace HTx := Lib.hid (tmP_below hbq HTx.out)
  replace HTp := Lib.hid (tmP_below hbq HTp.out)
  replace HTy := Lib.hid (tmP_below hbq HTy.out)
  replace HTf := Lib.hid (tmP_below hbq HTf.out)
  replace HTg := Lib.hid (tmP_below hbq HTg.out)
  replace HTz := Lib.hid (tmP_below hbq HTz.out)
  replace HTl := Lib.hid (tmP_below hbq HTl.out)
  replace HTh := Lib.hid (tmP_below hbq HTh.out)
  replace HTr := Lib.hid (tmP_below hbq HTr.out)
  replace HTi := Lib.hid (tmP_below hbq HTi.out)
  replace HTj := Lib.hid (tmP_below hbq HTj.out)
  replace HTk := Lib.hid (tmP_below hbq HTk.out)
  replace HTm := Lib.hid (tmP_below hbq HTm.out)
  replace HTn := Lib.hid (tmP_below hbq HTn.out)
  replace HC := mvC hbq HC
  replace HV := mvC hbq HV
  clear hbq
  try (go_wp2_with fail)
  refine hK.out _ _ (hk.out _ HV.out) (fun hHeld => ?_)
  clear hK K
  try simp only [Act.put, s1q, s2q, s3q]
  refine take_in (i := 64) (v := ?_) rfl (by kernel_rfl) (by kernel_rfl) (by kernel_rfl) (fun _ _ _ h => h) (by rfl) ?_ hHeld ?_
  rotate_left
  ·intro w hSw
   (try dsimp only at hSw)
   go_simp
   try with_reducible rfl
  try simp only [Act.put, s1q, s2q, s3q]
  refine take_in (i := 65) (v := ?_) rfl (by kernel_rfl) (by kernel_rfl) (by kernel_rfl) (fun _ _ _ h => h) (by rfl) ?_ hHeld ?_
  rotate_left
  ·intro w hSw
   (try dsimp only at hSw)
   go_simp
   try with_reducible rfl
  try simp only [Act.put, s1q, s2q, s3q]
  refine take_in (i := 66) (v := ?_) rfl (by kernel_rfl) (by kernel_rfl) (by kernel_rfl) (fun _ _ _ h => h) (by rfl) ?_ hHeld ?_
  rotate_left
  ·intro w hSw
   (try dsimp only at hSw)
   go_simp
   try with_reducible rfl
  try simp only [Act.put, s1q, s2q, s3q]
  refine call_in (i := 67) rfl (by kernel_rfl) (fun K hK => ?_)
  clear hHeld
  go_simp
  refine (occurs_is Nm.rightB (tap tca tcb) _ _ ⟨#[99]⟩ _ HTx.out (by decide) (nm_two 4 (nm_leaf 3 0 ⟨#[97]⟩ (by decide)) (nm_leaf 3 0 ⟨#[98]⟩ (by decide))) (HCN.out.below HC.out) false al17).mono ?_
  rintro e v241 ⟨rfl, hbq⟩
  replace HRa := mvR hbq HLa HRa
  replace HLa := mvL hbq HLa
  replace HRb := mvR hbq HLb HRb
  replace HLb := mvL hbq HLb
  replace HRx := mvR hbq HLx HRx
  replace HLx := mvL hbq HLx
  replace HRy := mvR hbq HLy HRy
  replace HLy := mvL hbq HLy
  replace HRz := mvR hbq HLz HRz
  replace HLz := mvL hbq HLz
  replace HRl := mvR hbq HLl HRl
  replace HLl := mvL hbq HLl
  replace HRno := mvR hbq HLno HRno
  replace HLno := mvL hbq HLno
  replace HRr := mvR hbq HLr HRr
  replace HLr := mvL hbq HLr
  replace HTx := Lib.hid (tmP_below hbq HTx.out)
  replace HTp := Lib.hid (tmP_below hbq HTp.out)
  replace HTy := Lib.hid (tmP_below hbq HTy.out)
  replace HTf := Lib.hid (tmP_below hbq HTf.out)
  replace HTg := Lib.hid (tmP_below hbq HTg.out)
  replace HTz := Lib.hid (tmP_below hbq HTz.out)
  replace HTl := Lib.hid (tmP_below hbq HTl.out)
  replace HTh := Lib.hid (tmP_below hbq HTh.out)
  replace HTr := Lib.hid (tmP_below hbq HTr.out)
  replace HTi := Lib.hid (tmP_below hbq HTi.out)
  replace HTj := Lib.hid (tmP_below hbq HTj.out)
  replace HTk := Lib.hid (tmP_below hbq HTk.out)
  replace HTm := Lib.hid (tmP_below hbq HTm.out)
  replace HTn := Lib.hid (tmP_below hbq HTn.out)
  replace HC := mvC hbq HC
  replace HV := mvC hbq HV
  clear hbq
  try (go_wp2_with fail)
  refine hK.out _ _ (hk.out _ HV.out) (fun hHeld => ?_)
  clear hK K
  try simp only [Act.put, s1q, s2q, s3q]
  refine take_in (i := 68) (v := ?_) rfl (by kernel_rfl) (by kernel_rfl) (by kernel_rfl) (fun _ _ _ h => h) (by rfl) ?_ hHeld ?_
  rotate_left
  ·intro w hSw
   (try dsimp only at hSw)
   go_simp
   try with_reducible rfl
  try simp only [Act.put, s1q, s2q, s3q]
  refine take_in (i := 69) (v := ?_) rfl (by kernel_rfl) (by kernel_rfl) (by kernel_rfl) (fun _ _ _ h => h) (by rfl) ?_ hHeld ?_
  rotate_left
  ·intro w hSw
   (try dsimp only at hSw)
   go_simp
   try with_reducible rfl
  try simp only [Act.put, s1q, s2q, s3q]
  refine take_in (i := 70) (v := ?_) rfl (by kernel_rfl) (by kernel_rfl) (by kernel_rfl) (fun _ _ _ h => h) (by rfl) ?_ hHeld ?_
  rotate_left
  ·intro w hSw
   (try dsimp only at hSw)
   go_simp
   try with_reducible rfl
  try simp only [Act.put, List.setIfInBounds_toArray, List.set_cons_zero]
  refine wpAnyH_done (by kernel_rfl) ?_ _
  go_wp2_with fail
  go_ret
  exact ⟨rfl, HC.out⟩
end Bnd
end Go.Proofs.YteomfakbbcpckaaGreatDoor
