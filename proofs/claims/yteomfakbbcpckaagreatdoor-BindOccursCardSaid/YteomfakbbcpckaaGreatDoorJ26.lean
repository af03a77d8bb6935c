/-
  Plain facts and contracts that the law's proof stands on, joined.
  Conditions: each fact's own.
-/
import Derived.Test.YteomfakbbcpckaaGreatDoorJ12
import Derived.Test.YteomfakbbcpckaaGreatDoorJ25
import Derived.Maps.OwnIn
namespace Go.Proofs.YteomfakbbcpckaaGreatDoor
open Go.RowKit Go.Shelf Go.Maps
open Lvl
open Trm
namespace Bnd
attribute [local go_sem] Oper.semAt_some
theorem keyLawS : Keyed Tryz.prog 9 := string_keyed Tryz.underlying9
theorem zeroI (w : World) : (zeroValue 3).run Tryz.prog w = .ok (.int .i64 0) w := by kernel_rfl
def lastP (s : ByteArray) (L : List (Nat × ByteArray)) : Option Nat := L.foldl (fun r q => if q.2 = s then some q.1 else r) none
theorem lastP_snoc (s : ByteArray) (L : List (Nat × ByteArray)) (i : Nat) (a : ByteArray) : lastP s (L ++ [(i, a)]) = if a = s then some i else lastP s L := by
 unfold lastP
 rw [List.foldl_append]
 rfl
def MapF (D : DataW Unit) (L : List (Nat × ByteArray)) : Prop := IsMap D ∧ ∀ s : ByteArray, Maps.has D (.string s.data.toList) = (lastP s L).isSome ∧ D.atKey (.string s.data.toList) (.lit (.int .i64 0)) = .lit (.int .i64 (((lastP s L).getD 0 : Nat) : Int))
theorem mapF_nil : MapF (.map []) [] := ⟨isMap_empty, fun _ => ⟨rfl, rfl⟩⟩
theorem mapF_snoc {D : DataW Unit} {L : List (Nat × ByteArray)} (h : MapF D L) (i : Nat) (a : ByteArray) : MapF (D.put (.string a.data.toList) (.lit (.int .i64 (i : Int)))) (L ++ [(i, a)]) := by
 obtain ⟨h1, h2⟩ := h
 have hka : WideAt.IsKeyLit (.string a.data.toList) := trivial
 refine ⟨?_, fun s => ?_⟩
 ·obtain ⟨es, rfl⟩ := h1
  exact ⟨_, rfl⟩
 ·rw [lastP_snoc]
  by_cases e : a = s
  ·subst e
   rw [atKey_put_same h1 hka, has_put_same h1 hka, if_pos rfl]
   exact ⟨rfl, rfl⟩
  ·have hne : (Lit.string s.data.toList) ≠ .string a.data.toList := fun h => e (by
    injection h with h
    cases a; cases s
    exact congrArg ByteArray.mk (Array.toList_inj.1 h.symm))
   rw [atKey_put_other hne, has_put_other hne, (h2 s).1, (h2 s).2, if_neg e]
   exact ⟨rfl, rfl⟩
theorem map_keep6 {w w' : World} {bm n : Nat} {D : DataW Unit} {T : TypeId} {R : Value → Option (DataW Unit × List MemPlace)} (h : w.ownsMap Tryz.prog T R bm n D) (hk : w'.heap[bm]? = w.heap[bm]?) : w'.ownsMap Tryz.prog T R bm n D := by
 obtain ⟨es, clock, h1, h2, h3, h4⟩ := h
 exact ⟨es, clock, hk.trans h1, h2, h3, h4⟩
structure ItS (w0 : World) where
 i : Nat
 x : ByteArray
 le : x.size ≤ 140737488355328
 hi : i ≤ 140737488355328
def ItS.tag {w0 : World} (y : ItS w0) : Nat × ByteArray := (y.i, y.x)
def ItS.enc {w0 : World} (y : ItS w0) : Array Value := #[.int .i64 y.i, .string y.x]
def placed : List ByteArray → Nat → List (Nat × ByteArray)
 | [], _ => []
 | a :: l, i => placed l (i + 1) ++ [(i, a)]
theorem placed_len : ∀ (l : List ByteArray) (i : Nat), (placed l i).length = l.length
 | [], _ => rfl
 | a :: l, i => by rw [placed, List.length_append, placed_len l, List.length_singleton, List.length_cons]
theorem placed_drop {l : List ByteArray} {j : Nat} (h : j < l.length) : placed (l.drop j) j = placed (l.drop (j + 1)) (j + 1) ++ [(j, l[j])] := by
 rw [List.drop_eq_getElem_cons h, placed]
theorem placed_pfx (l : List ByteArray) : ∀ j, j ≤ l.length → placed (l.drop j) j <+: placed l 0
 | 0, _ => by
  rw [List.drop_zero]
  exact List.prefix_refl _
 | j + 1, h => by
  have h1 := placed_drop (l := l) (j := j) (by omega)
  have h2 := placed_pfx l j (by omega)
  rw [h1] at h2
  exact (List.prefix_append _ _).trans h2
theorem last_placed (s : ByteArray) : ∀ (l : List ByteArray) (i : Nat), lastP s (placed l i) = if fstI s l < l.length then some (i + fstI s l) else none
 | [], i => by
  have h0 : ¬ fstI s [] < ([] : List ByteArray).length := by simp
  rw [if_neg h0]
  rfl
 | a :: l, i => by
  rw [placed, lastP_snoc, last_placed s l (i + 1), fstI, List.length_cons]
  by_cases e : a = s
  ·rw [if_pos e, if_pos e, if_pos (by omega), Nat.add_zero]
  ·rw [if_neg e, if_neg e]
   by_cases h : fstI s l < l.length
   ·rw [if_pos h, if_pos (by omega), show i + 1 + fstI s l = i + (fstI s l + 1) by omega]
   ·rw [if_neg h, if_neg (by omega)]
set_option maxHeartbeats 1000000 in
theorem sBackward_in (A : Option Addr) (len cap : Nat) (w : World) :
  Calls Tryz.prog 71 #[.slice A len cap] w fun e w' => e = .returned (.func (.func 100) #[] #[.pointer (some ⟨w.heap.size, 0, none⟩)]) ∧ w' = w.alloc (.cells #[.slice A len cap] 37) := by
 go_enter Tryz.func71, Tryz.ntmps71
 go_wp2_with fail
 go_ret
 exact ⟨rfl, rfl⟩
set_option maxRecDepth 100000 in
set_option maxHeartbeats 2000000 in
theorem sBack_stops (w0 : World) (D X Bc : Nat) (ts : List ByteArray) (A : Option Addr) (len cap : Nat) (w : World) (hs : Txt w0 A ts) (hle : ∀ x ∈ ts, x.size ≤ 140737488355328) (hl : ts.length = len) (h47 : len ≤ 140737488355328) (hB : w.heap[Bc]? = some (.cells #[.slice A len cap] 37 (0, 0))) (hBD : Bc < D) (hBX : Bc ≠ X) (hD : w0.heap.size ≤ D) (hX : w0.heap.size ≤ X) (hbw : Below w0.heap.size w0 w) :
  SeqStopsK Fence.wide 12 Tryz.prog 100 #[.pointer (some ⟨Bc, 0, none⟩)] (ItS.enc (w0 := w0)) (KpX D X) (fun xs => xs.map ItS.tag = placed ts 0) (fun xs => xs.map ItS.tag <+: placed ts 0) ts.length w := by
 intro l J Jx W hW hJ hJx hY h0
 have hr := (hW.block Bc (Array.getElem?_eq_some_iff.1 hB).1).trans hB
 have hc := cell_of_row W Bc 0 _ 37 (0, 0) hr
 have HR := Lib.hid hr
 have HS := Lib.hid hs
 have HLE := Lib.hid hle
 have HN := Lib.hid hl
 have HY := Lib.hid hY
 have HB0 := Lib.hid (hbw.trans (hW.mono hbw.size))
 clear hr hs hl hle hY hJ hJx hB hbw hW
 refine callsIn_of_wp Tryz.func100 rfl trivial ?_ rfl
 simp only [Tryz.ntmps100, List.size_toArray, List.length_cons, List.length_nil, Nat.reduceAdd, Nat.reduceSub, Array.replicate_succ, Array.replicate_zero, List.push_toArray, List.append_toArray, List.nil_append, List.cons_append]
 gi_wp2
 gi_loopw [3] (fun i wr => ∃ (m : Nat) (xs : List (ItS w0)), m ≤ len ∧ i = .int .i64 ((len : Int) - 1 - (m : Int)) ∧ Hid (xs.map ItS.tag = placed (ts.drop (len - m)) (len - m)) ∧ Hid (J xs wr) ∧ Hid (KpX D X W wr)) (fun i _ => (intOf i + 1).toNat)
 case atStart =>
  refine ⟨0, [], Nat.zero_le _, by congr 1; omega, ?_, h0, KpX.refl _ _ _⟩
  have : ([] : List (ItS w0)).map ItS.tag = placed (ts.drop (len - 0)) (len - 0) := by rw [List.drop_of_length_le (by rw [HN.out]; omega)]; rfl
  exact this
 case round =>
  obtain ⟨m, xs, hm, rfl, htag, hj, hkp⟩ := hrel
  have hcr := cell_of_row wr Bc 0 _ 37 (0, 0) ((hkp.out.2 Bc hBD hBX).trans HR.out)
  have HBr := Lib.hid (HB0.out.trans (hkp.out.below hD hX))
  by_cases hlt : m < len
  ·obtain ⟨j, hjm⟩ : ∃ j, j = len - 1 - m := ⟨_, rfl⟩
   have hi : (len : Int) - 1 - (m : Int) = (j : Int) := by omega
   rw [hi]
   have hge : decide ((0 : Int) ≤ (j : Int)) = true := by simp
   have hx1 : j < ts.length := by rw [HN.out]; omega
   obtain ⟨bk, o, rfl, hbs, hcc⟩ := HS.out (fun e => by rw [e] at hx1; cases hx1)
   have d0 := (HBr.out.cell (p := ⟨bk, _, none⟩) hbs).trans (hcc j _ (List.getElem?_eq_getElem hx1))
   have hej : len - m = j + 1 ∧ len - (m + 1) = j := by omega
   have hsz := HLE.out _ (List.getElem_mem hx1)
   have hjz : j ≤ 140737488355328 := by omega
   have HTG : Hid ((xs ++ [(⟨j, ts[j], hsz, hjz⟩ : ItS w0)]).map ItS.tag = placed (ts.drop (len - (m + 1))) (len - (m + 1))) := by
    have : (xs ++ [(⟨j, ts[j], hsz, hjz⟩ : ItS w0)]).map ItS.tag = placed (ts.drop (len - (m + 1))) (len - (m + 1)) := by
     rw [List.map_append, htag.out, hej.1, hej.2, placed_drop hx1]
     rfl
    exact this
   have HPF : Hid (placed (ts.drop (len - (m + 1))) (len - (m + 1)) <+: placed ts 0) := placed_pfx ts _ (by rw [HN.out]; omega)
   have hlen : xs.length < ts.length := by
    have : xs.length = m := by
     rw [← List.length_map (f := ItS.tag), htag.out, placed_len, List.length_drop, HN.out]
     omega
    rw [this, HN.out]
    exact hlt
   obtain ⟨Y, hYY⟩ : ∃ Y : ItS w0, Y = ⟨j, ts[j], hsz, hjz⟩ := ⟨_, rfl⟩
   rw [← hYY] at HTG
   obtain ⟨fn, tmps, assign, body, hy, hR⟩ := HY.out xs Y wr hj.out hlen
   rw [show Y.enc = #[.int .i64 j, .string ts[j]] by subst hYY; rfl] at hy
   have HRh := Lib.hid hR
   have q1 : (0 : Int) ≤ (j : Int) := by omega
   have q2 : (j : Int) < (len : Int) := by omega
   have HJM := Lib.hid hjm
   clear hR hYY hcc hjm hi hej hsz
   generalize ts[j] = xj at *
   gi_wp2
   have hR := HRh.out
   clear HRh hy d0
   refine hR.mono ?_
   clear hR
   rintro e W3 (⟨rfl, hJ3, hk3⟩ | ⟨rfl, hx3⟩)
   ·have HJ3 := Lib.hid hJ3
    have HK3 := Lib.hid (hkp.out.trans hk3)
    clear hJ3 hk3
    gi_wp2
    go_roundw
    case rel => exact ⟨m + 1, xs ++ [Y], by omega, by have := HJM.out; congr 1; omega, HTG.out, HJ3.out, HK3.out⟩
    case measure => have := HJM.out; simp [intOf]
   ·have HX3 := Lib.hid hx3
    clear hx3
    gi_wp2
    refine bodyPost_ret (results_none rfl _ _ _) rfl ?_
    exact ⟨⟨_, rfl⟩, .inr ⟨xs ++ [Y], by rw [HTG.out]; exact HPF.out, HX3.out⟩⟩
  ·have hi : (len : Int) - 1 - (m : Int) = -1 := by omega
   rw [hi]
   have htag' : xs.map ItS.tag = placed ts 0 := by
    have := htag.out
    rwa [show len - m = 0 by omega, List.drop_zero] at this
   gi_wp2
   go_end0
   exact ⟨⟨_, rfl⟩, .inl ⟨xs, htag', hj.out⟩⟩
set_option maxRecDepth 100000 in
set_option maxHeartbeats 2000000 in
theorem firstPlaces_is (ts : List ByteArray) (A : Option Addr) (len cap : Nat) (w : World) (hs : Txt w A ts) (hle : ∀ x ∈ ts, x.size ≤ 140737488351232) (hl : ts.length = len) (h47 : len ≤ 1000000) :
  Calls Tryz.prog 49 #[.slice A len cap] w (fun e w' => ∃ bm n D, e = .returned (.map (some bm)) ∧ w'.ownsMap Tryz.prog 9 (plainElem Tryz.prog 3) bm n D ∧ MapF D (placed ts 0) ∧ w.heap.size ≤ bm ∧ Below w.heap.size w w') := by
 have hmm := @run_makeMap Tryz.prog
 have HS := Lib.hid hs
 have HLE := Lib.hid (fun x hx => Nat.le_trans (hle x hx) (show 140737488351232 ≤ 140737488355328 by decide))
 have HLX := Lib.hid hle
 have HL := Lib.hid hl
 clear hs hle hl
 refine (callsIn_wide (n := 13)).1 (callsIn_of_wp_marks Tryz.func49 rfl trivial ?_ rfl)
 simp only [Tryz.ntmps49, List.size_toArray, List.length_cons, List.length_nil, Nat.reduceAdd, Nat.reduceSub, Array.replicate_succ, Array.replicate_zero, List.push_toArray, List.append_toArray, List.nil_append, List.cons_append]
 gi_wp2_with (refine ⟨trivial, ?_⟩; gi_at_call 71; refine (callsIn_wide.2 (sBackward_in A len cap _)).mono ?_; rintro e w' ⟨rfl, rfl⟩)
 have z1 : (w.alloc (.map #[] 0)).heap.size = w.heap.size + 1 := by simp
 have z2 : ((w.alloc (.map #[] 0)).alloc (.cells #[.map (some w.heap.size)] 68)).heap.size = w.heap.size + 1 + 1 := by simp
 have z3 : (((w.alloc (.map #[] 0)).alloc (.cells #[.map (some w.heap.size)] 68)).alloc (.cells #[.slice A len cap] 37)).heap.size = w.heap.size + 1 + 1 + 1 := by simp
 have b1 := below_lit w (.map #[] 0)
 have b2 := b1.trans ((below_lit (w.alloc (.map #[] 0)) (.cells #[.map (some w.heap.size)] 68)).mono b1.size)
 have HB := Lib.hid (b2.trans ((below_lit ((w.alloc (.map #[] 0)).alloc (.cells #[.map (some w.heap.size)] 68)) (.cells #[.slice A len cap] 37)).mono b2.size))
 have r1 : ((w.alloc (.map #[] 0)).alloc (.cells #[.map (some w.heap.size)] 68)).heap[w.heap.size + 1]? = some (.cells #[.map (some w.heap.size)] 68 (0, 0)) := by
  have := heap_alloc_new (w.alloc (.map #[] 0)) (.cells #[.map (some w.heap.size)] 68)
  rwa [z1] at this
 have r2 : (((w.alloc (.map #[] 0)).alloc (.cells #[.map (some w.heap.size)] 68)).alloc (.cells #[.slice A len cap] 37)).heap[w.heap.size + 1 + 1]? = some (.cells #[.slice A len cap] 37 (0, 0)) := by
  have := heap_alloc_new ((w.alloc (.map #[] 0)).alloc (.cells #[.map (some w.heap.size)] 68)) (.cells #[.slice A len cap] 37)
  rwa [z2] at this
 have HR1 := Lib.hid ((heap_alloc_old ((w.alloc (.map #[] 0)).alloc (.cells #[.map (some w.heap.size)] 68)) (.cells #[.slice A len cap] 37) (r := w.heap.size + 1) (by rw [z2]; omega)).trans r1)
 have HR2 := Lib.hid r2
 have HM := Lib.hid (map_keep6 (w' := ((w.alloc (.map #[] 0)).alloc (.cells #[.map (some w.heap.size)] 68)).alloc (.cells #[.slice A len cap] 37)) (World.ownsMap_made (H := Unit) (P := Tryz.prog) w 9 (plainElem Tryz.prog 3)) ((heap_alloc_old ((w.alloc (.map #[] 0)).alloc (.cells #[.map (some w.heap.size)] 68)) (.cells #[.slice A len cap] 37) (r := w.heap.size) (by rw [z2]; omega)).trans (heap_alloc_old (w.alloc (.map #[] 0)) (.cells #[.map (some w.heap.size)] 68) (r := w.heap.size) (by rw [z1]; omega))))
 clear r1 r2 b1 b2 z1 z2
 generalize ((w.alloc (.map #[] 0)).alloc (.cells #[.map (some w.heap.size)] 68)).alloc (.cells #[.slice A len cap] 37) = W3 at *
 refine wpIn_rangeFunc_ownH rfl (by decide) (gf := 100) (lb := #[.pointer (some ⟨w.heap.size + 1 + 1, 0, none⟩)]) rfl trivial (enters_of Tryz.func100 (by kernel_rfl) rfl) (encs := fun x : ItS w => #[.int .i64 x.i, .string x.x])
  (sBack_stops w W3.heap.size w.heap.size (w.heap.size + 1 + 1) ts A len cap W3 HS.out HLE.out HL.out (by omega) HR2.out (by omega) (by omega) (by omega) (Nat.le_refl _) HB.out) (fun h k => h.trans k) (KpX.put rfl) (Below.refl _ _) (fun _ => rfl)
  (fun xs W => (∃ D, W.ownsMap Tryz.prog 9 (plainElem Tryz.prog 3) w.heap.size xs.length D ∧ MapF D (xs.map ItS.tag)) ∧ W.heap[w.heap.size + 1]? = some (.cells #[.map (some w.heap.size)] 68 (0, 0)) ∧ KpX W3.heap.size w.heap.size W3 W)
  (fun _ _ _ => False)
  (fun xs W W' row hs hg hr => by
   obtain ⟨⟨D, h1, h2⟩, h3, h4⟩ := hs
   have hk : ∀ b, b < W3.heap.size → W'.heap[b]? = W.heap[b]? := fun b hb => by
    obtain ⟨_, _, _, _, h5⟩ := hg
    exact h5 b (by have := h4.1.2.2.2; omega) (fun e => by have := (hr b e.symm).1; omega)
   exact ⟨⟨D, map_keep6 h1 (hk _ (by omega)), h2⟩, (hk _ (by omega)).trans h3, h4.turn (Nat.le_refl _) hg (fun r e => (hr r e).1)⟩)
  (fun _ _ _ _ _ hs _ _ => hs)
  ⟨⟨_, HM.out, mapF_nil⟩, HR1.out, KpX.refl _ _ _⟩
  (fun x a' _ => a' = { tmps := #[.slice A len cap, undef, .map none, .pointer (some ⟨w.heap.size + 1, 0, none⟩), .int .i64 x.i, .string x.x, .map (some w.heap.size), .slice A len cap, .func (.func 100) #[] #[.pointer (some ⟨w.heap.size + 1 + 1, 0, none⟩)], .int .i64 x.i, .string x.x, undef, undef, undef, undef], defers := [] })
  (fun x a' _ X Y row hs hg hr => hs)
  ?assign ?body ?done ?stop
 case assign =>
  rintro l xs x W K9 hI hK
  gi_wp2
  exact hK _ _ (KeepsFrom.refl _ _) (KpX.refl _ _ _) hI rfl
 case body =>
  rintro l xs x a' W hl _ ⟨⟨D, h1, h2⟩, h3, h4⟩ rfl hlt
  have hsz := h4.1.2.2.2
  have hkey : keyOf Tryz.prog 9 (.string x.x) = some (.string x.x.data.toList) := WideMaps.keyOf_string_mk Tryz.underlying9 (by have := x.le; unfold maxLen; omega)
  have hval := plainElem_int (H := Unit) (P := Tryz.prog) (a := (x.i : Int)) Tryz.underlying3 (WalkArith.wf_i64 (by have := x.hi; omega))
  have c0 := cell_of_row W (w.heap.size + 1) 0 _ 68 (0, 0) h3
  have HLT := Lib.hid hlt
  clear hlt
  gi_wp2_with (gi_at_mapUpdate; refine wpListIn_mapUpdate_own _ rfl _ _ _ 68 rfl 9 3 keyLawS Tryz.underlying68 (plainElem Tryz.prog 3) w.heap.size xs.length D rfl h1 (by have := HLT.out; have := HL.out; unfold maxLen; omega) _ _ _ rfl rfl hkey _ [] hval ?_; intro w6 hown6 hgr6)
  refine ⟨KeepsFrom.of_grownBy hgr6 (fun j e => by cases e; omega), KpX.of_grown hsz hgr6, ⟨_, by rw [List.length_append, List.length_singleton]; exact hown6, by rw [List.map_append]; exact mapF_snoc h2 x.i x.x⟩, ?_, h4.trans (KpX.of_grown hsz hgr6)⟩
  obtain ⟨_, _, _, _, h5⟩ := hgr6
  exact (h5 (w.heap.size + 1) (Array.getElem?_eq_some_iff.1 h3).1 (by simp)).trans h3
 case done =>
  rintro D9 xs W hD hxs ⟨⟨D, h1, h2⟩, h3, h4⟩ hK
  rw [hxs] at h2
  have hsz := h4.1.2.2.2
  have c0 := cell_of_row W (w.heap.size + 1) 0 _ 68 (0, 0) h3
  gi_wp2
  refine ⟨by simp, .inl ⟨_, _, rfl, run_takeDeferred hK, ?_⟩⟩
  have hD9 : W.heap[D9]? = some (.deferred (some [])) := hK
  have hDl : D9 < W.heap.size := (Array.getElem?_eq_some_iff.1 hK).1
  refine ⟨_, results_tmp rfl _ _ _, ?_⟩
  refine ⟨w.heap.size, xs.length, D, rfl, map_keep6 h1 (World.putObj_heap_other (by omega)), h2, Nat.le_refl _, ?_⟩
  exact (HB.out.trans (h4.below (n₀ := w.heap.size) (by omega) (Nat.le_refl _))).trans ((Below.refl _ _).grown (grownBy_putObj' _ D9 _) (by omega) (fun k e => by cases e; omega))
 case stop =>
  rintro D c xs W _ _ h _
  exact h.elim
end Bnd
end Go.Proofs.YteomfakbbcpckaaGreatDoor
