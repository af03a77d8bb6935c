import Derived.Test.YtbkdecgfiiajnaaGreatDoorJ21
import Derived.Test.YtbkdecgfiiajnaaGreatDoorJ16
/-
  The contract of the program's function bound: the term of a kind over types, the first one outermost, with a body.
  Conditions: the terms lie in memory as told by 'TmP' and 'TsP'.
-/
namespace Go.Proofs.YtbkdecgfiiajnaaGreatDoor
open Go.RowKit Go.Shelf
open Lvl
namespace Trm
attribute [local go_sem] Oper.semAt_some

theorem putObj_size (W : World) (l : Nat) (o : Obj) : (W.putObj l o).heap.size = W.heap.size := by simp [World.putObj]
theorem KpX.turn {D X : Nat} {w₀ W W' : World} {row : Option Nat} (h : KpX D X w₀ W) (hD : D ≤ w₀.heap.size) (hg : W.grownBy W' row) (hr : ∀ r, row = some r → D ≤ r) : KpX D X w₀ W' :=
  h.trans (by
    have hs := h.1.2.2.2
    obtain ⟨h1, h2, h3, h4, h5⟩ := hg
    exact ⟨⟨h1, h2, h3, h4⟩, fun k hk _ => h5 k (by omega) (fun e => by have := hr k e.symm; omega)⟩)

set_option maxRecDepth 100000 in
set_option maxHeartbeats 1000000 in
theorem bound_is (kd : Int) (P : Nat → Prop) (t : Tm) (la : Option Addr) (ll lc : Nat) (sa : Option Addr) (sl sc : Nat) (ts : List Tm) (A : Option Addr) (len cap : Nat) (w : World) (ht : TmP w P t (.slice la ll lc) (.slice sa sl sc)) (hlen : ts.length = len) (h47 : len ≤ 140737488355328) (hts : TsP w P A 0 ts) :
    Calls Tryz.prog 36 #[.int .i64 kd, tv t (.slice la ll lc) (.slice sa sl sc), .slice A len cap] w (fun e w' => ∃ l s, e = .returned (tv (over kd t ts) l s) ∧ TmP w' (fun b => P b ∨ w.heap.size ≤ b) (over kd t ts) l s ∧ Below w.heap.size w w') := by
  obtain ⟨i0, hi0, hz0, hz1, hz2⟩ := info_parts infoTm
  have HTT := Lib.hid ht
  have HTS := Lib.hid hts
  have HLEN := Lib.hid hlen
  obtain ⟨k, hk⟩ : ∃ k, tkOf t = k := ⟨_, rfl⟩
  obtain ⟨n, hn⟩ : ∃ n, tnOf t = n := ⟨_, rfl⟩
  obtain ⟨m, hmm⟩ : ∃ m, tmOf t = m := ⟨_, rfl⟩
  dsimp only [tv]
  rw [hk, hn, hmm]
  have HKK := Lib.hid (And.intro hk (And.intro hn hmm))
  clear hk hn hmm ht hts hlen
  refine (callsIn_wide (n := 13)).1 (callsIn_of_wp_marks Tryz.func36 rfl trivial ?_ rfl)
  simp only [Tryz.ntmps36, List.size_toArray, List.length_cons, List.length_nil, Nat.reduceAdd, Nat.reduceSub, Array.replicate_succ, Array.replicate_zero, List.push_toArray, List.append_toArray, List.nil_append, List.cons_append]
  gi_wp2_with (refine ⟨trivial, ?_⟩; gi_at_call 60; refine (callsIn_wide.2 (backward_in A len cap _)).mono ?_; rintro e w' ⟨rfl, rfl⟩)
  have z1 : (w.alloc (.cells #[.int .i64 kd] 3)).heap.size = w.heap.size + 1 := by simp
  have z2 : ((w.alloc (.cells #[.int .i64 kd] 3)).alloc (.cells #[.int .i64 k, .int .i64 n, .string m, .slice la ll lc, .slice sa sl sc] 25)).heap.size = w.heap.size + 1 + 1 := by simp
  have z3 : (((w.alloc (.cells #[.int .i64 kd] 3)).alloc (.cells #[.int .i64 k, .int .i64 n, .string m, .slice la ll lc, .slice sa sl sc] 25)).alloc (.cells #[.int .i64 0, .int .i64 0, .string ⟨#[]⟩, .slice none 0 0, .slice none 0 0] 25)).heap.size = w.heap.size + 1 + 1 + 1 := by simp
  have z4 : ((((w.alloc (.cells #[.int .i64 kd] 3)).alloc (.cells #[.int .i64 k, .int .i64 n, .string m, .slice la ll lc, .slice sa sl sc] 25)).alloc (.cells #[.int .i64 0, .int .i64 0, .string ⟨#[]⟩, .slice none 0 0, .slice none 0 0] 25)).alloc (.cells #[.slice A len cap] 23)).heap.size = w.heap.size + 1 + 1 + 1 + 1 := by simp
  have r0 : (w.alloc (.cells #[.int .i64 kd] 3)).heap[w.heap.size]? = some (Obj.cells #[.int .i64 kd] 3 (0, 0)) := by
    have := heap_alloc_new w (.cells #[.int .i64 kd] 3)
    exact this
  have r1 : ((w.alloc (.cells #[.int .i64 kd] 3)).alloc (.cells #[.int .i64 k, .int .i64 n, .string m, .slice la ll lc, .slice sa sl sc] 25)).heap[w.heap.size + 1]? = some (Obj.cells #[.int .i64 k, .int .i64 n, .string m, .slice la ll lc, .slice sa sl sc] 25 (0, 0)) := by
    have := heap_alloc_new (w.alloc (.cells #[.int .i64 kd] 3)) (.cells #[.int .i64 k, .int .i64 n, .string m, .slice la ll lc, .slice sa sl sc] 25)
    rwa [z1] at this
  have r2 : (((w.alloc (.cells #[.int .i64 kd] 3)).alloc (.cells #[.int .i64 k, .int .i64 n, .string m, .slice la ll lc, .slice sa sl sc] 25)).alloc (.cells #[.int .i64 0, .int .i64 0, .string ⟨#[]⟩, .slice none 0 0, .slice none 0 0] 25)).heap[w.heap.size + 1 + 1]? = some (Obj.cells #[.int .i64 0, .int .i64 0, .string ⟨#[]⟩, .slice none 0 0, .slice none 0 0] 25 (0, 0)) := by
    have := heap_alloc_new ((w.alloc (.cells #[.int .i64 kd] 3)).alloc (.cells #[.int .i64 k, .int .i64 n, .string m, .slice la ll lc, .slice sa sl sc] 25)) (.cells #[.int .i64 0, .int .i64 0, .string ⟨#[]⟩, .slice none 0 0, .slice none 0 0] 25)
    rwa [z2] at this
  have r3 : ((((w.alloc (.cells #[.int .i64 kd] 3)).alloc (.cells #[.int .i64 k, .int .i64 n, .string m, .slice la ll lc, .slice sa sl sc] 25)).alloc (.cells #[.int .i64 0, .int .i64 0, .string ⟨#[]⟩, .slice none 0 0, .slice none 0 0] 25)).alloc (.cells #[.slice A len cap] 23)).heap[w.heap.size + 1 + 1 + 1]? = some (Obj.cells #[.slice A len cap] 23 (0, 0)) := by
    have := heap_alloc_new (((w.alloc (.cells #[.int .i64 kd] 3)).alloc (.cells #[.int .i64 k, .int .i64 n, .string m, .slice la ll lc, .slice sa sl sc] 25)).alloc (.cells #[.int .i64 0, .int .i64 0, .string ⟨#[]⟩, .slice none 0 0, .slice none 0 0] 25)) (.cells #[.slice A len cap] 23)
    rwa [z3] at this
  have HB := Lib.hid ((((below_lit w (.cells #[.int .i64 kd] 3)).trans ((below_lit (w.alloc (.cells #[.int .i64 kd] 3)) (.cells #[.int .i64 k, .int .i64 n, .string m, .slice la ll lc, .slice sa sl sc] 25)).mono (below_lit w (.cells #[.int .i64 kd] 3)).size)).trans ((below_lit ((w.alloc (.cells #[.int .i64 kd] 3)).alloc (.cells #[.int .i64 k, .int .i64 n, .string m, .slice la ll lc, .slice sa sl sc] 25)) (.cells #[.int .i64 0, .int .i64 0, .string ⟨#[]⟩, .slice none 0 0, .slice none 0 0] 25)).mono ((below_lit w (.cells #[.int .i64 kd] 3)).trans ((below_lit (w.alloc (.cells #[.int .i64 kd] 3)) (.cells #[.int .i64 k, .int .i64 n, .string m, .slice la ll lc, .slice sa sl sc] 25)).mono (below_lit w (.cells #[.int .i64 kd] 3)).size)).size)).trans ((below_lit (((w.alloc (.cells #[.int .i64 kd] 3)).alloc (.cells #[.int .i64 k, .int .i64 n, .string m, .slice la ll lc, .slice sa sl sc] 25)).alloc (.cells #[.int .i64 0, .int .i64 0, .string ⟨#[]⟩, .slice none 0 0, .slice none 0 0] 25)) (.cells #[.slice A len cap] 23)).mono (((below_lit w (.cells #[.int .i64 kd] 3)).trans ((below_lit (w.alloc (.cells #[.int .i64 kd] 3)) (.cells #[.int .i64 k, .int .i64 n, .string m, .slice la ll lc, .slice sa sl sc] 25)).mono (below_lit w (.cells #[.int .i64 kd] 3)).size)).trans ((below_lit ((w.alloc (.cells #[.int .i64 kd] 3)).alloc (.cells #[.int .i64 k, .int .i64 n, .string m, .slice la ll lc, .slice sa sl sc] 25)) (.cells #[.int .i64 0, .int .i64 0, .string ⟨#[]⟩, .slice none 0 0, .slice none 0 0] 25)).mono ((below_lit w (.cells #[.int .i64 kd] 3)).trans ((below_lit (w.alloc (.cells #[.int .i64 kd] 3)) (.cells #[.int .i64 k, .int .i64 n, .string m, .slice la ll lc, .slice sa sl sc] 25)).mono (below_lit w (.cells #[.int .i64 kd] 3)).size)).size)).size))
  have HR0 := Lib.hid ((heap_alloc_old (((w.alloc (.cells #[.int .i64 kd] 3)).alloc (.cells #[.int .i64 k, .int .i64 n, .string m, .slice la ll lc, .slice sa sl sc] 25)).alloc (.cells #[.int .i64 0, .int .i64 0, .string ⟨#[]⟩, .slice none 0 0, .slice none 0 0] 25)) (.cells #[.slice A len cap] 23) (by rw [z3]; omega)).trans ((heap_alloc_old ((w.alloc (.cells #[.int .i64 kd] 3)).alloc (.cells #[.int .i64 k, .int .i64 n, .string m, .slice la ll lc, .slice sa sl sc] 25)) (.cells #[.int .i64 0, .int .i64 0, .string ⟨#[]⟩, .slice none 0 0, .slice none 0 0] 25) (by rw [z2]; omega)).trans ((heap_alloc_old (w.alloc (.cells #[.int .i64 kd] 3)) (.cells #[.int .i64 k, .int .i64 n, .string m, .slice la ll lc, .slice sa sl sc] 25) (by rw [z1]; omega)).trans (r0))))
  have HR1 := Lib.hid ((heap_alloc_old (((w.alloc (.cells #[.int .i64 kd] 3)).alloc (.cells #[.int .i64 k, .int .i64 n, .string m, .slice la ll lc, .slice sa sl sc] 25)).alloc (.cells #[.int .i64 0, .int .i64 0, .string ⟨#[]⟩, .slice none 0 0, .slice none 0 0] 25)) (.cells #[.slice A len cap] 23) (by rw [z3]; omega)).trans ((heap_alloc_old ((w.alloc (.cells #[.int .i64 kd] 3)).alloc (.cells #[.int .i64 k, .int .i64 n, .string m, .slice la ll lc, .slice sa sl sc] 25)) (.cells #[.int .i64 0, .int .i64 0, .string ⟨#[]⟩, .slice none 0 0, .slice none 0 0] 25) (by rw [z2]; omega)).trans (r1)))
  have HR2 := Lib.hid ((heap_alloc_old (((w.alloc (.cells #[.int .i64 kd] 3)).alloc (.cells #[.int .i64 k, .int .i64 n, .string m, .slice la ll lc, .slice sa sl sc] 25)).alloc (.cells #[.int .i64 0, .int .i64 0, .string ⟨#[]⟩, .slice none 0 0, .slice none 0 0] 25)) (.cells #[.slice A len cap] 23) (by rw [z3]; omega)).trans (r2))
  have HR3 := Lib.hid (r3)
  clear r0 r1 r2 r3
  generalize ((((w.alloc (.cells #[.int .i64 kd] 3)).alloc (.cells #[.int .i64 k, .int .i64 n, .string m, .slice la ll lc, .slice sa sl sc] 25)).alloc (.cells #[.int .i64 0, .int .i64 0, .string ⟨#[]⟩, .slice none 0 0, .slice none 0 0] 25)).alloc (.cells #[.slice A len cap] 23)) = W4 at *
  have HZ := Lib.hid z4
  clear z1 z2 z3 z4
  have hsz4 := HZ.out
  refine wpIn_rangeFunc_ownH rfl (by decide) (gf := 79) (lb := #[.pointer (some ⟨w.heap.size + 1 + 1 + 1, 0, none⟩)]) rfl trivial (enters_of Tryz.func79 (by kernel_rfl) rfl) (encs := fun x : ItB w P => #[.int .i64 x.i, .agg #[.int .i64 (tkOf x.t), .int .i64 (tnOf x.t), .string (tmOf x.t), .slice x.la x.ll x.lc, .slice x.sa x.sl x.sc]])
    (back_stops w P W4.heap.size (w.heap.size + 1) (w.heap.size + 1 + 1 + 1) ts A len cap W4 HTS.out HLEN.out h47 HR3.out (by omega) (by omega) (by omega) (by omega) HB.out) (fun h k => h.trans k) (KpX.put rfl) (Below.refl _ _) (fun _ => rfl)
    (fun xs W => (Boxed W w.heap.size 3 (.int .i64 kd) ∧ W.heap[w.heap.size + 1 + 1]? = some (Obj.cells #[.int .i64 0, .int .i64 0, .string ⟨#[]⟩, .slice none 0 0, .slice none 0 0] 25 (0, 0))) ∧ ((∃ (ko no : Int) (mo : ByteArray) (oa : Option Addr) (ol oc : Nat) (pa : Option Addr) (pl pc : Nat), (tkOf (over kd t (xs.map ItB.tm).reverse) = ko ∧ tnOf (over kd t (xs.map ItB.tm).reverse) = no ∧ tmOf (over kd t (xs.map ItB.tm).reverse) = mo) ∧ W.heap[w.heap.size + 1]? = some (Obj.cells #[.int .i64 ko, .int .i64 no, .string mo, .slice oa ol oc, .slice pa pl pc] 25 (0, 0)) ∧ TmP W (fun b => (P b ∧ b < w.heap.size) ∨ w.heap.size + 1 + 1 + 1 + 1 ≤ b) (over kd t (xs.map ItB.tm).reverse) (.slice oa ol oc) (.slice pa pl pc)) ∧ KpX W4.heap.size (w.heap.size + 1) W4 W))
    (fun _ _ _ => False)
    (fun xs W W' row hs hg hr => by
      obtain ⟨⟨h1, h2⟩, ⟨ko, no, mo, oa, ol, oc, pa, pl, pc, h3, h4, h5⟩, h6⟩ := hs
      have hr' : ∀ r, row = some r → ∃ o : Obj, W.heap[r]? = some o ∧ o.isCells = false := fun r e => (hr r e).2
      exact ⟨⟨(grownBy_keeps_cells hg hr' h1 rfl).trans h1, (grownBy_keeps_cells hg hr' h2 rfl).trans h2⟩, ⟨ko, no, mo, oa, ol, oc, pa, pl, pc, h3, (grownBy_keeps_cells hg hr' h4 rfl).trans h4, tmP_turn h5 hg hr'⟩, h6.turn (by omega) hg (fun r e => (hr r e).1)⟩)
    (fun _ _ _ _ _ hs _ _ => hs)
    ⟨⟨HR0.out, HR2.out⟩, ⟨k, n, m, la, ll, lc, sa, sl, sc, HKK.out, HR1.out, tmP_move (w := w) (fun b hlt hp => ⟨.inl ⟨hp, hlt⟩, HB.out.block b hlt⟩) HB.out.size _ _ _ HTT.out⟩, KpX.refl _ _ _⟩
    (fun x a' W => (∃ Bn, a' = { tmps := #[.int .i64 kd, .agg #[.int .i64 k, .int .i64 n, .string m, .slice la ll lc, .slice sa sl sc], .slice A len cap, .pointer (some ⟨w.heap.size, 0, none⟩), .pointer (some ⟨w.heap.size + 1, 0, none⟩), undef, .pointer (some ⟨w.heap.size + 1 + 1, 0, none⟩), undef, .pointer (some ⟨Bn, 0, none⟩), .slice A len cap, .func (.func 79) #[] #[.pointer (some ⟨w.heap.size + 1 + 1 + 1, 0, none⟩)], .int .i64 x.i, .agg #[.int .i64 (tkOf x.t), .int .i64 (tnOf x.t), .string (tmOf x.t), .slice x.la x.ll x.lc, .slice x.sa x.sl x.sc], undef, undef, undef, undef, undef, undef], defers := [] } ∧ w.heap.size + 1 + 1 + 1 + 1 ≤ Bn ∧ W.heap[Bn]? = some (.cells #[.int .i64 (tkOf x.t), .int .i64 (tnOf x.t), .string (tmOf x.t), .slice x.la x.ll x.lc, .slice x.sa x.sl x.sc] 25 (0, 0))))
    (fun x a' _ X Y row hs hg hr => by
      obtain ⟨Bn, h1, h2, h3⟩ := hs
      exact ⟨Bn, h1, h2, (grownBy_keeps_cells hg (fun r e => (hr r e).2) h3 rfl).trans h3⟩)
    ?assign ?body ?done ?stop
  case assign =>
    rintro l xs x W K9 ⟨⟨h1, h2⟩, ⟨ko, no, mo, oa, ol, oc, pa, pl, pc, h3, h4, h5⟩, h6⟩ hK
    have hsz := h6.1.2.2.2
    gi_wp2
    have hb := below_lit W (.cells #[.int .i64 (tkOf x.t), .int .i64 (tnOf x.t), .string (tmOf x.t), .slice x.la x.ll x.lc, .slice x.sa x.sl x.sc] 25)
    have hkx : KpX W4.heap.size (w.heap.size + 1) W (W.alloc (.cells #[.int .i64 (tkOf x.t), .int .i64 (tnOf x.t), .string (tmOf x.t), .slice x.la x.ll x.lc, .slice x.sa x.sl x.sc] 25)) := KpX.of_grown hsz (grown_of _ hb)
    refine hK _ _ ((KeepsOthers.alloc _ _).from _) hkx ⟨⟨h1.alloc _, (heap_alloc_old _ _ (Array.getElem?_eq_some_iff.1 h2).1).trans h2⟩, ⟨ko, no, mo, oa, ol, oc, pa, pl, pc, h3, (heap_alloc_old _ _ (Array.getElem?_eq_some_iff.1 h4).1).trans h4, tmP_below hb h5⟩, h6.trans hkx⟩ ⟨_, rfl, by omega, heap_alloc_new W _⟩
  case body =>
    rintro l xs x a' W hl _ ⟨⟨h1, h2⟩, ⟨ko, no, mo, oa, ol, oc, pa, pl, pc, h3, h4, h5⟩, h6⟩ ⟨Bn, rfl, hn1, hrn⟩ _
    have hsz := h6.1.2.2.2
    have HH1 := Lib.hid h1
    have HH2 := Lib.hid h2
    have HH3 := Lib.hid h3
    have HH4 := Lib.hid h4
    have HH5 := Lib.hid h5
    have HH6 := Lib.hid h6
    have c0 := h1.cell
    obtain ⟨p0, p1, p2, p3, p4⟩ := five_cells h4
    obtain ⟨n0, n1, n2, n3, n4⟩ := five_cells hrn
    clear h1 h2 h3 h4 h5 h6
    have hb8 := below_lit W (.cells #[.int .i64 (tkOf x.t), .int .i64 (tnOf x.t), .string (tmOf x.t), .slice x.la x.ll x.lc, .slice x.sa x.sl x.sc, .int .i64 ko, .int .i64 no, .string mo, .slice oa ol oc, .slice pa pl pc] 25)
    have hr8 := heap_alloc_new W (.cells #[.int .i64 (tkOf x.t), .int .i64 (tnOf x.t), .string (tmOf x.t), .slice x.la x.ll x.lc, .slice x.sa x.sl x.sc, .int .i64 ko, .int .i64 no, .string mo, .slice oa ol oc, .slice pa pl pc] 25)
    have hs8 : (W.alloc (.cells #[.int .i64 (tkOf x.t), .int .i64 (tnOf x.t), .string (tmOf x.t), .slice x.la x.ll x.lc, .slice x.sa x.sl x.sc, .int .i64 ko, .int .i64 no, .string mo, .slice oa ol oc, .slice pa pl pc] 25)).heap.size = W.heap.size + 1 := by simp
    have HB8 := Lib.hid hb8
    have HR8 := Lib.hid hr8
    have HS8 := Lib.hid hs8
    clear hb8 hr8 hs8
    gi_wp2_with (refine ⟨trivial, ?_⟩; gi_at_call 42; refine (CallsIn.inRound l (callsIn_wide.2 (tnode_is kd _ 2 2 _))).mono ?_; rintro e w6 ⟨rfl, hb6⟩; have HB6 := Lib.hid (HB8.out.trans (hb6.mono HB8.out.size)); have HR6 := Lib.hid ((hb6.block W.heap.size (by rw [HS8.out]; omega)).trans HR8.out); clear hb6; have hro6 := (HB6.out.block (w.heap.size + 1) (by omega)).trans HH4.out; obtain ⟨s0, s1, s2, s3, s4⟩ := five_cells hro6; have f0 := frozen0 (p := 0) hro6; have f1 := frozen0 (p := 1) hro6; have f2 := frozen0 (p := 2) hro6; have f3 := frozen0 (p := 3) hro6; have f4 := frozen0 (p := 4) hro6)
    have hxo := x.ok
    have hrev : ((xs ++ [x]).map ItB.tm).reverse = x.t :: (xs.map ItB.tm).reverse := by
      rw [List.map_append, List.reverse_append]
      rfl
    have hov : over kd t ((xs ++ [x]).map ItB.tm).reverse = .mk kd 0 ⟨#[]⟩ [] [x.t, over kd t (xs.map ItB.tm).reverse] := by rw [hrev, over]
    have ht1 : TmP w6 (fun b => (P b ∧ b < w.heap.size) ∨ w.heap.size + 1 + 1 + 1 + 1 ≤ b) x.t (.slice x.la x.ll x.lc) (.slice x.sa x.sl x.sc) := tmP_below HB6.out (tmP_move (w := w) (fun b hlt hp => ⟨.inl ⟨hp, hlt⟩, (HH6.out.2 b (by omega) (by omega)).trans (HB.out.block b hlt)⟩) (Nat.le_trans HB.out.size hsz) _ _ _ hxo)
    have ht0 := tmP_below HB6.out HH5.out
    have hr6 := HR6.out
    rw [← HH3.out.1, ← HH3.out.2.1, ← HH3.out.2.2] at hr6
    have ht2 := tmP_two hr6 (.inr (by omega)) ht1 ht0 kd 0 ⟨#[]⟩
    have ht3 := tmP_move (w := w6) (w' := (((((w6.setCell ⟨w.heap.size + 1, 0, none⟩ (.int .i64 kd)).setCell ⟨w.heap.size + 1, 1, none⟩ (.int .i64 0)).setCell ⟨w.heap.size + 1, 2, none⟩ (.string ⟨#[]⟩)).setCell ⟨w.heap.size + 1, 3, none⟩ (.slice none 0 0)).setCell ⟨w.heap.size + 1, 4, none⟩ (.slice (some ⟨W.heap.size, 0, none⟩) 2 2))) (Q := (fun b => (P b ∧ b < w.heap.size) ∨ w.heap.size + 1 + 1 + 1 + 1 ≤ b)) (fun b _ hp => ⟨hp, set5_far' w6 (w.heap.size + 1) 0 b _ _ _ _ _ (by rcases hp with hp | hp <;> omega)⟩) (Nat.le_of_eq (set5_sz w6 (w.heap.size + 1) 0 _ _ _ _ _).symm) _ _ _ ht2
    have hg6 := set5_grown (q := 0) (x0 := .int .i64 kd) (x1 := .int .i64 0) (x2 := .string ⟨#[]⟩) (x3 := .slice none 0 0) (x4 := .slice (some ⟨W.heap.size, 0, none⟩) 2 2) (grown_of (some (w.heap.size + 1)) HB6.out)
    have hkx : KpX W4.heap.size (w.heap.size + 1) W (((((w6.setCell ⟨w.heap.size + 1, 0, none⟩ (.int .i64 kd)).setCell ⟨w.heap.size + 1, 1, none⟩ (.int .i64 0)).setCell ⟨w.heap.size + 1, 2, none⟩ (.string ⟨#[]⟩)).setCell ⟨w.heap.size + 1, 3, none⟩ (.slice none 0 0)).setCell ⟨w.heap.size + 1, 4, none⟩ (.slice (some ⟨W.heap.size, 0, none⟩) 2 2)) := KpX.of_grown hsz hg6
    have hkf : KeepsFrom W4.heap.size W (((((w6.setCell ⟨w.heap.size + 1, 0, none⟩ (.int .i64 kd)).setCell ⟨w.heap.size + 1, 1, none⟩ (.int .i64 0)).setCell ⟨w.heap.size + 1, 2, none⟩ (.string ⟨#[]⟩)).setCell ⟨w.heap.size + 1, 3, none⟩ (.slice none 0 0)).setCell ⟨w.heap.size + 1, 4, none⟩ (.slice (some ⟨W.heap.size, 0, none⟩) 2 2)) := KeepsFrom.of_grownBy hg6 (fun j e => by cases e; omega)
    refine ⟨hkf, hkx, ⟨?_, ?_⟩, ⟨kd, 0, ⟨#[]⟩, none, 0, 0, some ⟨W.heap.size, 0, none⟩, 2, 2, by rw [hov]; exact ⟨rfl, rfl, rfl⟩, set5_row hro6, by rw [hov]; exact ht3⟩, HH6.out.trans hkx⟩
    · exact (set5_far' w6 (w.heap.size + 1) 0 w.heap.size _ _ _ _ _ (by omega)).trans ((HB6.out.block _ (by omega)).trans HH1.out)
    · exact (set5_far' w6 (w.heap.size + 1) 0 (w.heap.size + 1 + 1) _ _ _ _ _ (by omega)).trans ((HB6.out.block _ (by omega)).trans HH2.out)
  case done =>
    rintro D xs W hD hxs ⟨⟨h1, h2⟩, ⟨ko, no, mo, oa, ol, oc, pa, pl, pc, h3, h4, h5⟩, h6⟩ hK
    rw [hxs, List.reverse_reverse] at h3 h5
    have hsz := h6.1.2.2.2
    obtain ⟨p0, p1, p2, p3, p4⟩ := five_cells h4
    have hrz := h2
    obtain ⟨e0, e1, e2, e3, e4⟩ := five_cells hrz
    have g0 := frozen0 (p := 0) hrz
    have g1 := frozen0 (p := 1) hrz
    have g2 := frozen0 (p := 2) hrz
    have g3 := frozen0 (p := 3) hrz
    have g4 := frozen0 (p := 4) hrz
    have hDb : D ≠ w.heap.size + 1 + 1 := by omega
    gi_wp2
    refine ⟨by simp, .inl ⟨_, _, rfl, run_takeDeferred ((set5_far' W (w.heap.size + 1 + 1) 0 D _ _ _ _ _ hDb).trans hK), ?_⟩⟩
    have hDl : D < W.heap.size := (Array.getElem?_eq_some_iff.1 hK).1
    refine ⟨_, results_cell_row rfl _ _ (w.heap.size + 1 + 1) 25 _ (0, 0) _ rfl ((World.putObj_heap_other (fun e => hDb e.symm)).trans (set5_row hrz)) Tryz.underlying25 rfl (by rw [hi0, Option.map_some, hz1]; rfl), ?_⟩
    have hfar : ∀ b, b ≠ w.heap.size + 1 + 1 → b ≠ D → ∀ (w9 : World), w9 = (((((W.setCell ⟨w.heap.size + 1 + 1, 0, none⟩ (.int .i64 ko)).setCell ⟨w.heap.size + 1 + 1, 1, none⟩ (.int .i64 no)).setCell ⟨w.heap.size + 1 + 1, 2, none⟩ (.string mo)).setCell ⟨w.heap.size + 1 + 1, 3, none⟩ (.slice oa ol oc)).setCell ⟨w.heap.size + 1 + 1, 4, none⟩ (.slice pa pl pc)) → (w9.putObj D (.deferred none)).heap[b]? = W.heap[b]? := fun b hb hbd w9 e => by
      subst e
      exact (World.putObj_heap_other hbd).trans (set5_far' W (w.heap.size + 1 + 1) 0 b _ _ _ _ _ hb)
    refine ⟨_, _, by first | (rw [h3.1, h3.2.1, h3.2.2]) | (dsimp only [tv]; rw [h3.1, h3.2.1, h3.2.2]), ?_, ?_⟩
    · refine tmP_move (w := W) (fun b hlt hp => ?_) ?_ _ _ _ (tmP_cells _ _ _ h5)
      · obtain ⟨hq, o, ho, hc⟩ := hp
        refine ⟨by rcases hq with hq | hq; exact .inl hq.1; exact .inr (by omega), hfar b (by rcases hq with hq | hq <;> omega) (fun e => ?_) _ rfl⟩
        subst e
        rw [hK] at ho
        cases ho
        cases hc
      · show W.heap.size ≤ (World.putObj _ _ _).heap.size
        rw [putObj_size, set5_sz]
        exact Nat.le_refl _
    · refine (HB.out.trans (h6.below (n₀ := w.heap.size) (by omega) (by omega))).trans ?_
      exact (set5_below (Below.refl _ W) (w.heap.size + 1 + 1) 0 _ _ _ _ _ (by omega)).trans ((Below.refl _ _).grown (grownBy_putObj' _ D _) (by rw [set5_sz]; omega) (fun k e => by cases e; omega))
  case stop =>
    rintro D c xs W _ _ h _
    exact h.elim
end Trm
end Go.Proofs.YtbkdecgfiiajnaaGreatDoor
/-
  The contracts of the program's functions Var, Sort, Const, Lam, Pi: terms in new memory.
  Conditions: the terms lie in memory as told by 'TmV' and 'TsP'; they have at most 100000 nodes each, and their levels at most 1000 each.
-/
namespace Go.Proofs.YtbkdecgfiiajnaaGreatDoor
open Go.RowKit
open Lvl
namespace Trm

theorem tmP_leaf (w : World) (P : Nat → Prop) (k n : Int) (m : ByteArray) : TmP w P (.mk k n m [] []) (.slice none 0 0) (.slice none 0 0) := by
  rw [TmP]
  exact ⟨lvP_nil w P, none, 0, 0, rfl, rfl, Nat.le_refl _, by omega, fun _ => rfl, by rw [TsP]; trivial⟩
/-- A node that has levels, and no arguments. -/
theorem tmP_lev {w : World} {P : Nat → Prop} {ls : List Lv} {l : Value} (h : LvP w P (.mk 0 0 ls) l) (k n : Int) (m : ByteArray) : TmP w P (.mk k n m ls []) l (.slice none 0 0) := by
  rw [TmP]
  exact ⟨h, none, 0, 0, rfl, rfl, Nat.le_refl _, by omega, fun _ => rfl, by rw [TsP]; trivial⟩
set_option maxRecDepth 100000 in
set_option maxHeartbeats 4000000 in
theorem var_is (n : Int) (w : World) : Calls Tryz.prog 22 #[.int .i64 n] w (TmRet w (.mk 1 n ⟨#[]⟩ [] [])) := by
  obtain ⟨i0, hi0, hz0, hz1, hz2⟩ := info_parts infoTm
  go_enter Tryz.func22, Tryz.ntmps22
  go_wp2_with fail
  refine bodyPost_ret (results_cell_row rfl _ _ (w.heap.size) 25 _ (0, 0) _ rfl (heap_alloc_new w _) Tryz.underlying25 rfl (by rw [hi0, Option.map_some, hz1]; rfl)) rfl ?_
  exact ⟨_, _, rfl, tmP_leaf _ _ 1 n _, below_lit w _⟩
set_option maxRecDepth 100000 in
set_option maxHeartbeats 4000000 in
theorem sort_is (t : Lv) (v : Value) (w : World) (hv : LvV w t v) (hm : nodes t ≤ 1000) : Calls Tryz.prog 23 #[v] w (TmRet w (.mk 2 0 ⟨#[]⟩ [t] [])) := by
  obtain ⟨i0, hi0, hz0, hz1, hz2⟩ := info_parts infoTm
  obtain ⟨s, rfl, hs⟩ := hv
  obtain ⟨la, ll, lc, rfl⟩ := lvS_slice hs
  have HSS := Lib.hid hs
  have HM := Lib.hid hm
  obtain ⟨kl, hkl⟩ : ∃ k, kindOf t = k := ⟨_, rfl⟩
  obtain ⟨nl, hnl⟩ : ∃ n, numOf t = n := ⟨_, rfl⟩
  rw [hkl, hnl]
  have HKK := Lib.hid (And.intro hkl hnl)
  clear hs hm hkl hnl
  have z2 : ((w.alloc (.cells #[.int .i64 kl, .int .i64 nl, .slice la ll lc] 45)).alloc (.cells #[.int .i64 0, .int .i64 0, .string ⟨#[]⟩, .slice none 0 0, .slice none 0 0] 25)).heap.size = w.heap.size + 1 + 1 := by simp
  have hr1 : ((w.alloc (.cells #[.int .i64 kl, .int .i64 nl, .slice la ll lc] 45)).alloc (.cells #[.int .i64 0, .int .i64 0, .string ⟨#[]⟩, .slice none 0 0, .slice none 0 0] 25)).heap[w.heap.size + 1]? = some (Obj.cells #[.int .i64 0, .int .i64 0, .string ⟨#[]⟩, .slice none 0 0, .slice none 0 0] 25 (0, 0)) := row_2 w (.cells #[.int .i64 kl, .int .i64 nl, .slice la ll lc] 45) (.cells #[.int .i64 0, .int .i64 0, .string ⟨#[]⟩, .slice none 0 0, .slice none 0 0] 25)
  have HB := Lib.hid (below_2 w (.cells #[.int .i64 kl, .int .i64 nl, .slice la ll lc] 45) (.cells #[.int .i64 0, .int .i64 0, .string ⟨#[]⟩, .slice none 0 0, .slice none 0 0] 25))
  have HR1 := Lib.hid hr1
  have HZ := Lib.hid z2
  go_enter Tryz.func23, Tryz.ntmps23
  go_wp2_with fail
  clear z2 hr1
  generalize (w.alloc (.cells #[.int .i64 kl, .int .i64 nl, .slice la ll lc] 45)).alloc (.cells #[.int .i64 0, .int .i64 0, .string ⟨#[]⟩, .slice none 0 0, .slice none 0 0] 25) = W2 at *
  have hol := ownLevel_is t _ W2 ⟨_, rfl, lvS_below HB.out _ _ HSS.out⟩ HM.out
  rw [HKK.out.1, HKK.out.2] at hol
  refine hol.mono ?_
  clear hol
  rintro e w3 ⟨s9, rfl, hs9, hb3⟩
  obtain ⟨ua, ul, uc, rfl⟩ := lvP_slice hs9
  rw [HKK.out.1, HKK.out.2]
  have hbx := below_lit w3 (.cells #[.int .i64 kl, .int .i64 nl, .slice ua ul uc] 45)
  have hrx := heap_alloc_new w3 (.cells #[.int .i64 kl, .int .i64 nl, .slice ua ul uc] 45)
  have hrz := (hbx.block (w.heap.size + 1) (by have := hb3.size; have := HZ.out; omega)).trans ((hb3.block (w.heap.size + 1) (by rw [HZ.out]; omega)).trans HR1.out)
  have hs3 : w.heap.size + 1 + 1 ≤ w3.heap.size := by rw [← HZ.out]; exact hb3.size
  have HB3 := Lib.hid (HB.out.trans ((hb3.trans (hbx.mono hb3.size)).mono HB.out.size))
  have HLV : Hid (LvP (w3.alloc (.cells #[.int .i64 kl, .int .i64 nl, .slice ua ul uc] 45)) (fun b => w.heap.size + 1 + 1 ≤ b) (.mk 0 0 [t]) (.slice (some ⟨w3.heap.size, 0, none⟩) 1 1)) := by
    have hs9' : LvP w3 (fun b => w.heap.size + 1 + 1 ≤ b) t (.slice ua ul uc) := lvP_weak hs9 (fun b (hb : W2.heap.size ≤ b) => by have := HZ.out; omega)
    have : LvP (w3.alloc (.cells #[.int .i64 kl, .int .i64 nl, .slice ua ul uc] 45)) (fun b => w.heap.size + 1 + 1 ≤ b) (.mk 0 0 [t]) (.slice (some ⟨w3.heap.size, 0, none⟩) 1 1) := lvP_one_row hs9' hs3 (by simp) (by rw [HKK.out.1, HKK.out.2]; exact hrx) hbx 0
    exact this
  clear hb3 hs9 hbx hrx
  obtain ⟨e0, e1, e2, e3, e4⟩ := five_cells hrz
  have g0 := frozen0 (p := 0) hrz
  have g1 := frozen0 (p := 1) hrz
  have g2 := frozen0 (p := 2) hrz
  have g3 := frozen0 (p := 3) hrz
  have g4 := frozen0 (p := 4) hrz
  go_wp2_with fail
  generalize w3.alloc (.cells #[.int .i64 kl, .int .i64 nl, .slice ua ul uc] 45) = w4 at *
  refine bodyPost_ret (results_cell_row rfl _ _ (w.heap.size + 1) 25 _ (0, 0) _ rfl (set5_row hrz) Tryz.underlying25 rfl (by rw [hi0, Option.map_some, hz1]; rfl)) rfl ?_
  refine ⟨_, _, rfl, tmP_lev (lvP_move (w := w4) (fun b _ hp => ⟨by omega, set5_far' w4 (w.heap.size + 1) 0 b _ _ _ _ _ (by omega)⟩) (Nat.le_of_eq (set5_sz w4 (w.heap.size + 1) 0 _ _ _ _ _).symm) _ _ HLV.out) 2 0 _, set5_below HB3.out _ 0 _ _ _ _ _ (by omega)⟩
set_option maxRecDepth 100000 in
set_option maxHeartbeats 4000000 in
theorem const_is (m : ByteArray) (ls : List Lv) (l : Value) (w : World) (P : Nat → Prop) (h : LvP w P (.mk 0 0 ls) l) (hn : ls.length ≤ 100000) (hm : ∀ a, a ∈ ls → nodes a ≤ 1000) : Calls Tryz.prog 27 #[.string m, l] w (TmRet w (.mk 3 0 m ls [])) := by
  obtain ⟨i0, hi0, hz0, hz1, hz2⟩ := info_parts infoTm
  obtain ⟨la, ll, lc, rfl⟩ := lvP_slice h
  have HE := Lib.hid (eachl_all ls _ (w.alloc (.cells #[.int .i64 0, .int .i64 0, .string ⟨#[]⟩, .slice none 0 0, .slice none 0 0] 25)) P (lvP_below h (below_lit w _)) hn hm)
  have HB := Lib.hid (below_lit w (.cells #[.int .i64 0, .int .i64 0, .string ⟨#[]⟩, .slice none 0 0, .slice none 0 0] 25))
  have HR := Lib.hid (heap_alloc_new w (.cells #[.int .i64 0, .int .i64 0, .string ⟨#[]⟩, .slice none 0 0, .slice none 0 0] 25))
  have HZ := Lib.hid (show (w.alloc (.cells #[.int .i64 0, .int .i64 0, .string ⟨#[]⟩, .slice none 0 0, .slice none 0 0] 25)).heap.size = w.heap.size + 1 by simp)
  have HN := Lib.hid hn
  clear h hn hm
  go_enter Tryz.func27, Tryz.ntmps27
  go_wp2_with fail
  generalize w.alloc (.cells #[.int .i64 0, .int .i64 0, .string ⟨#[]⟩, .slice none 0 0, .slice none 0 0] 25) = W at *
  refine HE.out.mono ?_
  rintro e w3 ⟨V, rfl, hown, hb3⟩
  obtain ⟨ua, ul, uc, rfl⟩ := ownL_slice hown
  have HLV := Lib.hid (ownL_lvP hown (by have := HN.out; omega) 0 0)
  have hrz := (hb3.block w.heap.size (by rw [HZ.out]; omega)).trans HR.out
  have HB3 := Lib.hid (HB.out.trans (hb3.mono HB.out.size))
  have hz := HZ.out
  clear hown hb3
  obtain ⟨e0, e1, e2, e3, e4⟩ := five_cells hrz
  have g0 := frozen0 (p := 0) hrz
  have g1 := frozen0 (p := 1) hrz
  have g2 := frozen0 (p := 2) hrz
  have g3 := frozen0 (p := 3) hrz
  have g4 := frozen0 (p := 4) hrz
  go_wp2_with fail
  refine bodyPost_ret (results_cell_row rfl _ _ (w.heap.size) 25 _ (0, 0) _ rfl (set5_row hrz) Tryz.underlying25 rfl (by rw [hi0, Option.map_some, hz1]; rfl)) rfl ?_
  refine ⟨_, _, rfl, tmP_lev (lvP_move (w := w3) (fun b _ (hp : W.heap.size ≤ b) => ⟨by omega, set5_far' w3 w.heap.size 0 b _ _ _ _ _ (by omega)⟩) (Nat.le_of_eq (set5_sz w3 w.heap.size 0 _ _ _ _ _).symm) _ _ HLV.out) 3 0 _, set5_below HB3.out _ 0 _ _ _ _ _ (by omega)⟩
set_option maxRecDepth 100000 in
set_option maxHeartbeats 4000000 in
theorem lam_is (t : Tm) (v : Value) (us : List Tm) (A : Option Addr) (len cap : Nat) (w : World) (hv : TmV w t v) (hm : tnodes t ≤ 100000) (hl : lvOk t) (hlen : us.length = len) (hlc : len ≤ cap) (h5 : len ≤ 100000) (hus : TsP w (fun _ => True) A 0 us) (hmu : ∀ a, a ∈ us → tnodes a ≤ 100000 ∧ lvOk a) :
    Calls Tryz.prog 16 #[v, .slice A len cap] w (TmRet w (over 5 t us)) := by
  obtain ⟨i0, hi0, hz0, hz1, hz2⟩ := info_parts infoTm
  have HLV := Lib.hid hl
  have HLEN := Lib.hid hlen
  have HUS := Lib.hid hus
  have HMU := Lib.hid hmu
  clear hl hlen hus hmu
  obtain ⟨l, s, rfl, ht⟩ := hv
  obtain ⟨⟨la, ll, lc, rfl⟩, sa, sl, sc, rfl⟩ := tmP_slices ht
  have HTT := Lib.hid ht
  obtain ⟨k, hk⟩ : ∃ k, tkOf t = k := ⟨_, rfl⟩
  obtain ⟨n, hn⟩ : ∃ n, tnOf t = n := ⟨_, rfl⟩
  obtain ⟨m, hmm⟩ : ∃ m, tmOf t = m := ⟨_, rfl⟩
  dsimp only [tv]
  rw [hk, hn, hmm]
  have HK := Lib.hid hk
  have HNN := Lib.hid hn
  have HMM := Lib.hid hmm
  have HM := Lib.hid hm
  clear hk hn hmm ht hm
  go_enter Tryz.func16, Tryz.ntmps16
  go_wp2_with fail
  have z1 : (w.alloc (.cells #[.int .i64 k, .int .i64 n, .string m, .slice la ll lc, .slice sa sl sc] 25)).heap.size = w.heap.size + 1 := by simp
  have z2 : ((w.alloc (.cells #[.int .i64 k, .int .i64 n, .string m, .slice la ll lc, .slice sa sl sc] 25)).alloc (.cells #[.int .i64 0, .int .i64 0, .string ⟨#[]⟩, .slice none 0 0, .slice none 0 0] 25)).heap.size = w.heap.size + 1 + 1 := by simp
  have r0 : (w.alloc (.cells #[.int .i64 k, .int .i64 n, .string m, .slice la ll lc, .slice sa sl sc] 25)).heap[w.heap.size]? = some (Obj.cells #[.int .i64 k, .int .i64 n, .string m, .slice la ll lc, .slice sa sl sc] 25 (0, 0)) := by
    have := heap_alloc_new w (.cells #[.int .i64 k, .int .i64 n, .string m, .slice la ll lc, .slice sa sl sc] 25)
    exact this
  have r1 : ((w.alloc (.cells #[.int .i64 k, .int .i64 n, .string m, .slice la ll lc, .slice sa sl sc] 25)).alloc (.cells #[.int .i64 0, .int .i64 0, .string ⟨#[]⟩, .slice none 0 0, .slice none 0 0] 25)).heap[w.heap.size + 1]? = some (Obj.cells #[.int .i64 0, .int .i64 0, .string ⟨#[]⟩, .slice none 0 0, .slice none 0 0] 25 (0, 0)) := by
    have := heap_alloc_new (w.alloc (.cells #[.int .i64 k, .int .i64 n, .string m, .slice la ll lc, .slice sa sl sc] 25)) (.cells #[.int .i64 0, .int .i64 0, .string ⟨#[]⟩, .slice none 0 0, .slice none 0 0] 25)
    rwa [z1] at this
  have HB := Lib.hid ((below_lit w (.cells #[.int .i64 k, .int .i64 n, .string m, .slice la ll lc, .slice sa sl sc] 25)).trans ((below_lit (w.alloc (.cells #[.int .i64 k, .int .i64 n, .string m, .slice la ll lc, .slice sa sl sc] 25)) (.cells #[.int .i64 0, .int .i64 0, .string ⟨#[]⟩, .slice none 0 0, .slice none 0 0] 25)).mono (below_lit w (.cells #[.int .i64 k, .int .i64 n, .string m, .slice la ll lc, .slice sa sl sc] 25)).size))
  have HR0 := Lib.hid ((heap_alloc_old (w.alloc (.cells #[.int .i64 k, .int .i64 n, .string m, .slice la ll lc, .slice sa sl sc] 25)) (.cells #[.int .i64 0, .int .i64 0, .string ⟨#[]⟩, .slice none 0 0, .slice none 0 0] 25) (by rw [z1]; omega)).trans (r0))
  have HR1 := Lib.hid (r1)
  clear r0 r1
  generalize ((w.alloc (.cells #[.int .i64 k, .int .i64 n, .string m, .slice la ll lc, .slice sa sl sc] 25)).alloc (.cells #[.int .i64 0, .int .i64 0, .string ⟨#[]⟩, .slice none 0 0, .slice none 0 0] 25)) = W2 at *
  have HZ := Lib.hid z2
  clear z1 z2
  have hrm := own_is t _ W2 ⟨_, _, rfl, tmP_below HB.out HTT.out⟩ HM.out HLV.out
  dsimp only [tv] at hrm
  rw [HK.out, HNN.out, HMM.out] at hrm
  refine hrm.mono ?_
  clear hrm
  rintro e w3 ⟨l9, s9, rfl, ht9, hb3⟩
  obtain ⟨⟨oa, ol, oc, rfl⟩, pa, pl, pc, rfl⟩ := tmP_slices ht9
  dsimp only [tv]
  rw [HK.out, HNN.out, HMM.out]
  have HT9 := Lib.hid ht9
  have HB3 := Lib.hid (HB.out.trans (hb3.mono HB.out.size))
  have hs3 : w.heap.size + 1 + 1 ≤ w3.heap.size := by rw [← HZ.out]; exact hb3.size
  have HR13 := Lib.hid ((hb3.block (w.heap.size + 1) (by rw [HZ.out]; omega)).trans HR1.out)
  clear ht9 hb3 HR0 HR1
  go_wp2_with fail
  refine (eacht_own us A len cap w3 HLEN.out hlc h5 (tsP_below HB3.out HUS.out) HMU.out).mono ?_
  rintro e w4 ⟨V, rfl, hown, hb4⟩
  obtain ⟨A', len', cap', rfl, hl', hlc', hn', hts'⟩ := ownT_tsP hown
  have HTS := Lib.hid (show TsP w4 (fun b => w.heap.size + 1 + 1 ≤ b) A' 0 us from tsP_move (w := w4) (w' := w4) (fun b _ hp => ⟨Nat.le_trans hs3 hp, rfl⟩) (Nat.le_refl _) _ _ _ hts')
  have HT4 := Lib.hid (show TmP w4 (fun b => w.heap.size + 1 + 1 ≤ b) t (.slice oa ol oc) (.slice pa pl pc) from tmP_below hb4 (tmP_weak (fun b (hb : W2.heap.size ≤ b) => by have := HZ.out; omega) HT9.out))
  have HB4 := Lib.hid (HB3.out.trans (hb4.mono HB3.out.size))
  have hs4 : w.heap.size + 1 + 1 ≤ w4.heap.size := Nat.le_trans hs3 hb4.size
  have HR14 := Lib.hid ((hb4.block (w.heap.size + 1) (by omega)).trans HR13.out)
  have hbd := bound_is 5 (fun b => w.heap.size + 1 + 1 ≤ b) t oa ol oc pa pl pc us A' len' cap' w4 HT4.out hl' (by have := HLEN.out; omega) HTS.out
  dsimp only [tv] at hbd
  rw [HK.out, HNN.out, HMM.out] at hbd
  have HBD := Lib.hid hbd
  clear hown hb4 hts' hn' hbd HR13
  go_wp2_with fail
  refine HBD.out.mono ?_
  rintro e w5 ⟨l9, s9, rfl, ht9, hb5⟩
  obtain ⟨⟨ua, ul, uc, rfl⟩, va, vl, vc, rfl⟩ := tmP_slices ht9
  have HT5 := Lib.hid ht9
  have HB5 := Lib.hid (HB4.out.trans (hb5.mono HB4.out.size))
  have hrz := (hb5.block (w.heap.size + 1) (by omega)).trans HR14.out
  obtain ⟨ko, hko⟩ : ∃ q, tkOf (over 5 t us) = q := ⟨_, rfl⟩
  obtain ⟨no, hno⟩ : ∃ q, tnOf (over 5 t us) = q := ⟨_, rfl⟩
  obtain ⟨mo, hmo⟩ : ∃ q, tmOf (over 5 t us) = q := ⟨_, rfl⟩
  have HOO := Lib.hid (And.intro hko (And.intro hno hmo))
  rw [hko, hno, hmo]
  clear ht9 hb5 hko hno hmo
  obtain ⟨e0, e1, e2, e3, e4⟩ := five_cells hrz
  have g0 := frozen0 (p := 0) hrz
  have g1 := frozen0 (p := 1) hrz
  have g2 := frozen0 (p := 2) hrz
  have g3 := frozen0 (p := 3) hrz
  have g4 := frozen0 (p := 4) hrz
  go_wp2_with fail
  refine bodyPost_ret (results_cell_row rfl _ _ (w.heap.size + 1) 25 _ (0, 0) _ rfl (set5_row hrz) Tryz.underlying25 rfl (by rw [hi0, Option.map_some, hz1]; rfl)) rfl ?_
  refine ⟨_, _, by dsimp only [tv]; rw [HOO.out.1, HOO.out.2.1, HOO.out.2.2], tmP_move (w := w5) (fun b _ hp => ?_) (Nat.le_of_eq (set5_sz w5 (w.heap.size + 1) 0 _ _ _ _ _).symm) _ _ _ HT5.out, set5_below HB5.out _ 0 _ _ _ _ _ (by omega)⟩
  have hp' : w.heap.size + 1 + 1 ≤ b := by
    rcases hp with hp | hp
    · exact hp
    · exact Nat.le_trans hs4 hp
  exact ⟨by omega, set5_far' w5 (w.heap.size + 1) 0 b _ _ _ _ _ (by omega)⟩
set_option maxRecDepth 100000 in
set_option maxHeartbeats 4000000 in
theorem pi_is (t : Tm) (v : Value) (us : List Tm) (A : Option Addr) (len cap : Nat) (w : World) (hv : TmV w t v) (hm : tnodes t ≤ 100000) (hl : lvOk t) (hlen : us.length = len) (hlc : len ≤ cap) (h5 : len ≤ 100000) (hus : TsP w (fun _ => True) A 0 us) (hmu : ∀ a, a ∈ us → tnodes a ≤ 100000 ∧ lvOk a) :
    Calls Tryz.prog 17 #[v, .slice A len cap] w (TmRet w (over 6 t us)) := by
  obtain ⟨i0, hi0, hz0, hz1, hz2⟩ := info_parts infoTm
  have HLV := Lib.hid hl
  have HLEN := Lib.hid hlen
  have HUS := Lib.hid hus
  have HMU := Lib.hid hmu
  clear hl hlen hus hmu
  obtain ⟨l, s, rfl, ht⟩ := hv
  obtain ⟨⟨la, ll, lc, rfl⟩, sa, sl, sc, rfl⟩ := tmP_slices ht
  have HTT := Lib.hid ht
  obtain ⟨k, hk⟩ : ∃ k, tkOf t = k := ⟨_, rfl⟩
  obtain ⟨n, hn⟩ : ∃ n, tnOf t = n := ⟨_, rfl⟩
  obtain ⟨m, hmm⟩ : ∃ m, tmOf t = m := ⟨_, rfl⟩
  dsimp only [tv]
  rw [hk, hn, hmm]
  have HK := Lib.hid hk
  have HNN := Lib.hid hn
  have HMM := Lib.hid hmm
  have HM := Lib.hid hm
  clear hk hn hmm ht hm
  go_enter Tryz.func17, Tryz.ntmps17
  go_wp2_with fail
  have z1 : (w.alloc (.cells #[.int .i64 k, .int .i64 n, .string m, .slice la ll lc, .slice sa sl sc] 25)).heap.size = w.heap.size + 1 := by simp
  have z2 : ((w.alloc (.cells #[.int .i64 k, .int .i64 n, .string m, .slice la ll lc, .slice sa sl sc] 25)).alloc (.cells #[.int .i64 0, .int .i64 0, .string ⟨#[]⟩, .slice none 0 0, .slice none 0 0] 25)).heap.size = w.heap.size + 1 + 1 := by simp
  have r0 : (w.alloc (.cells #[.int .i64 k, .int .i64 n, .string m, .slice la ll lc, .slice sa sl sc] 25)).heap[w.heap.size]? = some (Obj.cells #[.int .i64 k, .int .i64 n, .string m, .slice la ll lc, .slice sa sl sc] 25 (0, 0)) := by
    have := heap_alloc_new w (.cells #[.int .i64 k, .int .i64 n, .string m, .slice la ll lc, .slice sa sl sc] 25)
    exact this
  have r1 : ((w.alloc (.cells #[.int .i64 k, .int .i64 n, .string m, .slice la ll lc, .slice sa sl sc] 25)).alloc (.cells #[.int .i64 0, .int .i64 0, .string ⟨#[]⟩, .slice none 0 0, .slice none 0 0] 25)).heap[w.heap.size + 1]? = some (Obj.cells #[.int .i64 0, .int .i64 0, .string ⟨#[]⟩, .slice none 0 0, .slice none 0 0] 25 (0, 0)) := by
    have := heap_alloc_new (w.alloc (.cells #[.int .i64 k, .int .i64 n, .string m, .slice la ll lc, .slice sa sl sc] 25)) (.cells #[.int .i64 0, .int .i64 0, .string ⟨#[]⟩, .slice none 0 0, .slice none 0 0] 25)
    rwa [z1] at this
  have HB := Lib.hid ((below_lit w (.cells #[.int .i64 k, .int .i64 n, .string m, .slice la ll lc, .slice sa sl sc] 25)).trans ((below_lit (w.alloc (.cells #[.int .i64 k, .int .i64 n, .string m, .slice la ll lc, .slice sa sl sc] 25)) (.cells #[.int .i64 0, .int .i64 0, .string ⟨#[]⟩, .slice none 0 0, .slice none 0 0] 25)).mono (below_lit w (.cells #[.int .i64 k, .int .i64 n, .string m, .slice la ll lc, .slice sa sl sc] 25)).size))
  have HR0 := Lib.hid ((heap_alloc_old (w.alloc (.cells #[.int .i64 k, .int .i64 n, .string m, .slice la ll lc, .slice sa sl sc] 25)) (.cells #[.int .i64 0, .int .i64 0, .string ⟨#[]⟩, .slice none 0 0, .slice none 0 0] 25) (by rw [z1]; omega)).trans (r0))
  have HR1 := Lib.hid (r1)
  clear r0 r1
  generalize ((w.alloc (.cells #[.int .i64 k, .int .i64 n, .string m, .slice la ll lc, .slice sa sl sc] 25)).alloc (.cells #[.int .i64 0, .int .i64 0, .string ⟨#[]⟩, .slice none 0 0, .slice none 0 0] 25)) = W2 at *
  have HZ := Lib.hid z2
  clear z1 z2
  have hrm := own_is t _ W2 ⟨_, _, rfl, tmP_below HB.out HTT.out⟩ HM.out HLV.out
  dsimp only [tv] at hrm
  rw [HK.out, HNN.out, HMM.out] at hrm
  refine hrm.mono ?_
  clear hrm
  rintro e w3 ⟨l9, s9, rfl, ht9, hb3⟩
  obtain ⟨⟨oa, ol, oc, rfl⟩, pa, pl, pc, rfl⟩ := tmP_slices ht9
  dsimp only [tv]
  rw [HK.out, HNN.out, HMM.out]
  have HT9 := Lib.hid ht9
  have HB3 := Lib.hid (HB.out.trans (hb3.mono HB.out.size))
  have hs3 : w.heap.size + 1 + 1 ≤ w3.heap.size := by rw [← HZ.out]; exact hb3.size
  have HR13 := Lib.hid ((hb3.block (w.heap.size + 1) (by rw [HZ.out]; omega)).trans HR1.out)
  clear ht9 hb3 HR0 HR1
  go_wp2_with fail
  refine (eacht_own us A len cap w3 HLEN.out hlc h5 (tsP_below HB3.out HUS.out) HMU.out).mono ?_
  rintro e w4 ⟨V, rfl, hown, hb4⟩
  obtain ⟨A', len', cap', rfl, hl', hlc', hn', hts'⟩ := ownT_tsP hown
  have HTS := Lib.hid (show TsP w4 (fun b => w.heap.size + 1 + 1 ≤ b) A' 0 us from tsP_move (w := w4) (w' := w4) (fun b _ hp => ⟨Nat.le_trans hs3 hp, rfl⟩) (Nat.le_refl _) _ _ _ hts')
  have HT4 := Lib.hid (show TmP w4 (fun b => w.heap.size + 1 + 1 ≤ b) t (.slice oa ol oc) (.slice pa pl pc) from tmP_below hb4 (tmP_weak (fun b (hb : W2.heap.size ≤ b) => by have := HZ.out; omega) HT9.out))
  have HB4 := Lib.hid (HB3.out.trans (hb4.mono HB3.out.size))
  have hs4 : w.heap.size + 1 + 1 ≤ w4.heap.size := Nat.le_trans hs3 hb4.size
  have HR14 := Lib.hid ((hb4.block (w.heap.size + 1) (by omega)).trans HR13.out)
  have hbd := bound_is 6 (fun b => w.heap.size + 1 + 1 ≤ b) t oa ol oc pa pl pc us A' len' cap' w4 HT4.out hl' (by have := HLEN.out; omega) HTS.out
  dsimp only [tv] at hbd
  rw [HK.out, HNN.out, HMM.out] at hbd
  have HBD := Lib.hid hbd
  clear hown hb4 hts' hn' hbd HR13
  go_wp2_with fail
  refine HBD.out.mono ?_
  rintro e w5 ⟨l9, s9, rfl, ht9, hb5⟩
  obtain ⟨⟨ua, ul, uc, rfl⟩, va, vl, vc, rfl⟩ := tmP_slices ht9
  have HT5 := Lib.hid ht9
  have HB5 := Lib.hid (HB4.out.trans (hb5.mono HB4.out.size))
  have hrz := (hb5.block (w.heap.size + 1) (by omega)).trans HR14.out
  obtain ⟨ko, hko⟩ : ∃ q, tkOf (over 6 t us) = q := ⟨_, rfl⟩
  obtain ⟨no, hno⟩ : ∃ q, tnOf (over 6 t us) = q := ⟨_, rfl⟩
  obtain ⟨mo, hmo⟩ : ∃ q, tmOf (over 6 t us) = q := ⟨_, rfl⟩
  have HOO := Lib.hid (And.intro hko (And.intro hno hmo))
  rw [hko, hno, hmo]
  clear ht9 hb5 hko hno hmo
  obtain ⟨e0, e1, e2, e3, e4⟩ := five_cells hrz
  have g0 := frozen0 (p := 0) hrz
  have g1 := frozen0 (p := 1) hrz
  have g2 := frozen0 (p := 2) hrz
  have g3 := frozen0 (p := 3) hrz
  have g4 := frozen0 (p := 4) hrz
  go_wp2_with fail
  refine bodyPost_ret (results_cell_row rfl _ _ (w.heap.size + 1) 25 _ (0, 0) _ rfl (set5_row hrz) Tryz.underlying25 rfl (by rw [hi0, Option.map_some, hz1]; rfl)) rfl ?_
  refine ⟨_, _, by dsimp only [tv]; rw [HOO.out.1, HOO.out.2.1, HOO.out.2.2], tmP_move (w := w5) (fun b _ hp => ?_) (Nat.le_of_eq (set5_sz w5 (w.heap.size + 1) 0 _ _ _ _ _).symm) _ _ _ HT5.out, set5_below HB5.out _ 0 _ _ _ _ _ (by omega)⟩
  have hp' : w.heap.size + 1 + 1 ≤ b := by
    rcases hp with hp | hp
    · exact hp
    · exact Nat.le_trans hs4 hp
  exact ⟨by omega, set5_far' w5 (w.heap.size + 1) 0 b _ _ _ _ _ (by omega)⟩
end Trm
end Go.Proofs.YtbkdecgfiiajnaaGreatDoor
