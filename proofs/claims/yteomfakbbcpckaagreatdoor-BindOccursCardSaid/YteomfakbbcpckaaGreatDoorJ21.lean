/-
  Plain facts and contracts that the law's proof stands on, joined.
  Conditions: each fact's own.
-/
import Derived.Test.YteomfakbbcpckaaGreatDoorJ13
import Derived.Test.YteomfakbbcpckaaGreatDoorJ04
import Derived.Test.YteomfakbbcpckaaGreatDoorJ12
import Derived.Test.YteomfakbbcpckaaGreatDoorJ20
namespace Go.Proofs.YteomfakbbcpckaaGreatDoor
open Go.RowKit
open Lvl
open Trm
namespace Bnd
theorem mvR {w w' : World} {b : Nat} {o : Obj} (hb : Below w.heap.size w w') (hl : Hid (b < w.heap.size)) (hr : Hid (w.heap[b]? = some o)) : Hid (w'.heap[b]? = some o) := Lib.hid ((hb.block _ hl.out).trans hr.out)
theorem mvL {w w' : World} {b : Nat} (hb : Below w.heap.size w w') (hl : Hid (b < w.heap.size)) : Hid (b < w'.heap.size) := Lib.hid (Nat.lt_of_lt_of_le hl.out hb.size)
theorem mvC {w v v' : World} (hb : Below v.heap.size v v') (hc : Hid (Below w.heap.size w v)) : Hid (Below w.heap.size w v') := Lib.hid (hc.out.trans (hb.mono hc.out.size))
theorem mvT {w w' : World} {t : Tm} {v : Value} (hb : Below w.heap.size w w') (ht : Hid (TmV w t v)) : Hid (TmV w' t v) := Lib.hid (ht.out.below hb)
set_option maxRecDepth 100000 in
set_option maxHeartbeats 1000000 in
theorem h6_variable (x : Int) (w : World) : Calls Tryz.prog 32 #[.int .i64 x] w (fun e w' => e = .returned (tv (.mk 1 x ⟨#[]⟩ [] []) (.slice none 0 0) (.slice none 0 0)) ∧ TmP w' (fun _ => True) (.mk 1 x ⟨#[]⟩ [] []) (.slice none 0 0) (.slice none 0 0) ∧ Below w.heap.size w w') := by
 obtain ⟨i0, hi0, hz0, hz1, hz2⟩ := info_parts infoTm
 go_enter Tryz.func32, Tryz.ntmps32
 go_wp2_with fail
 refine bodyPost_ret (results_cell_row rfl _ _ (w.heap.size) 25 _ (0, 0) _ rfl (heap_alloc_new w _) Tryz.underlying25 rfl (by rw [hi0, Option.map_some, hz1]; rfl)) rfl ?_
 refine ⟨rfl, ?_, below_lit w _⟩
 rw [TmP, LvP]
 exact ⟨⟨none, 0, 0, rfl, rfl, Nat.le_refl _, by omega, fun _ => rfl, by rw [LsP]; trivial⟩, none, 0, 0, rfl, rfl, Nat.le_refl _, by omega, fun _ => rfl, by rw [TsP]; trivial⟩
set_option maxRecDepth 100000 in
set_option maxHeartbeats 1000000 in
theorem h6_constant (x : ByteArray) (w : World) : Calls Tryz.prog 21 #[.string x] w (fun e w' => e = .returned (tv (.mk 3 0 x [] []) (.slice none 0 0) (.slice none 0 0)) ∧ TmP w' (fun _ => True) (.mk 3 0 x [] []) (.slice none 0 0) (.slice none 0 0) ∧ Below w.heap.size w w') := by
 obtain ⟨i0, hi0, hz0, hz1, hz2⟩ := info_parts infoTm
 go_enter Tryz.func21, Tryz.ntmps21
 go_wp2_with fail
 refine bodyPost_ret (results_cell_row rfl _ _ (w.heap.size) 25 _ (0, 0) _ rfl (heap_alloc_new w _) Tryz.underlying25 rfl (by rw [hi0, Option.map_some, hz1]; rfl)) rfl ?_
 refine ⟨rfl, ?_, below_lit w _⟩
 rw [TmP, LvP]
 exact ⟨⟨none, 0, 0, rfl, rfl, Nat.le_refl _, by omega, fun _ => rfl, by rw [LsP]; trivial⟩, none, 0, 0, rfl, rfl, Nat.le_refl _, by omega, fun _ => rfl, by rw [TsP]; trivial⟩
set_option maxRecDepth 100000 in
set_option maxHeartbeats 1000000 in
theorem h6_app (a b : Tm) (l s l' s' : Value) (w : World) (ha : TmP w (fun _ => True) a l s) (hb : TmP w (fun _ => True) b l' s') :
  Calls Tryz.prog 31 #[tv a l s, tv b l' s'] w (fun e w' => ∃ l9 s9, e = .returned (tv (.mk 4 0 ⟨#[]⟩ [] [a, b]) l9 s9) ∧ TmP w' (fun _ => True) (.mk 4 0 ⟨#[]⟩ [] [a, b]) l9 s9 ∧ Below w.heap.size w w') := by
 obtain ⟨i0, hi0, hz0, hz1, hz2⟩ := info_parts infoTm
 obtain ⟨⟨la, ll, lc, rfl⟩, sa, sl, sc, rfl⟩ := tmP_slices ha
 obtain ⟨⟨la', ll', lc', rfl⟩, sa', sl', sc', rfl⟩ := tmP_slices hb
 have HA := Lib.hid ha
 have HB' := Lib.hid hb
 clear ha hb
 obtain ⟨k, hk⟩ : ∃ k, tkOf a = k := ⟨_, rfl⟩
 obtain ⟨n, hn⟩ : ∃ n, tnOf a = n := ⟨_, rfl⟩
 obtain ⟨m, hmm⟩ : ∃ m, tmOf a = m := ⟨_, rfl⟩
 obtain ⟨k', hk'⟩ : ∃ k, tkOf b = k := ⟨_, rfl⟩
 obtain ⟨n', hn'⟩ : ∃ n, tnOf b = n := ⟨_, rfl⟩
 obtain ⟨m', hmm'⟩ : ∃ m, tmOf b = m := ⟨_, rfl⟩
 dsimp only [tv]
 rw [hk, hn, hmm, hk', hn', hmm']
 have HKN := Lib.hid (And.intro hk (And.intro hn (And.intro hmm (And.intro hk' (And.intro hn' hmm')))))
 clear hk hn hmm hk' hn' hmm'
 go_enter Tryz.func31, Tryz.ntmps31
 go_wp2_with fail
 have z1 : (w.alloc (.cells #[.int .i64 k, .int .i64 n, .string m, .slice la ll lc, .slice sa sl sc] 25)).heap.size = w.heap.size + 1 := by simp
 have z2 : ((w.alloc (.cells #[.int .i64 k, .int .i64 n, .string m, .slice la ll lc, .slice sa sl sc] 25)).alloc (.cells #[.int .i64 k', .int .i64 n', .string m', .slice la' ll' lc', .slice sa' sl' sc'] 25)).heap.size = w.heap.size + 1 + 1 := by simp
 have z3 : (((w.alloc (.cells #[.int .i64 k, .int .i64 n, .string m, .slice la ll lc, .slice sa sl sc] 25)).alloc (.cells #[.int .i64 k', .int .i64 n', .string m', .slice la' ll' lc', .slice sa' sl' sc'] 25)).alloc (.cells #[.int .i64 4, .int .i64 0, .string ⟨#[]⟩, .slice none 0 0, .slice (some ⟨w.heap.size + 1 + 1 + 1, 0, none⟩) 2 2] 25)).heap.size = w.heap.size + 1 + 1 + 1 := by simp
 have z4 : ((((w.alloc (.cells #[.int .i64 k, .int .i64 n, .string m, .slice la ll lc, .slice sa sl sc] 25)).alloc (.cells #[.int .i64 k', .int .i64 n', .string m', .slice la' ll' lc', .slice sa' sl' sc'] 25)).alloc (.cells #[.int .i64 4, .int .i64 0, .string ⟨#[]⟩, .slice none 0 0, .slice (some ⟨w.heap.size + 1 + 1 + 1, 0, none⟩) 2 2] 25)).alloc (.cells #[.int .i64 k, .int .i64 n, .string m, .slice la ll lc, .slice sa sl sc, .int .i64 k', .int .i64 n', .string m', .slice la' ll' lc', .slice sa' sl' sc'] 25)).heap.size = w.heap.size + 1 + 1 + 1 + 1 := by simp
 have r0 : (w.alloc (.cells #[.int .i64 k, .int .i64 n, .string m, .slice la ll lc, .slice sa sl sc] 25)).heap[w.heap.size]? = some (Obj.cells #[.int .i64 k, .int .i64 n, .string m, .slice la ll lc, .slice sa sl sc] 25 (0, 0)) := by
  have := heap_alloc_new w (.cells #[.int .i64 k, .int .i64 n, .string m, .slice la ll lc, .slice sa sl sc] 25)
  exact this
 have r1 : ((w.alloc (.cells #[.int .i64 k, .int .i64 n, .string m, .slice la ll lc, .slice sa sl sc] 25)).alloc (.cells #[.int .i64 k', .int .i64 n', .string m', .slice la' ll' lc', .slice sa' sl' sc'] 25)).heap[w.heap.size + 1]? = some (Obj.cells #[.int .i64 k', .int .i64 n', .string m', .slice la' ll' lc', .slice sa' sl' sc'] 25 (0, 0)) := by
  have := heap_alloc_new (w.alloc (.cells #[.int .i64 k, .int .i64 n, .string m, .slice la ll lc, .slice sa sl sc] 25)) (.cells #[.int .i64 k', .int .i64 n', .string m', .slice la' ll' lc', .slice sa' sl' sc'] 25)
  rwa [z1] at this
 have r2 : (((w.alloc (.cells #[.int .i64 k, .int .i64 n, .string m, .slice la ll lc, .slice sa sl sc] 25)).alloc (.cells #[.int .i64 k', .int .i64 n', .string m', .slice la' ll' lc', .slice sa' sl' sc'] 25)).alloc (.cells #[.int .i64 4, .int .i64 0, .string ⟨#[]⟩, .slice none 0 0, .slice (some ⟨w.heap.size + 1 + 1 + 1, 0, none⟩) 2 2] 25)).heap[w.heap.size + 1 + 1]? = some (Obj.cells #[.int .i64 4, .int .i64 0, .string ⟨#[]⟩, .slice none 0 0, .slice (some ⟨w.heap.size + 1 + 1 + 1, 0, none⟩) 2 2] 25 (0, 0)) := by
  have := heap_alloc_new ((w.alloc (.cells #[.int .i64 k, .int .i64 n, .string m, .slice la ll lc, .slice sa sl sc] 25)).alloc (.cells #[.int .i64 k', .int .i64 n', .string m', .slice la' ll' lc', .slice sa' sl' sc'] 25)) (.cells #[.int .i64 4, .int .i64 0, .string ⟨#[]⟩, .slice none 0 0, .slice (some ⟨w.heap.size + 1 + 1 + 1, 0, none⟩) 2 2] 25)
  rwa [z2] at this
 have r3 : ((((w.alloc (.cells #[.int .i64 k, .int .i64 n, .string m, .slice la ll lc, .slice sa sl sc] 25)).alloc (.cells #[.int .i64 k', .int .i64 n', .string m', .slice la' ll' lc', .slice sa' sl' sc'] 25)).alloc (.cells #[.int .i64 4, .int .i64 0, .string ⟨#[]⟩, .slice none 0 0, .slice (some ⟨w.heap.size + 1 + 1 + 1, 0, none⟩) 2 2] 25)).alloc (.cells #[.int .i64 k, .int .i64 n, .string m, .slice la ll lc, .slice sa sl sc, .int .i64 k', .int .i64 n', .string m', .slice la' ll' lc', .slice sa' sl' sc'] 25)).heap[w.heap.size + 1 + 1 + 1]? = some (Obj.cells #[.int .i64 k, .int .i64 n, .string m, .slice la ll lc, .slice sa sl sc, .int .i64 k', .int .i64 n', .string m', .slice la' ll' lc', .slice sa' sl' sc'] 25 (0, 0)) := by
  have := heap_alloc_new (((w.alloc (.cells #[.int .i64 k, .int .i64 n, .string m, .slice la ll lc, .slice sa sl sc] 25)).alloc (.cells #[.int .i64 k', .int .i64 n', .string m', .slice la' ll' lc', .slice sa' sl' sc'] 25)).alloc (.cells #[.int .i64 4, .int .i64 0, .string ⟨#[]⟩, .slice none 0 0, .slice (some ⟨w.heap.size + 1 + 1 + 1, 0, none⟩) 2 2] 25)) (.cells #[.int .i64 k, .int .i64 n, .string m, .slice la ll lc, .slice sa sl sc, .int .i64 k', .int .i64 n', .string m', .slice la' ll' lc', .slice sa' sl' sc'] 25)
  rwa [z3] at this
 have HB := Lib.hid ((((below_lit w (.cells #[.int .i64 k, .int .i64 n, .string m, .slice la ll lc, .slice sa sl sc] 25)).trans ((below_lit (w.alloc (.cells #[.int .i64 k, .int .i64 n, .string m, .slice la ll lc, .slice sa sl sc] 25)) (.cells #[.int .i64 k', .int .i64 n', .string m', .slice la' ll' lc', .slice sa' sl' sc'] 25)).mono (below_lit w (.cells #[.int .i64 k, .int .i64 n, .string m, .slice la ll lc, .slice sa sl sc] 25)).size)).trans ((below_lit ((w.alloc (.cells #[.int .i64 k, .int .i64 n, .string m, .slice la ll lc, .slice sa sl sc] 25)).alloc (.cells #[.int .i64 k', .int .i64 n', .string m', .slice la' ll' lc', .slice sa' sl' sc'] 25)) (.cells #[.int .i64 4, .int .i64 0, .string ⟨#[]⟩, .slice none 0 0, .slice (some ⟨w.heap.size + 1 + 1 + 1, 0, none⟩) 2 2] 25)).mono ((below_lit w (.cells #[.int .i64 k, .int .i64 n, .string m, .slice la ll lc, .slice sa sl sc] 25)).trans ((below_lit (w.alloc (.cells #[.int .i64 k, .int .i64 n, .string m, .slice la ll lc, .slice sa sl sc] 25)) (.cells #[.int .i64 k', .int .i64 n', .string m', .slice la' ll' lc', .slice sa' sl' sc'] 25)).mono (below_lit w (.cells #[.int .i64 k, .int .i64 n, .string m, .slice la ll lc, .slice sa sl sc] 25)).size)).size)).trans ((below_lit (((w.alloc (.cells #[.int .i64 k, .int .i64 n, .string m, .slice la ll lc, .slice sa sl sc] 25)).alloc (.cells #[.int .i64 k', .int .i64 n', .string m', .slice la' ll' lc', .slice sa' sl' sc'] 25)).alloc (.cells #[.int .i64 4, .int .i64 0, .string ⟨#[]⟩, .slice none 0 0, .slice (some ⟨w.heap.size + 1 + 1 + 1, 0, none⟩) 2 2] 25)) (.cells #[.int .i64 k, .int .i64 n, .string m, .slice la ll lc, .slice sa sl sc, .int .i64 k', .int .i64 n', .string m', .slice la' ll' lc', .slice sa' sl' sc'] 25)).mono (((below_lit w (.cells #[.int .i64 k, .int .i64 n, .string m, .slice la ll lc, .slice sa sl sc] 25)).trans ((below_lit (w.alloc (.cells #[.int .i64 k, .int .i64 n, .string m, .slice la ll lc, .slice sa sl sc] 25)) (.cells #[.int .i64 k', .int .i64 n', .string m', .slice la' ll' lc', .slice sa' sl' sc'] 25)).mono (below_lit w (.cells #[.int .i64 k, .int .i64 n, .string m, .slice la ll lc, .slice sa sl sc] 25)).size)).trans ((below_lit ((w.alloc (.cells #[.int .i64 k, .int .i64 n, .string m, .slice la ll lc, .slice sa sl sc] 25)).alloc (.cells #[.int .i64 k', .int .i64 n', .string m', .slice la' ll' lc', .slice sa' sl' sc'] 25)) (.cells #[.int .i64 4, .int .i64 0, .string ⟨#[]⟩, .slice none 0 0, .slice (some ⟨w.heap.size + 1 + 1 + 1, 0, none⟩) 2 2] 25)).mono ((below_lit w (.cells #[.int .i64 k, .int .i64 n, .string m, .slice la ll lc, .slice sa sl sc] 25)).trans ((below_lit (w.alloc (.cells #[.int .i64 k, .int .i64 n, .string m, .slice la ll lc, .slice sa sl sc] 25)) (.cells #[.int .i64 k', .int .i64 n', .string m', .slice la' ll' lc', .slice sa' sl' sc'] 25)).mono (below_lit w (.cells #[.int .i64 k, .int .i64 n, .string m, .slice la ll lc, .slice sa sl sc] 25)).size)).size)).size))
 have HR0 := Lib.hid ((heap_alloc_old (((w.alloc (.cells #[.int .i64 k, .int .i64 n, .string m, .slice la ll lc, .slice sa sl sc] 25)).alloc (.cells #[.int .i64 k', .int .i64 n', .string m', .slice la' ll' lc', .slice sa' sl' sc'] 25)).alloc (.cells #[.int .i64 4, .int .i64 0, .string ⟨#[]⟩, .slice none 0 0, .slice (some ⟨w.heap.size + 1 + 1 + 1, 0, none⟩) 2 2] 25)) (.cells #[.int .i64 k, .int .i64 n, .string m, .slice la ll lc, .slice sa sl sc, .int .i64 k', .int .i64 n', .string m', .slice la' ll' lc', .slice sa' sl' sc'] 25) (by rw [z3]; omega)).trans ((heap_alloc_old ((w.alloc (.cells #[.int .i64 k, .int .i64 n, .string m, .slice la ll lc, .slice sa sl sc] 25)).alloc (.cells #[.int .i64 k', .int .i64 n', .string m', .slice la' ll' lc', .slice sa' sl' sc'] 25)) (.cells #[.int .i64 4, .int .i64 0, .string ⟨#[]⟩, .slice none 0 0, .slice (some ⟨w.heap.size + 1 + 1 + 1, 0, none⟩) 2 2] 25) (by rw [z2]; omega)).trans ((heap_alloc_old (w.alloc (.cells #[.int .i64 k, .int .i64 n, .string m, .slice la ll lc, .slice sa sl sc] 25)) (.cells #[.int .i64 k', .int .i64 n', .string m', .slice la' ll' lc', .slice sa' sl' sc'] 25) (by rw [z1]; omega)).trans (r0))))
 have HR1 := Lib.hid ((heap_alloc_old (((w.alloc (.cells #[.int .i64 k, .int .i64 n, .string m, .slice la ll lc, .slice sa sl sc] 25)).alloc (.cells #[.int .i64 k', .int .i64 n', .string m', .slice la' ll' lc', .slice sa' sl' sc'] 25)).alloc (.cells #[.int .i64 4, .int .i64 0, .string ⟨#[]⟩, .slice none 0 0, .slice (some ⟨w.heap.size + 1 + 1 + 1, 0, none⟩) 2 2] 25)) (.cells #[.int .i64 k, .int .i64 n, .string m, .slice la ll lc, .slice sa sl sc, .int .i64 k', .int .i64 n', .string m', .slice la' ll' lc', .slice sa' sl' sc'] 25) (by rw [z3]; omega)).trans ((heap_alloc_old ((w.alloc (.cells #[.int .i64 k, .int .i64 n, .string m, .slice la ll lc, .slice sa sl sc] 25)).alloc (.cells #[.int .i64 k', .int .i64 n', .string m', .slice la' ll' lc', .slice sa' sl' sc'] 25)) (.cells #[.int .i64 4, .int .i64 0, .string ⟨#[]⟩, .slice none 0 0, .slice (some ⟨w.heap.size + 1 + 1 + 1, 0, none⟩) 2 2] 25) (by rw [z2]; omega)).trans (r1)))
 have HR2 := Lib.hid ((heap_alloc_old (((w.alloc (.cells #[.int .i64 k, .int .i64 n, .string m, .slice la ll lc, .slice sa sl sc] 25)).alloc (.cells #[.int .i64 k', .int .i64 n', .string m', .slice la' ll' lc', .slice sa' sl' sc'] 25)).alloc (.cells #[.int .i64 4, .int .i64 0, .string ⟨#[]⟩, .slice none 0 0, .slice (some ⟨w.heap.size + 1 + 1 + 1, 0, none⟩) 2 2] 25)) (.cells #[.int .i64 k, .int .i64 n, .string m, .slice la ll lc, .slice sa sl sc, .int .i64 k', .int .i64 n', .string m', .slice la' ll' lc', .slice sa' sl' sc'] 25) (by rw [z3]; omega)).trans (r2))
 have HR3 := Lib.hid (r3)
 clear r0 r1 r2 r3
 generalize ((((w.alloc (.cells #[.int .i64 k, .int .i64 n, .string m, .slice la ll lc, .slice sa sl sc] 25)).alloc (.cells #[.int .i64 k', .int .i64 n', .string m', .slice la' ll' lc', .slice sa' sl' sc'] 25)).alloc (.cells #[.int .i64 4, .int .i64 0, .string ⟨#[]⟩, .slice none 0 0, .slice (some ⟨w.heap.size + 1 + 1 + 1, 0, none⟩) 2 2] 25)).alloc (.cells #[.int .i64 k, .int .i64 n, .string m, .slice la ll lc, .slice sa sl sc, .int .i64 k', .int .i64 n', .string m', .slice la' ll' lc', .slice sa' sl' sc'] 25)) = W5 at *
 have HZ := Lib.hid z4
 clear z1 z2 z3 z4
 refine bodyPost_ret (results_cell_row rfl _ _ (w.heap.size + 1 + 1) 25 _ (0, 0) _ rfl HR2.out Tryz.underlying25 rfl (by rw [hi0, Option.map_some, hz1]; rfl)) rfl ?_
 refine ⟨_, _, rfl, ?_, HB.out⟩
 have ha := tmP_below HB.out HA.out
 have hb := tmP_below HB.out HB'.out
 have r3 := HR3.out
 have hkn := HKN.out
 rw [← hkn.1, ← hkn.2.1, ← hkn.2.2.1, ← hkn.2.2.2.1, ← hkn.2.2.2.2.1, ← hkn.2.2.2.2.2] at r3
 have hts := tsP_row (P := fun _ => True) (ts := [a, b]) (ss := [(.slice la ll lc, .slice sa sl sc), (.slice la' ll' lc', .slice sa' sl' sc')]) rfl r3 trivial (fun i h1 h2 => by
  have : i = 0 ∨ i = 1 := by simp at h1; omega
  rcases this with rfl | rfl
  ·exact ha
  ·exact hb)
 rw [TmP, LvP]
 exact ⟨⟨none, 0, 0, rfl, rfl, Nat.le_refl _, by omega, fun _ => rfl, by rw [LsP]; trivial⟩, some ⟨w.heap.size + 1 + 1 + 1, 0, none⟩, 2, 2, rfl, rfl, Nat.le_refl _, by omega, (fun e => by cases e), hts⟩
set_option maxRecDepth 100000 in
set_option maxHeartbeats 1000000 in
theorem h6_lam (a b : Tm) (l s l' s' : Value) (w : World) (ha : TmP w (fun _ => True) a l s) (hb : TmP w (fun _ => True) b l' s') :
  Calls Tryz.prog 33 #[tv a l s, tv b l' s'] w (fun e w' => ∃ l9 s9, e = .returned (tv (.mk 5 0 ⟨#[]⟩ [] [a, b]) l9 s9) ∧ TmP w' (fun _ => True) (.mk 5 0 ⟨#[]⟩ [] [a, b]) l9 s9 ∧ Below w.heap.size w w') := by
 obtain ⟨i0, hi0, hz0, hz1, hz2⟩ := info_parts infoTm
 obtain ⟨⟨la, ll, lc, rfl⟩, sa, sl, sc, rfl⟩ := tmP_slices ha
 obtain ⟨⟨la', ll', lc', rfl⟩, sa', sl', sc', rfl⟩ := tmP_slices hb
 have HA := Lib.hid ha
 have HB' := Lib.hid hb
 clear ha hb
 obtain ⟨k, hk⟩ : ∃ k, tkOf a = k := ⟨_, rfl⟩
 obtain ⟨n, hn⟩ : ∃ n, tnOf a = n := ⟨_, rfl⟩
 obtain ⟨m, hmm⟩ : ∃ m, tmOf a = m := ⟨_, rfl⟩
 obtain ⟨k', hk'⟩ : ∃ k, tkOf b = k := ⟨_, rfl⟩
 obtain ⟨n', hn'⟩ : ∃ n, tnOf b = n := ⟨_, rfl⟩
 obtain ⟨m', hmm'⟩ : ∃ m, tmOf b = m := ⟨_, rfl⟩
 dsimp only [tv]
 rw [hk, hn, hmm, hk', hn', hmm']
 have HKN := Lib.hid (And.intro hk (And.intro hn (And.intro hmm (And.intro hk' (And.intro hn' hmm')))))
 clear hk hn hmm hk' hn' hmm'
 go_enter Tryz.func33, Tryz.ntmps33
 go_wp2_with fail
 have z1 : (w.alloc (.cells #[.int .i64 k, .int .i64 n, .string m, .slice la ll lc, .slice sa sl sc] 25)).heap.size = w.heap.size + 1 := by simp
 have z2 : ((w.alloc (.cells #[.int .i64 k, .int .i64 n, .string m, .slice la ll lc, .slice sa sl sc] 25)).alloc (.cells #[.int .i64 k', .int .i64 n', .string m', .slice la' ll' lc', .slice sa' sl' sc'] 25)).heap.size = w.heap.size + 1 + 1 := by simp
 have z3 : (((w.alloc (.cells #[.int .i64 k, .int .i64 n, .string m, .slice la ll lc, .slice sa sl sc] 25)).alloc (.cells #[.int .i64 k', .int .i64 n', .string m', .slice la' ll' lc', .slice sa' sl' sc'] 25)).alloc (.cells #[.int .i64 5, .int .i64 0, .string ⟨#[]⟩, .slice none 0 0, .slice (some ⟨w.heap.size + 1 + 1 + 1, 0, none⟩) 2 2] 25)).heap.size = w.heap.size + 1 + 1 + 1 := by simp
 have z4 : ((((w.alloc (.cells #[.int .i64 k, .int .i64 n, .string m, .slice la ll lc, .slice sa sl sc] 25)).alloc (.cells #[.int .i64 k', .int .i64 n', .string m', .slice la' ll' lc', .slice sa' sl' sc'] 25)).alloc (.cells #[.int .i64 5, .int .i64 0, .string ⟨#[]⟩, .slice none 0 0, .slice (some ⟨w.heap.size + 1 + 1 + 1, 0, none⟩) 2 2] 25)).alloc (.cells #[.int .i64 k, .int .i64 n, .string m, .slice la ll lc, .slice sa sl sc, .int .i64 k', .int .i64 n', .string m', .slice la' ll' lc', .slice sa' sl' sc'] 25)).heap.size = w.heap.size + 1 + 1 + 1 + 1 := by simp
 have r0 : (w.alloc (.cells #[.int .i64 k, .int .i64 n, .string m, .slice la ll lc, .slice sa sl sc] 25)).heap[w.heap.size]? = some (Obj.cells #[.int .i64 k, .int .i64 n, .string m, .slice la ll lc, .slice sa sl sc] 25 (0, 0)) := by
  have := heap_alloc_new w (.cells #[.int .i64 k, .int .i64 n, .string m, .slice la ll lc, .slice sa sl sc] 25)
  exact this
 have r1 : ((w.alloc (.cells #[.int .i64 k, .int .i64 n, .string m, .slice la ll lc, .slice sa sl sc] 25)).alloc (.cells #[.int .i64 k', .int .i64 n', .string m', .slice la' ll' lc', .slice sa' sl' sc'] 25)).heap[w.heap.size + 1]? = some (Obj.cells #[.int .i64 k', .int .i64 n', .string m', .slice la' ll' lc', .slice sa' sl' sc'] 25 (0, 0)) := by
  have := heap_alloc_new (w.alloc (.cells #[.int .i64 k, .int .i64 n, .string m, .slice la ll lc, .slice sa sl sc] 25)) (.cells #[.int .i64 k', .int .i64 n', .string m', .slice la' ll' lc', .slice sa' sl' sc'] 25)
  rwa [z1] at this
 have r2 : (((w.alloc (.cells #[.int .i64 k, .int .i64 n, .string m, .slice la ll lc, .slice sa sl sc] 25)).alloc (.cells #[.int .i64 k', .int .i64 n', .string m', .slice la' ll' lc', .slice sa' sl' sc'] 25)).alloc (.cells #[.int .i64 5, .int .i64 0, .string ⟨#[]⟩, .slice none 0 0, .slice (some ⟨w.heap.size + 1 + 1 + 1, 0, none⟩) 2 2] 25)).heap[w.heap.size + 1 + 1]? = some (Obj.cells #[.int .i64 5, .int .i64 0, .string ⟨#[]⟩, .slice none 0 0, .slice (some ⟨w.heap.size + 1 + 1 + 1, 0, none⟩) 2 2] 25 (0, 0)) := by
  have := heap_alloc_new ((w.alloc (.cells #[.int .i64 k, .int .i64 n, .string m, .slice la ll lc, .slice sa sl sc] 25)).alloc (.cells #[.int .i64 k', .int .i64 n', .string m', .slice la' ll' lc', .slice sa' sl' sc'] 25)) (.cells #[.int .i64 5, .int .i64 0, .string ⟨#[]⟩, .slice none 0 0, .slice (some ⟨w.heap.size + 1 + 1 + 1, 0, none⟩) 2 2] 25)
  rwa [z2] at this
 have r3 : ((((w.alloc (.cells #[.int .i64 k, .int .i64 n, .string m, .slice la ll lc, .slice sa sl sc] 25)).alloc (.cells #[.int .i64 k', .int .i64 n', .string m', .slice la' ll' lc', .slice sa' sl' sc'] 25)).alloc (.cells #[.int .i64 5, .int .i64 0, .string ⟨#[]⟩, .slice none 0 0, .slice (some ⟨w.heap.size + 1 + 1 + 1, 0, none⟩) 2 2] 25)).alloc (.cells #[.int .i64 k, .int .i64 n, .string m, .slice la ll lc, .slice sa sl sc, .int .i64 k', .int .i64 n', .string m', .slice la' ll' lc', .slice sa' sl' sc'] 25)).heap[w.heap.size + 1 + 1 + 1]? = some (Obj.cells #[.int .i64 k, .int .i64 n, .string m, .slice la ll lc, .slice sa sl sc, .int .i64 k', .int .i64 n', .string m', .slice la' ll' lc', .slice sa' sl' sc'] 25 (0, 0)) := by
  have := heap_alloc_new (((w.alloc (.cells #[.int .i64 k, .int .i64 n, .string m, .slice la ll lc, .slice sa sl sc] 25)).alloc (.cells #[.int .i64 k', .int .i64 n', .string m', .slice la' ll' lc', .slice sa' sl' sc'] 25)).alloc (.cells #[.int .i64 5, .int .i64 0, .string ⟨#[]⟩, .slice none 0 0, .slice (some ⟨w.heap.size + 1 + 1 + 1, 0, none⟩) 2 2] 25)) (.cells #[.int .i64 k, .int .i64 n, .string m, .slice la ll lc, .slice sa sl sc, .int .i64 k', .int .i64 n', .string m', .slice la' ll' lc', .slice sa' sl' sc'] 25)
  rwa [z3] at this
 have HB := Lib.hid ((((below_lit w (.cells #[.int .i64 k, .int .i64 n, .string m, .slice la ll lc, .slice sa sl sc] 25)).trans ((below_lit (w.alloc (.cells #[.int .i64 k, .int .i64 n, .string m, .slice la ll lc, .slice sa sl sc] 25)) (.cells #[.int .i64 k', .int .i64 n', .string m', .slice la' ll' lc', .slice sa' sl' sc'] 25)).mono (below_lit w (.cells #[.int .i64 k, .int .i64 n, .string m, .slice la ll lc, .slice sa sl sc] 25)).size)).trans ((below_lit ((w.alloc (.cells #[.int .i64 k, .int .i64 n, .string m, .slice la ll lc, .slice sa sl sc] 25)).alloc (.cells #[.int .i64 k', .int .i64 n', .string m', .slice la' ll' lc', .slice sa' sl' sc'] 25)) (.cells #[.int .i64 5, .int .i64 0, .string ⟨#[]⟩, .slice none 0 0, .slice (some ⟨w.heap.size + 1 + 1 + 1, 0, none⟩) 2 2] 25)).mono ((below_lit w (.cells #[.int .i64 k, .int .i64 n, .string m, .slice la ll lc, .slice sa sl sc] 25)).trans ((below_lit (w.alloc (.cells #[.int .i64 k, .int .i64 n, .string m, .slice la ll lc, .slice sa sl sc] 25)) (.cells #[.int .i64 k', .int .i64 n', .string m', .slice la' ll' lc', .slice sa' sl' sc'] 25)).mono (below_lit w (.cells #[.int .i64 k, .int .i64 n, .string m, .slice la ll lc, .slice sa sl sc] 25)).size)).size)).trans ((below_lit (((w.alloc (.cells #[.int .i64 k, .int .i64 n, .string m, .slice la ll lc, .slice sa sl sc] 25)).alloc (.cells #[.int .i64 k', .int .i64 n', .string m', .slice la' ll' lc', .slice sa' sl' sc'] 25)).alloc (.cells #[.int .i64 5, .int .i64 0, .string ⟨#[]⟩, .slice none 0 0, .slice (some ⟨w.heap.size + 1 + 1 + 1, 0, none⟩) 2 2] 25)) (.cells #[.int .i64 k, .int .i64 n, .string m, .slice la ll lc, .slice sa sl sc, .int .i64 k', .int .i64 n', .string m', .slice la' ll' lc', .slice sa' sl' sc'] 25)).mono (((below_lit w (.cells #[.int .i64 k, .int .i64 n, .string m, .slice la ll lc, .slice sa sl sc] 25)).trans ((below_lit (w.alloc (.cells #[.int .i64 k, .int .i64 n, .string m, .slice la ll lc, .slice sa sl sc] 25)) (.cells #[.int .i64 k', .int .i64 n', .string m', .slice la' ll' lc', .slice sa' sl' sc'] 25)).mono (below_lit w (.cells #[.int .i64 k, .int .i64 n, .string m, .slice la ll lc, .slice sa sl sc] 25)).size)).trans ((below_lit ((w.alloc (.cells #[.int .i64 k, .int .i64 n, .string m, .slice la ll lc, .slice sa sl sc] 25)).alloc (.cells #[.int .i64 k', .int .i64 n', .string m', .slice la' ll' lc', .slice sa' sl' sc'] 25)) (.cells #[.int .i64 5, .int .i64 0, .string ⟨#[]⟩, .slice none 0 0, .slice (some ⟨w.heap.size + 1 + 1 + 1, 0, none⟩) 2 2] 25)).mono ((below_lit w (.cells #[.int .i64 k, .int .i64 n, .string m, .slice la ll lc, .slice sa sl sc] 25)).trans ((below_lit (w.alloc (.cells #[.int .i64 k, .int .i64 n, .string m, .slice la ll lc, .slice sa sl sc] 25)) (.cells #[.int .i64 k', .int .i64 n', .string m', .slice la' ll' lc', .slice sa' sl' sc'] 25)).mono (below_lit w (.cells #[.int .i64 k, .int .i64 n, .string m, .slice la ll lc, .slice sa sl sc] 25)).size)).size)).size))
 have HR0 := Lib.hid ((heap_alloc_old (((w.alloc (.cells #[.int .i64 k, .int .i64 n, .string m, .slice la ll lc, .slice sa sl sc] 25)).alloc (.cells #[.int .i64 k', .int .i64 n', .string m', .slice la' ll' lc', .slice sa' sl' sc'] 25)).alloc (.cells #[.int .i64 5, .int .i64 0, .string ⟨#[]⟩, .slice none 0 0, .slice (some ⟨w.heap.size + 1 + 1 + 1, 0, none⟩) 2 2] 25)) (.cells #[.int .i64 k, .int .i64 n, .string m, .slice la ll lc, .slice sa sl sc, .int .i64 k', .int .i64 n', .string m', .slice la' ll' lc', .slice sa' sl' sc'] 25) (by rw [z3]; omega)).trans ((heap_alloc_old ((w.alloc (.cells #[.int .i64 k, .int .i64 n, .string m, .slice la ll lc, .slice sa sl sc] 25)).alloc (.cells #[.int .i64 k', .int .i64 n', .string m', .slice la' ll' lc', .slice sa' sl' sc'] 25)) (.cells #[.int .i64 5, .int .i64 0, .string ⟨#[]⟩, .slice none 0 0, .slice (some ⟨w.heap.size + 1 + 1 + 1, 0, none⟩) 2 2] 25) (by rw [z2]; omega)).trans ((heap_alloc_old (w.alloc (.cells #[.int .i64 k, .int .i64 n, .string m, .slice la ll lc, .slice sa sl sc] 25)) (.cells #[.int .i64 k', .int .i64 n', .string m', .slice la' ll' lc', .slice sa' sl' sc'] 25) (by rw [z1]; omega)).trans (r0))))
 have HR1 := Lib.hid ((heap_alloc_old (((w.alloc (.cells #[.int .i64 k, .int .i64 n, .string m, .slice la ll lc, .slice sa sl sc] 25)).alloc (.cells #[.int .i64 k', .int .i64 n', .string m', .slice la' ll' lc', .slice sa' sl' sc'] 25)).alloc (.cells #[.int .i64 5, .int .i64 0, .string ⟨#[]⟩, .slice none 0 0, .slice (some ⟨w.heap.size + 1 + 1 + 1, 0, none⟩) 2 2] 25)) (.cells #[.int .i64 k, .int .i64 n, .string m, .slice la ll lc, .slice sa sl sc, .int .i64 k', .int .i64 n', .string m', .slice la' ll' lc', .slice sa' sl' sc'] 25) (by rw [z3]; omega)).trans ((heap_alloc_old ((w.alloc (.cells #[.int .i64 k, .int .i64 n, .string m, .slice la ll lc, .slice sa sl sc] 25)).alloc (.cells #[.int .i64 k', .int .i64 n', .string m', .slice la' ll' lc', .slice sa' sl' sc'] 25)) (.cells #[.int .i64 5, .int .i64 0, .string ⟨#[]⟩, .slice none 0 0, .slice (some ⟨w.heap.size + 1 + 1 + 1, 0, none⟩) 2 2] 25) (by rw [z2]; omega)).trans (r1)))
 have HR2 := Lib.hid ((heap_alloc_old (((w.alloc (.cells #[.int .i64 k, .int .i64 n, .string m, .slice la ll lc, .slice sa sl sc] 25)).alloc (.cells #[.int .i64 k', .int .i64 n', .string m', .slice la' ll' lc', .slice sa' sl' sc'] 25)).alloc (.cells #[.int .i64 5, .int .i64 0, .string ⟨#[]⟩, .slice none 0 0, .slice (some ⟨w.heap.size + 1 + 1 + 1, 0, none⟩) 2 2] 25)) (.cells #[.int .i64 k, .int .i64 n, .string m, .slice la ll lc, .slice sa sl sc, .int .i64 k', .int .i64 n', .string m', .slice la' ll' lc', .slice sa' sl' sc'] 25) (by rw [z3]; omega)).trans (r2))
 have HR3 := Lib.hid (r3)
 clear r0 r1 r2 r3
 generalize ((((w.alloc (.cells #[.int .i64 k, .int .i64 n, .string m, .slice la ll lc, .slice sa sl sc] 25)).alloc (.cells #[.int .i64 k', .int .i64 n', .string m', .slice la' ll' lc', .slice sa' sl' sc'] 25)).alloc (.cells #[.int .i64 5, .int .i64 0, .string ⟨#[]⟩, .slice none 0 0, .slice (some ⟨w.heap.size + 1 + 1 + 1, 0, none⟩) 2 2] 25)).alloc (.cells #[.int .i64 k, .int .i64 n, .string m, .slice la ll lc, .slice sa sl sc, .int .i64 k', .int .i64 n', .string m', .slice la' ll' lc', .slice sa' sl' sc'] 25)) = W5 at *
 have HZ := Lib.hid z4
 clear z1 z2 z3 z4
 refine bodyPost_ret (results_cell_row rfl _ _ (w.heap.size + 1 + 1) 25 _ (0, 0) _ rfl HR2.out Tryz.underlying25 rfl (by rw [hi0, Option.map_some, hz1]; rfl)) rfl ?_
 refine ⟨_, _, rfl, ?_, HB.out⟩
 have ha := tmP_below HB.out HA.out
 have hb := tmP_below HB.out HB'.out
 have r3 := HR3.out
 have hkn := HKN.out
 rw [← hkn.1, ← hkn.2.1, ← hkn.2.2.1, ← hkn.2.2.2.1, ← hkn.2.2.2.2.1, ← hkn.2.2.2.2.2] at r3
 have hts := tsP_row (P := fun _ => True) (ts := [a, b]) (ss := [(.slice la ll lc, .slice sa sl sc), (.slice la' ll' lc', .slice sa' sl' sc')]) rfl r3 trivial (fun i h1 h2 => by
  have : i = 0 ∨ i = 1 := by simp at h1; omega
  rcases this with rfl | rfl
  ·exact ha
  ·exact hb)
 rw [TmP, LvP]
 exact ⟨⟨none, 0, 0, rfl, rfl, Nat.le_refl _, by omega, fun _ => rfl, by rw [LsP]; trivial⟩, some ⟨w.heap.size + 1 + 1 + 1, 0, none⟩, 2, 2, rfl, rfl, Nat.le_refl _, by omega, (fun e => by cases e), hts⟩
set_option maxRecDepth 100000 in
set_option maxHeartbeats 1000000 in
theorem h6_great (t : Tm) (l s : Value) (ts : List Tm) (A : Option Addr) (len cap : Nat) (w : World) (ht : TmP w (fun _ => True) t l s) (hnt : nmOk t) (hts : TsP w (fun _ => True) A 0 ts) (hlen : ts.length = len) (hl47 : len ≤ 140737488355328) (hnm : nmOkL ts) :
  Calls Tryz.prog 10 #[tv t l s, .slice A len cap] w (fun e w' => ∃ b, (b = false → rn t ≤ 2500 ∧ len ≤ 20) ∧ Ret w (.bool b) e w') := by
 have HTS := Lib.hid hts
 have HN := Lib.hid hlen
 have HNM := Lib.hid hnm
 obtain ⟨⟨la, ll, lc, rfl⟩, sa, sl, sc, rfl⟩ := tmP_slices ht
 obtain ⟨bg, hbg⟩ : ∃ b, decide (2500 < rn t) = b := ⟨_, rfl⟩
 have HGR : Hid (∀ w', Below w.heap.size w w' → Calls Tryz.prog 17 #[tv t (.slice la ll lc) (.slice sa sl sc)] w' (Ret w' (.bool bg))) := by
  have : ∀ w', Below w.heap.size w w' → Calls Tryz.prog 17 #[tv t (.slice la ll lc) (.slice sa sl sc)] w' (Ret w' (.bool bg)) := fun w' hb => great_is t _ w' ⟨_, _, rfl, tmP_below hb ht⟩ hnt bg hbg
  exact this
 have HBG : Hid (bg = false → rn t ≤ 2500) := by
  have : bg = false → rn t ≤ 2500 := fun h => by rw [h] at hbg; have := of_decide_eq_false hbg; omega
  exact this
 clear hts hlen hnm ht hnt hbg
 dsimp only [tv] at HGR ⊢
 generalize tkOf t = k at *
 generalize tnOf t = n at *
 generalize tmOf t = m at *
 by_cases h20 : 20 < len
 ·have d0 : decide ((20 : Int) < (len : Int)) = true := by simp; omega
  go_enter Tryz.func10, Tryz.ntmps10
  go_wp2_with fail
  go_ret
  exact ⟨true, (fun h => by cases h), rfl, below_lit w _⟩
 have d0 : decide ((20 : Int) < (len : Int)) = false := by simp; omega
 go_enter Tryz.func10, Tryz.ntmps10
 go_wp2_with fail
 have z1 : (w.alloc (.cells #[.int .i64 k, .int .i64 n, .string m, .slice la ll lc, .slice sa sl sc] 25)).heap.size = w.heap.size + 1 := by simp
 have r0 : (w.alloc (.cells #[.int .i64 k, .int .i64 n, .string m, .slice la ll lc, .slice sa sl sc] 25)).heap[w.heap.size]? = some (Obj.cells #[.int .i64 k, .int .i64 n, .string m, .slice la ll lc, .slice sa sl sc] 25 (0, 0)) := by
  have := heap_alloc_new w (.cells #[.int .i64 k, .int .i64 n, .string m, .slice la ll lc, .slice sa sl sc] 25)
  exact this
 have HB := Lib.hid (below_lit w (.cells #[.int .i64 k, .int .i64 n, .string m, .slice la ll lc, .slice sa sl sc] 25))
 have HR0 := Lib.hid (r0)
 clear r0
 generalize (w.alloc (.cells #[.int .i64 k, .int .i64 n, .string m, .slice la ll lc, .slice sa sl sc] 25)) = W5 at *
 have HZ := Lib.hid z1
 clear z1
 refine (HGR.out W5 HB.out).mono ?_
 rintro e w1 ⟨rfl, hb1⟩
 have HB1 := Lib.hid (HB.out.trans (hb1.mono HB.out.size))
 clear hb1 HZ HB HR0
 cases bg with
 | true =>
  go_wp2_with fail
  go_ret
  exact ⟨true, (fun h => by cases h), rfl, HB1.out⟩
 | false =>
 have HBG2 := Lib.hid (HBG.out rfl)
 clear HBG
 go_wp2_with fail
 go_loopw [5, 6] (fun c i wr => ∃ j acc : Nat, j ≤ len ∧ i = .int .i64 j ∧ c = .int .i64 acc ∧ acc ≤ 4000 ∧ Hid (Below w.heap.size w wr)) (fun _ i _ => len - (intOf i).toNat)
 case atStart => exact ⟨0, 0, Nat.zero_le _, rfl, rfl, by omega, HB1.out⟩
 case round =>
  obtain ⟨j, acc, hj, rfl, rfl, hac, hgr⟩ := hrel
  by_cases hlt : j < len
  ·have hx1 : j < ts.length := by rw [HN.out]; exact hlt
   have hln : decide ((j : Int) < (len : Int)) = true := by simp; omega
   obtain ⟨bq, o, l1, s1, rfl, hbs, _, hc0, hc1, hc2, hc3, hc4, htm⟩ := tsP_get HTS.out j hx1
   obtain ⟨⟨xa, xl, xc, rfl⟩, ya, yl, yc, rfl⟩ := tmP_slices htm
   have e0 := (hgr.out.cell (p := ⟨bq, _, none⟩) hbs).trans hc0
   have e1 := (hgr.out.cell (p := ⟨bq, _, none⟩) hbs).trans hc1
   have e2 := (hgr.out.cell (p := ⟨bq, _, none⟩) hbs).trans hc2
   have e3 := (hgr.out.cell (p := ⟨bq, _, none⟩) hbs).trans hc3
   have e4 := (hgr.out.cell (p := ⟨bq, _, none⟩) hbs).trans hc4
   have hnj := nmOkL_mem HNM.out (List.getElem_mem hx1)
   have q1 : (0 : Int) ≤ (j : Int) := by omega
   have q2 : (j : Int) < (len : Int) := by omega
   obtain ⟨q, hq⟩ : ∃ q, min (rn ts[j]) (2500 + 1) = q := ⟨_, rfl⟩
   have hq2 : q ≤ 2501 := by omega
   have hrn := rnodes_up 2500 (by decide) (rn ts[j]) ts[j] _ wr (tn_rn ts[j]) hnj ⟨_, _, rfl, tmP_below hgr.out htm⟩
   dsimp only [tv] at hrn
   rw [hq] at hrn
   have HRN := Lib.hid hrn
   clear hrn hq htm hnj hc0 hc1 hc2 hc3 hc4
   generalize tkOf ts[j] = ka at *
   generalize tnOf ts[j] = na at *
   generalize tmOf ts[j] = ma at *
   by_cases hgt : 4000 < acc + q
   ·have d9 : decide ((4000 : Int) < (acc : Int) + (q : Int)) = true := by simp; omega
    go_wp2_with fail
    refine HRN.out.mono ?_
    rintro e w2 ⟨rfl, hb2⟩
    have HB2 := Lib.hid (hgr.out.trans (hb2.mono hgr.out.size))
    clear hb2 e0 e1 e2 e3 e4
    go_wp2_with fail
    go_ret
    exact ⟨true, (fun h => by cases h), rfl, HB2.out⟩
   ·have d9 : decide ((4000 : Int) < (acc : Int) + (q : Int)) = false := by simp; omega
    have hsm6 : acc + q ≤ 4000 := by omega
    go_wp2_with fail
    refine HRN.out.mono ?_
    rintro e w2 ⟨rfl, hb2⟩
    have HB2 := Lib.hid (hgr.out.trans (hb2.mono hgr.out.size))
    clear hb2 e0 e1 e2 e3 e4
    go_wp2_with fail
    go_roundw
    case rel => exact ⟨j + 1, acc + q, by omega, by go_num, by go_num, hsm6, HB2.out⟩
    case measure => simp [intOf]; omega
  ·obtain rfl : j = len := by omega
   have hln : decide ((j : Int) < (j : Int)) = false := by simp
   go_wp2_with fail
   go_ret
   exact ⟨false, (fun _ => ⟨HBG2.out, by omega⟩), rfl, hgr.out⟩
end Bnd
end Go.Proofs.YteomfakbbcpckaaGreatDoor
