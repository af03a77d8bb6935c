/-
  The law ArenaShares, walked: whatever comes in, it returns true, and nothing that was there turns.
  Conditions: the term lies in memory as told by 'TmV', its names take at most 2^47 bytes each; name.Right's contract; the laws' own check 'alive' returns true.
-/
import Derived.Test.YtbkdecgfiiajnaaDoorJ33
import Derived.Test.YtbkdecgfiiajnaaDoorQArSharesF
import Derived.Test.YtbkdecgfiiajnaaDoorJ36
import Derived.Test.YtbkdecgfiiajnaaDoorJ12
import Derived.Deep.DeepCutAuto
namespace Go.Proofs.YtbkdecgfiiajnaaDoor
open Go.RowKit Go.Maps
open Lvl
open Trm
namespace Arn
theorem wr2 {a b c : Int} (h : a + b = c) (h0 : 0 ≤ c) (h1 : c ≤ 100000) : wrap64 (a + b) = c ∧ IntKind.i64.wrap (a + b) = c := by
  subst h
  exact ⟨IntWalk.wrap64_in _ ⟨by omega, by omega⟩, IntWalk.i64_in _ ⟨by omega, by omega⟩⟩
set_option maxRecDepth 100000 in
set_option maxHeartbeats 4000000 in
theorem arenaShares_any (t : Tm) (N : Int) (v : Value) (w : World) (AL : ∀ w', Below w.heap.size w w' → Calls Tryd.prog 6 #[] w' (Ret w' (.bool true))) (CN : NameC w Nm.rightB) (hv : TmV w t v) (hnm : nmOk t) :
    Calls Tryd.prog 5 #[v, .int .i64 N] w (Ret w (.bool true)) := by
  have HAL := Lib.hid AL
  have HCN := Lib.hid CN
  have HNK := Lib.hid hnm
  clear AL CN hnm
  obtain ⟨b, hb⟩ : ∃ b, rightT Nm.rightB 4 t 1125899906842624 = b := ⟨_, rfl⟩
  have HBB := Lib.hid hb
  clear hb
  obtain ⟨l, s, rfl, ht⟩ := hv
  obtain ⟨⟨la, ll, lc, rfl⟩, sa, sl, sc, rfl⟩ := tmP_slices ht
  have HTT := Lib.hid ht
  obtain ⟨k, hk⟩ : ∃ k, tkOf t = k := ⟨_, rfl⟩
  obtain ⟨n, hn⟩ : ∃ n, tnOf t = n := ⟨_, rfl⟩
  obtain ⟨m, hmm⟩ : ∃ m, tmOf t = m := ⟨_, rfl⟩
  dsimp only [tv]
  rw [hk, hn, hmm]
  have HK := Lib.hid hk
  have HNN := Lib.hid hn
  have HMM := Lib.hid hmm
  clear hk hn hmm ht
  go_enter Tryd.func5, Tryd.ntmps5
  go_wp2_with fail
  have z1 : (w.alloc (.cells #[.int .i64 k, .int .i64 n, .string m, .slice la ll lc, .slice sa sl sc] 25)).heap.size = w.heap.size + 1 := by simp
  have r0 : (w.alloc (.cells #[.int .i64 k, .int .i64 n, .string m, .slice la ll lc, .slice sa sl sc] 25)).heap[w.heap.size]? = some (Obj.cells #[.int .i64 k, .int .i64 n, .string m, .slice la ll lc, .slice sa sl sc] 25 (0, 0)) := by
    have := heap_alloc_new w (.cells #[.int .i64 k, .int .i64 n, .string m, .slice la ll lc, .slice sa sl sc] 25)
    exact this
  have HB := Lib.hid (below_lit w (.cells #[.int .i64 k, .int .i64 n, .string m, .slice la ll lc, .slice sa sl sc] 25))
  have HRW0 := Lib.hid (r0)
  clear r0
  generalize (w.alloc (.cells #[.int .i64 k, .int .i64 n, .string m, .slice la ll lc, .slice sa sl sc] 25)) = W at *
  have HZ := Lib.hid z1
  clear z1
  have hk : Hid (∀ W', Below W.heap.size W W' → W'.cell? ⟨w.heap.size, 0, none⟩ = some (.int .i64 k) ∧ W'.cell? ⟨w.heap.size, 1, none⟩ = some (.int .i64 n) ∧ W'.cell? ⟨w.heap.size, 2, none⟩ = some (.string m) ∧ W'.cell? ⟨w.heap.size, 3, none⟩ = some (.slice la ll lc) ∧ W'.cell? ⟨w.heap.size, 4, none⟩ = some (.slice sa sl sc)) := fun W' h => five_cells ((h.block w.heap.size (by rw [HZ.out]; omega)).trans HRW0.out)
  have HTV : Hid (TmV W t (.agg #[.int .i64 k, .int .i64 n, .string m, .slice la ll lc, .slice sa sl sc])) := by
    have : TmV W t (.agg #[.int .i64 k, .int .i64 n, .string m, .slice la ll lc, .slice sa sl sc]) := ⟨_, _, by rw [← HK.out, ← HNN.out, ← HMM.out], tmP_below HB.out HTT.out⟩
    exact this
  have hzw := HZ.out
  refine (HAL.out W HB.out).mono ?_
  rintro e v1 ⟨rfl, hb⟩
  have HC1 := Lib.hid hb
  clear hb
  obtain ⟨a0, a1, a2, a3, a4⟩ := hk.out v1 HC1.out
  go_wp2_with fail
  have hbr := below_lit v1 (.cells #[.int .i64 k, .int .i64 n, .string m, .slice la ll lc, .slice sa sl sc] 25)
  have hrr := heap_alloc_new v1 (.cells #[.int .i64 k, .int .i64 n, .string m, .slice la ll lc, .slice sa sl sc] 25)
  have hzr : (v1.alloc (.cells #[.int .i64 k, .int .i64 n, .string m, .slice la ll lc, .slice sa sl sc] 25)).heap.size = v1.heap.size + 1 := by simp
  have hts1 : TsP (v1.alloc (.cells #[.int .i64 k, .int .i64 n, .string m, .slice la ll lc, .slice sa sl sc] 25)) (fun _ => True) (some ⟨v1.heap.size, 0, none⟩) 0 [t] := tsP_row (ts := [t]) (ss := [(.slice la ll lc, .slice sa sl sc)]) rfl (by
    have := hrr
    rw [← HK.out, ← HNN.out, ← HMM.out] at this ⊢
    exact this) trivial (fun i h1 h2 => by
    obtain rfl : i = 0 := by simp at h1; omega
    exact tmP_below (HB.out.trans ((HC1.out.trans (hbr.mono HC1.out.size)).mono HB.out.size)) HTT.out)
  refine (great1_is t v1.heap.size _ hts1 HNK.out).mono ?_
  rintro e v2 ⟨rfl, hb⟩
  have HC2 := Lib.hid (HC1.out.trans ((hbr.trans (hb.mono hbr.size)).mono HC1.out.size))
  clear hb hbr hrr hzr hts1 a0 a1 a2 a3 a4
  obtain ⟨a0, a1, a2, a3, a4⟩ := hk.out v2 HC2.out
  go_wp2_with fail
  refine (refAny_free t _ 4 v2 (HTV.out.below HC2.out) HNK.out (by decide) (by decide) b HBB.out).mono ?_
  rintro e v3 ⟨rfl, hb⟩
  have HC3 := Lib.hid (HC2.out.trans (hb.mono HC2.out.size))
  clear hb a0 a1 a2 a3 a4
  cases b with
  | false =>
    go_wp2_with fail
    go_ret
    exact ⟨rfl, HB.out.trans (HC3.out.mono HB.out.size)⟩
  | true =>
    by_cases hN0 : N < 0
    · have hd1 : decide (N < 0) = true := by simp; omega
      go_wp2_with fail
      go_ret
      exact ⟨rfl, HB.out.trans (HC3.out.mono HB.out.size)⟩
    by_cases hN1 : 20 < N
    · have hd1 : decide (N < 0) = false := by simp; omega
      have hd2 : decide (20 < N) = true := by simp; omega
      go_wp2_with fail
      go_ret
      exact ⟨rfl, HB.out.trans (HC3.out.mono HB.out.size)⟩
    have hd1 : decide (N < 0) = false := by simp; omega
    have hd2 : decide (20 < N) = false := by simp; omega
    obtain ⟨Q, rfl⟩ : ∃ Q : Nat, N = Q := ⟨N.toNat, by omega⟩
    have hQ : Q ≤ 20 := by omega
    have HN2 := Lib.hid (rightT_ok HBB.out).2.1
    obtain ⟨ns, num, hq, h0, hsh, hnp, hnl⟩ := shr_start (right_okH HBB.out HNK.out) HN2.out
    have HQ := Lib.hid hq
    have HSH := Lib.hid hsh
    clear hq hsh
    go_wp2_with fail
    refine (new_is v3 1048576 (by decide) (by decide)).mono ?_
    rintro e v4 ⟨p, bm, rfl, ha4, hb4⟩
    have HC34 := Lib.hid hb4
    have HC4 := Lib.hid (HC3.out.trans (hb4.mono HC3.out.size))
    have HA4 := Lib.hid ha4
    have hpb := ha4.pb
    have hmb := ha4.mb
    have hs3 := HC3.out.size
    clear ha4 hb4
    obtain ⟨a0, a1, a2, a3, a4⟩ := hk.out v4 HC4.out
    go_wp2_with fail
    have ht4 : TmP v4 (fun b => b ≠ w.heap.size ∧ b < w.heap.size) t (.slice la ll lc) (.slice sa sl sc) := tmP_move (w := w) (fun b hlt _ => ⟨⟨by omega, hlt⟩, ((HB.out.trans (HC4.out.mono HB.out.size)).block b hlt)⟩) (HB.out.trans (HC4.out.mono HB.out.size)).size _ _ _ HTT.out
    have HT4 := Lib.hid ht4
    have hh := holds_is Nm.rightB t (.slice la ll lc) (.slice sa sl sc) v4 v3.heap.size p bm 1048576 (.slice none 0 0) [] HA4.out (by have := HA4.out.plt; omega) (Nat.le_trans HN2.out (by decide)) HNK.out (HCN.out.below (HB.out.trans (HC4.out.mono HB.out.size))) (tmP_weak (fun b hb => ⟨by omega, by omega, fun e => by cases e⟩) ht4) true HBB.out
    unfold HoldsRet HoldRet at hh
    simp only [HQ.out, if_true, if_neg h0] at hh
    dsimp only [tv] at hh
    rw [HK.out, HNN.out, HMM.out] at hh
    refine hh.mono ?_
    rintro e v5 ⟨V5, rfl, ha5, hk5⟩
    have HA5 := Lib.hid ha5
    have HC5 := Lib.hid (HC3.out.trans ((HC34.out.trans (hk5.below HA4.out (Nat.le_refl v3.heap.size))).mono HC3.out.size))
    have HT5 := Lib.hid (tmP_kp hk5 (fun b (hb : b ≠ w.heap.size ∧ b < w.heap.size) => ⟨by omega, by omega, fun e => by cases e⟩) ht4)
    have HV5 := Lib.hid (fun g hg => (ha5.vlt g hg).1)
    clear ha5 hk5 hh ht4 HT4 a0 a1 a2 a3 a4
    go_wp2_with fail
    refine (count_is v5 v3.heap.size p bm 1048576 V5 ns HA5.out num HSH.out.last).mono ?_
    rintro e v6 ⟨rfl, hb6⟩
    have HC6 := Lib.hid (HC5.out.trans (hb6.mono HC5.out.size))
    have HA6 := Lib.hid (HA5.out.below hb6)
    have HT6 := Lib.hid (tmP_below hb6 HT5.out)
    have HR6 := Lib.hid ((HC6.out.block w.heap.size (by omega)).trans HRW0.out)
    have HB6 := Lib.hid (HB.out.trans (HC6.out.mono HB.out.size))
    clear hb6 HRW0
    go_wp2_with fail
    go_loopw [7, 9, 10, 11, 12] (fun d kk i _ _ wr => ∃ (j id : Nat) (tt : Tm) (ns : List Nd) (V : Value) (ko no : Int) (mo : ByteArray) (oa : Option Addr) (ol oc : Nat) (pa : Option Addr) (pl pc : Nat), j ≤ Q ∧ id = num + j ∧ d = .int .i64 id ∧ kk = .int .i64 j ∧ i = .int .i64 j ∧ Hid (tkOf tt = ko ∧ tnOf tt = no ∧ tmOf tt = mo) ∧ Hid (rightT Nm.rightB 4 tt 1125899906842624 = true) ∧ Hid (nmOk tt) ∧ Hid (Shr tt ns id) ∧ Hid (wr.heap[w.heap.size]? = some (Obj.cells #[.int .i64 ko, .int .i64 no, .string mo, .slice oa ol oc, .slice pa pl pc] 25 (0, 0))) ∧ Hid (TmP wr (fun b => b ≠ w.heap.size ∧ b ≠ p ∧ b ≠ bm ∧ (V).ownBlock ≠ some b) tt (.slice oa ol oc) (.slice pa pl pc)) ∧ Hid (ArM wr v3.heap.size p bm 1048576 V ns) ∧ Hid (Below w.heap.size w wr)) (fun _ _ i _ _ _ => Q - (intOf i).toNat)
    case atStart => exact ⟨0, num, t, ns, V5, k, n, m, la, ll, lc, sa, sl, sc, Nat.zero_le _, rfl, rfl, rfl, rfl, ⟨HK.out, HNN.out, HMM.out⟩, HBB.out, HNK.out, HSH.out, HR6.out, tmP_weak (fun b hb => ⟨hb.1, by omega, by omega, fun e => by have := HV5.out b e; omega⟩) HT6.out, HA6.out, HB6.out⟩
    case round =>
      obtain ⟨j, id, tt, nsj, V, ko, no, mo, oa, ol, oc, pa, pl, pc, hj, hid, rfl, rfl, rfl, hkk, hrt, hnmt, HSHJ, hro, hto, har, hbw⟩ := hrel
      clear HSH HR6 HT6 HA6 HA5 HC6 HB6 HT5 HA4
      by_cases hlt : j < Q
      · have hln : decide ((j : Int) < (Q : Int)) = true := by simp; omega
        have hbl : w.heap.size < wr.heap.size := (Array.getElem?_eq_some_iff.1 hro.out).1
        obtain ⟨a0, a1, a2, a3, a4⟩ := five_cells hro.out
        go_wp2_with fail
        have hh := both_is tt (.slice oa ol oc) (.slice pa pl pc) _ wr hto.out
        dsimp only [tv] at hh
        rw [hkk.out.1, hkk.out.2.1, hkk.out.2.2] at hh
        refine hh.mono ?_
        clear hh a0 a1 a2 a3 a4
        rintro e w7 ⟨l7, s7, rfl, ht7, hb7⟩
        obtain ⟨⟨xa, xl, xc, rfl⟩, ya, yl, yc, rfl⟩ := tmP_slices ht7
        dsimp only [tv, tboth, tkOf, tnOf, tmOf]
        have hro7 := (hb7.block w.heap.size hbl).trans hro.out
        have HT7 := Lib.hid ht7
        have HA7 := Lib.hid (har.out.below hb7)
        have HB7 := Lib.hid (hbw.out.trans (hb7.mono hbw.out.size))
        have hs7 := hb7.size
        have HLT := Lib.hid (fun b (hb : b = p ∨ b = bm ∨ V.ownBlock = some b) => (show b < wr.heap.size ∧ w.heap.size < b from by
          have h1 := har.out.plt
          have h2 := har.out.mlt
          rcases hb with rfl | rfl | hb
          · exact ⟨h1, by omega⟩
          · exact ⟨h2, by omega⟩
          · have h3 := har.out.vlt b hb
            exact ⟨h3.2, by omega⟩))
        clear ht7 hb7
        obtain ⟨p0, p1, p2, p3, p4⟩ := five_cells hro7
        have f0 := frozen0 (p := 0) hro7
        have f1 := frozen0 (p := 1) hro7
        have f2 := frozen0 (p := 2) hro7
        have f3 := frozen0 (p := 3) hro7
        have f4 := frozen0 (p := 4) hro7
        have hro8 := set5_row (y0 := .int .i64 4) (y1 := .int .i64 0) (y2 := .string ⟨#[]⟩) (y3 := .slice xa xl xc) (y4 := .slice ya yl yc) hro7
        have HT8 := Lib.hid (tmP_move (w := w7) (w' := (((((w7.setCell ⟨w.heap.size, 0, none⟩ (.int .i64 4)).setCell ⟨w.heap.size, 1, none⟩ (.int .i64 0)).setCell ⟨w.heap.size, 2, none⟩ (.string ⟨#[]⟩)).setCell ⟨w.heap.size, 3, none⟩ (.slice xa xl xc)).setCell ⟨w.heap.size, 4, none⟩ (.slice ya yl yc))) (Q := (fun b => b ≠ w.heap.size ∧ b ≠ p ∧ b ≠ bm ∧ (V).ownBlock ≠ some b)) (fun b _ hp => by
          have hq : b ≠ w.heap.size ∧ b ≠ p ∧ b ≠ bm ∧ V.ownBlock ≠ some b := by
            rcases hp with hp | hp
            · exact hp
            · refine ⟨by omega, fun e => ?_, fun e => ?_, fun e => ?_⟩
              · have := (HLT.out b (.inl e)).1; omega
              · have := (HLT.out b (.inr (.inl e))).1; omega
              · have := (HLT.out b (.inr (.inr e))).1; omega
          exact ⟨hq, set5_far' w7 w.heap.size 0 b _ _ _ _ _ hq.1⟩) (Nat.le_of_eq (set5_sz w7 w.heap.size 0 _ _ _ _ _).symm) _ _ _ HT7.out)
        have HA8 := Lib.hid (HA7.out.far (w' := (((((w7.setCell ⟨w.heap.size, 0, none⟩ (.int .i64 4)).setCell ⟨w.heap.size, 1, none⟩ (.int .i64 0)).setCell ⟨w.heap.size, 2, none⟩ (.string ⟨#[]⟩)).setCell ⟨w.heap.size, 3, none⟩ (.slice xa xl xc)).setCell ⟨w.heap.size, 4, none⟩ (.slice ya yl yc))) (fun b hb => set5_far' w7 w.heap.size 0 b _ _ _ _ _ (by omega)))
        have HB8 := Lib.hid (set5_below HB7.out w.heap.size 0 (.int .i64 4) (.int .i64 0) (.string ⟨#[]⟩) (.slice xa xl xc) (.slice ya yl yc) (Nat.le_refl _))
        have hs8 : (((((w7.setCell ⟨w.heap.size, 0, none⟩ (.int .i64 4)).setCell ⟨w.heap.size, 1, none⟩ (.int .i64 0)).setCell ⟨w.heap.size, 2, none⟩ (.string ⟨#[]⟩)).setCell ⟨w.heap.size, 3, none⟩ (.slice xa xl xc)).setCell ⟨w.heap.size, 4, none⟩ (.slice ya yl yc)).heap.size = w7.heap.size := set5_sz w7 w.heap.size 0 _ _ _ _ _
        have HR8 := Lib.hid hro8
        obtain ⟨b0, b1, b2, b3, b4⟩ := five_cells hro8
        clear hro8
        go_wp2_with fail
        clear p0 p1 p2 p3 p4 f0 f1 f2 f3 f4 hro7 HA7 HT7
        generalize (((((w7.setCell ⟨w.heap.size, 0, none⟩ (.int .i64 4)).setCell ⟨w.heap.size, 1, none⟩ (.int .i64 0)).setCell ⟨w.heap.size, 2, none⟩ (.string ⟨#[]⟩)).setCell ⟨w.heap.size, 3, none⟩ (.slice xa xl xc)).setCell ⟨w.heap.size, 4, none⟩ (.slice ya yl yc)) = w8 at *
        have HTV8 : Hid (TmV w8 (tboth tt) (.agg #[.int .i64 4, .int .i64 0, .string ⟨#[]⟩, .slice xa xl xc, .slice ya yl yc])) := by
          have : TmV w8 (tboth tt) (.agg #[.int .i64 4, .int .i64 0, .string ⟨#[]⟩, .slice xa xl xc, .slice ya yl yc]) := ⟨_, _, rfl, tmP_weak (fun _ _ => trivial) HT8.out⟩
          exact this
        obtain ⟨R, hR⟩ : ∃ R, min (tnodes (tboth tt)) (2000 + 1) = R := ⟨_, rfl⟩
        refine (refNodes_is (tboth tt) _ 2000 _ HTV8.out (by decide) R hR).mono ?_
        rintro e w9 ⟨rfl, hb9⟩
        have HB9 := Lib.hid (HB8.out.trans (hb9.mono HB8.out.size))
        have HA9 := Lib.hid (HA8.out.below hb9)
        have HT9 := Lib.hid (tmP_below hb9 HT8.out)
        have HR9 := Lib.hid ((hb9.block w.heap.size (by omega)).trans HR8.out)
        have hs9 := hb9.size
        clear hb9 b0 b1 b2 b3 b4
        by_cases hR2 : 2000 < R
        · have hd9 : decide (2000 < (R : Int)) = true := by simp; omega
          have hd9' : decide (2000 < R) = true := by simp; omega
          go_wp2_with fail
          refine (count_is w9 v3.heap.size p bm 1048576 V nsj HA9.out id HSHJ.out.last).mono ?_
          rintro e u9 ⟨rfl, hb9⟩
          obtain ⟨hwx, hwx'⟩ := wr2 (a := (num : Int)) (b := (j : Int)) (c := (id : Int)) (by omega) (by omega) (by omega)
          have hee : ((id : Int) == (id : Int)) = true := by simp
          go_wp2_with fail
          go_ret
          exact ⟨rfl, HB9.out.trans (hb9.mono HB9.out.size)⟩
        · have hd9 : decide (2000 < (R : Int)) = false := by simp; omega
          have hd9' : decide (2000 < R) = false := by simp; omega
          have hrb : rightT Nm.rightB 4 (tboth tt) 1125899906842624 = true := right_both hrt.out (by omega)
          have HRB := Lib.hid hrb
          have hm2 : tnodes (tboth tt) ≤ 2000 := by omega
          obtain ⟨ns', hq', hshn, hag⟩ := shr_next HSHJ.out (by omega)
          obtain ⟨M, hM⟩ : ∃ M, id + 1 = M := ⟨_, rfl⟩
          obtain ⟨J, hJ⟩ : ∃ J, j + 1 = J := ⟨_, rfl⟩
          rw [hM] at hq' hshn hag
          have HQ9 := Lib.hid hq'
          have HSN := Lib.hid hshn
          have HAG := Lib.hid hag
          clear hq' hshn hag hrb
          obtain ⟨a0, a1, a2, a3, a4⟩ := five_cells HR9.out
          have hM0 : M ≠ 0 := by omega
          obtain ⟨⟨hwj, hwj'⟩, hwm, hwm'⟩ := And.intro (wr2 (a := (j : Int)) (b := 1) (c := (J : Int)) (by omega) (by omega) (by omega)) (wr2 (a := (num : Int)) (b := (J : Int)) (c := (M : Int)) (by omega) (by omega) (by omega))
          go_wp2_with fail
          have hh := holds_is Nm.rightB (tboth tt) (.slice xa xl xc) (.slice ya yl yc) w9 v3.heap.size p bm 1048576 V nsj HA9.out (Nat.le_trans HA9.out.pb (Nat.le_of_lt HA9.out.plt)) (Nat.le_trans hm2 (by decide)) (nmB hnmt.out) (HCN.out.below HB9.out) (tmP_weak (fun b hb => hb.2) HT9.out) true HRB.out
          unfold HoldsRet HoldRet at hh
          simp only [HQ9.out, if_true, if_neg hM0] at hh
          dsimp only [tv, tboth, tkOf, tnOf, tmOf] at hh
          refine hh.mono ?_
          clear hh a0 a1 a2 a3 a4
          rintro e w10 ⟨V11, rfl, ha10, hk10⟩
          have HA11 := Lib.hid ha10
          have hkb := hk10.below HA9.out (Nat.le_refl v3.heap.size)
          have HR11 := Lib.hid ((hkb.block w.heap.size (by clear hwj hwj' hwm hwm'; omega)).trans HR9.out)
          have HB11 := Lib.hid (HB9.out.trans (hkb.mono (by clear hwj hwj' hwm hwm'; omega)))
          have HT11 := Lib.hid (tmP_move (w := w9) (w' := w10) (Q := (fun b => b ≠ w.heap.size ∧ b ≠ p ∧ b ≠ bm ∧ (V11).ownBlock ≠ some b)) (fun b hlt hp => ⟨⟨hp.1, hp.2.1, hp.2.2.1, fun e => (hk10.moved b e).elim hp.2.2.2 (fun g => by clear hwj hwj' hwm hwm'; omega)⟩, hk10.block b hlt hp.2.1 hp.2.2.1 hp.2.2.2⟩) hk10.size _ _ _ HT9.out)
          clear ha10 hk10 hkb
          have n1 : ((M : Int) == (M : Int)) = true := by simp
          have n2 : ((id : Int) == (id : Int)) = true := by simp
          go_wp2_with fail
          refine (arg_is w10 v3.heap.size p bm 1048576 V11 ns' HA11.out (M : Nat) 0 id HAG.out.1).mono ?_
          rintro e w11 ⟨rfl, hb⟩
          have HZ1 := Lib.hid hb
          clear hb
          go_wp2_with fail
          refine (arg_is w11 v3.heap.size p bm 1048576 V11 ns' (HA11.out.below HZ1.out) (M : Nat) 1 id HAG.out.2).mono ?_
          rintro e w12 ⟨rfl, hb⟩
          have hz2 := Lib.hid (HZ1.out.trans (hb.mono HZ1.out.size))
          clear hb
          have HB12 := Lib.hid (HB11.out.trans (hz2.out.mono HB11.out.size))
          have HR12 := Lib.hid ((hz2.out.block w.heap.size ((Array.getElem?_eq_some_iff.1 HR11.out).1)).trans HR11.out)
          have HT12 := Lib.hid (tmP_below hz2.out HT11.out)
          have HA12 := Lib.hid (HA11.out.below hz2.out)
          go_wp2_with fail
          go_roundw
          case rel =>
            clear hwj hwj' hwm hwm'
            exact ⟨J, M, tboth tt, ns', V11, 4, 0, ⟨#[]⟩, xa, xl, xc, ya, yl, yc, by omega, by omega, rfl, rfl, rfl, ⟨rfl, rfl, rfl⟩, HRB.out, nmB hnmt.out, HSN.out, HR12.out, HT12.out, HA12.out, HB12.out⟩
          case measure =>
            clear hwj hwj' hwm hwm'
            simp [intOf]
            omega
      · obtain rfl : j = Q := by omega
        have hln : decide ((j : Int) < (j : Int)) = false := by simp
        go_wp2_with fail
        refine (count_is wr v3.heap.size p bm 1048576 V nsj har.out id HSHJ.out.last).mono ?_
        rintro e u9 ⟨rfl, hb9⟩
        obtain ⟨hwx, hwx'⟩ := wr2 (a := (num : Int)) (b := (j : Int)) (c := (id : Int)) (by omega) (by omega) (by omega)
        have hee : ((id : Int) == (id : Int)) = true := by simp
        go_wp2_with fail
        go_ret
        exact ⟨rfl, hbw.out.trans (hb9.mono hbw.out.size)⟩
end Arn
end Go.Proofs.YtbkdecgfiiajnaaDoor
