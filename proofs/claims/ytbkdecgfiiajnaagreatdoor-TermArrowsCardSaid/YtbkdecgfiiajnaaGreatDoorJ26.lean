import Derived.Test.YtbkdecgfiiajnaaGreatDoorJ24
import Derived.Test.YtbkdecgfiiajnaaGreatDoorJ16
import Derived.Test.YtbkdecgfiiajnaaGreatDoorJ25
/-
  The contract of the program's function Spine: a term's head, and what it is applied to.
  Conditions: the term lies in memory as told by 'TmV'; it has at most 100000 nodes, and its levels at most 1000 each.
-/
namespace Go.Proofs.YtbkdecgfiiajnaaGreatDoor
open Go.RowKit
open Lvl
namespace Trm
theorem spine_step (n : Int) (m : ByteArray) (ls : List Lv) (g a : Tm) : spine (.mk 4 n m ls [g, a]) = ((spine g).1, (spine g).2 ++ [a]) := by rw [spine, if_pos rfl]
theorem spine_stop {k n : Int} {m : ByteArray} {ls : List Lv} {ts : List Tm} (h : ¬ (k = 4 ∧ ts.length = 2)) : spine (.mk k n m ls ts) = (.mk k n m ls ts, []) := by
  match ts, h with
  | [], _ => rw [spine]; intro _ _ _ _ _ _ e; cases e
  | [_], _ => rw [spine]; intro _ _ _ _ _ _ e; cases e
  | [g, a], h => rw [spine, if_neg (fun e => h ⟨e, rfl⟩)]
  | _ :: _ :: _ :: _, _ => rw [spine]; intro _ _ _ _ _ _ e; cases e
def lenV : Value → Nat | .slice _ l _ => l | _ => 0
/-- A row of one's own, above 'SZ', of terms between 'lo' and 'hi'. -/
def SpO (w : World) (lo hi SZ : Nat) (V : Value) (ts : List Tm) : Prop := ∃ ss : List (Value × Value), ts.length = ss.length ∧ w.ownsRow SZ 25 5 V ts.length (cells5 ts ss) ∧ ∀ i (h1 : i < ts.length) (h2 : i < ss.length), TmP w (fun b => lo ≤ b ∧ b < hi) ts[i] ss[i].1 ss[i].2
theorem spO_len {w : World} {lo hi SZ : Nat} {V : Value} {ts : List Tm} (h : SpO w lo hi SZ V ts) : lenV V = ts.length := by
  obtain ⟨ss, _, ho, _⟩ := h
  rcases ho.2 with ⟨rfl, h0⟩ | ⟨g, cap, cur, rfl, _⟩
  · exact h0.symm
  · rfl
theorem spO_own {w : World} {lo hi SZ : Nat} {V : Value} {ts : List Tm} (h : SpO w lo hi SZ V ts) (h1 : lo ≤ SZ) (h2 : hi ≤ SZ) : OwnT w lo V ts := by
  obtain ⟨ss, hl, ho, hk⟩ := h
  have hlt := own_lt ho
  refine ⟨ss, hl, ⟨ho.1, ?_⟩, fun i a b => tmP_weak (fun b hb => ⟨hb.1, fun e => by have := (hlt b e).1; omega⟩) (hk i a b)⟩
  rcases ho.2 with h3 | ⟨g, cap, cur, rfl, hbg, hr⟩
  · exact .inl h3
  · exact .inr ⟨g, cap, cur, rfl, by omega, hr⟩
theorem spO_at {w : World} {lo hi SZ : Nat} {V : Value} {ts : List Tm} (h : SpO w lo hi SZ V ts) : ∀ b, V.ownBlock = some b → SZ ≤ b := by
  obtain ⟨ss, _, ho, _⟩ := h
  exact fun b e => (own_lt ho b e).1
/-- Blocks from 'SZ' on, and the head's box, are nobody's. -/
theorem spO_move {w w' : World} {lo hi SZ : Nat} {V : Value} {ts : List Tm} (h : SpO w lo hi SZ V ts) (hb : ∀ b, b < w.heap.size → (b < hi ∨ SZ ≤ b) → w'.heap[b]? = w.heap[b]?) (hs : w.heap.size ≤ w'.heap.size) : SpO w' lo hi SZ V ts := by
  obtain ⟨ss, hl, ho, hk⟩ := h
  refine ⟨ss, hl, ⟨ho.1, ?_⟩, fun i h1 h2 => tmP_move (fun b hlt hp => ⟨hp, hb b hlt (.inl hp.2)⟩) hs _ _ _ (hk i h1 h2)⟩
  rcases ho.2 with h1 | ⟨g, cap, cur, rfl, hbg, hg, h4⟩
  · exact .inl h1
  · exact .inr ⟨g, cap, cur, rfl, hbg, (hb g (own_lt ho g rfl).2 (.inr hbg)).trans hg, h4⟩
theorem grown_more {A C D : World} {r s : Option Nat} (h : A.grownBy C r) (k : C.grownBy D s) (hs : ∀ g, s = some g → A.heap.size ≤ g) : A.grownBy D r := by
  obtain ⟨h1, h2, h3, h4, h5⟩ := h
  obtain ⟨k1, k2, k3, k4, k5⟩ := k
  exact ⟨k1.trans h1, k2.trans h2, k3.trans h3, Nat.le_trans h4 k4, fun b hb hr => (k5 b (Nat.lt_of_lt_of_le hb h4) (fun e => by have := hs b e.symm; omega)).trans (h5 b hb hr)⟩
theorem rev_any (base : Nat) (V : Value) (ts : List Tm) (w : World) (h : OwnT w base V ts) (hm : ts.length ≤ 140737488355328) :
    Calls Tryz.prog 44 #[V] w (fun e w' => e = .returned (.tuple #[]) ∧ ∃ A len cap, V = .slice A len cap ∧ ts.length = len ∧ len ≤ cap ∧ (A = none → cap = 0) ∧ TsP w' (fun b => base ≤ b) A 0 ts.reverse ∧ w.grownBy w' V.ownBlock) := by
  obtain ⟨A, len, cap, rfl, hl, hc, hn, _⟩ := ownT_tsP h
  have h2 := h
  obtain ⟨ss, hls, ho, hk⟩ := h
  rcases ho.2 with ⟨e, h0⟩ | ⟨g, cap', cur, e, hbg, hg, hn', hm', hs', ht'⟩
  · cases e
    obtain rfl : ts = [] := List.length_eq_zero_iff.1 h0
    refine (rev_none none 0 w).mono ?_
    rintro e w' ⟨rfl, rfl⟩
    exact ⟨rfl, none, 0, 0, rfl, rfl, Nat.le_refl _, fun _ => rfl, by rw [List.reverse_nil, TsP]; trivial, ⟨rfl, rfl, rfl, Nat.le_refl _, fun _ _ _ => rfl⟩⟩
  · cases e
    refine (rev_is base g ts.length cap ts w h2 rfl hm).mono ?_
    rintro e w' ⟨rfl, h3, h4, _⟩
    exact ⟨rfl, _, _, _, rfl, rfl, hc, (fun e => by cases e), h3, h4⟩
def SpRet (w : World) (t : Tm) (e : Ending) (w' : World) : Prop :=
  ∃ l s A len cap, e = .returned (.tuple #[tv (spine t).1 l s, .slice A len cap]) ∧ (spine t).2.length = len ∧ len ≤ cap ∧ (A = none → cap = 0) ∧ TmP w' (fun b => w.heap.size ≤ b) (spine t).1 l s ∧ TsP w' (fun b => w.heap.size ≤ b) A 0 (spine t).2 ∧ Below w.heap.size w w'

set_option maxRecDepth 100000 in
set_option maxHeartbeats 4000000 in
theorem spine_is (t : Tm) (v : Value) (w : World) (hv : TmV w t v) (hm : tnodes t ≤ 100000) (hl : lvOk t) :
    Calls Tryz.prog 18 #[v] w (SpRet w t) := by
  obtain ⟨i0, hi0, hz0, hz1, hz2⟩ := info_parts infoTm
  have HLV := Lib.hid hl
  clear hl
  obtain ⟨l, s, rfl, ht⟩ := hv
  obtain ⟨⟨la, ll, lc, rfl⟩, sa, sl, sc, rfl⟩ := tmP_slices ht
  have HTT := Lib.hid ht
  obtain ⟨k, hk⟩ : ∃ k, tkOf t = k := ⟨_, rfl⟩
  obtain ⟨n, hn⟩ : ∃ n, tnOf t = n := ⟨_, rfl⟩
  obtain ⟨m, hmm⟩ : ∃ m, tmOf t = m := ⟨_, rfl⟩
  dsimp only [tv]
  rw [hk, hn, hmm]
  have HK := Lib.hid hk
  have HNN := Lib.hid hn
  have HMM := Lib.hid hmm
  have HM := Lib.hid hm
  clear hk hn hmm ht hm
  go_enter Tryz.func18, Tryz.ntmps18
  go_wp2_with fail
  have z1 : (w.alloc (.cells #[.int .i64 k, .int .i64 n, .string m, .slice la ll lc, .slice sa sl sc] 25)).heap.size = w.heap.size + 1 := by simp
  have z2 : ((w.alloc (.cells #[.int .i64 k, .int .i64 n, .string m, .slice la ll lc, .slice sa sl sc] 25)).alloc (.cells #[.int .i64 0, .int .i64 0, .string ⟨#[]⟩, .slice none 0 0, .slice none 0 0] 25)).heap.size = w.heap.size + 1 + 1 := by simp
  have r0 : (w.alloc (.cells #[.int .i64 k, .int .i64 n, .string m, .slice la ll lc, .slice sa sl sc] 25)).heap[w.heap.size]? = some (Obj.cells #[.int .i64 k, .int .i64 n, .string m, .slice la ll lc, .slice sa sl sc] 25 (0, 0)) := by
    have := heap_alloc_new w (.cells #[.int .i64 k, .int .i64 n, .string m, .slice la ll lc, .slice sa sl sc] 25)
    exact this
  have r1 : ((w.alloc (.cells #[.int .i64 k, .int .i64 n, .string m, .slice la ll lc, .slice sa sl sc] 25)).alloc (.cells #[.int .i64 0, .int .i64 0, .string ⟨#[]⟩, .slice none 0 0, .slice none 0 0] 25)).heap[w.heap.size + 1]? = some (Obj.cells #[.int .i64 0, .int .i64 0, .string ⟨#[]⟩, .slice none 0 0, .slice none 0 0] 25 (0, 0)) := by
    have := heap_alloc_new (w.alloc (.cells #[.int .i64 k, .int .i64 n, .string m, .slice la ll lc, .slice sa sl sc] 25)) (.cells #[.int .i64 0, .int .i64 0, .string ⟨#[]⟩, .slice none 0 0, .slice none 0 0] 25)
    rwa [z1] at this
  have HB := Lib.hid ((below_lit w (.cells #[.int .i64 k, .int .i64 n, .string m, .slice la ll lc, .slice sa sl sc] 25)).trans ((below_lit (w.alloc (.cells #[.int .i64 k, .int .i64 n, .string m, .slice la ll lc, .slice sa sl sc] 25)) (.cells #[.int .i64 0, .int .i64 0, .string ⟨#[]⟩, .slice none 0 0, .slice none 0 0] 25)).mono (below_lit w (.cells #[.int .i64 k, .int .i64 n, .string m, .slice la ll lc, .slice sa sl sc] 25)).size))
  have HR0 := Lib.hid ((heap_alloc_old (w.alloc (.cells #[.int .i64 k, .int .i64 n, .string m, .slice la ll lc, .slice sa sl sc] 25)) (.cells #[.int .i64 0, .int .i64 0, .string ⟨#[]⟩, .slice none 0 0, .slice none 0 0] 25) (by rw [z1]; omega)).trans (r0))
  have HR1 := Lib.hid (r1)
  clear r0 r1
  generalize ((w.alloc (.cells #[.int .i64 k, .int .i64 n, .string m, .slice la ll lc, .slice sa sl sc] 25)).alloc (.cells #[.int .i64 0, .int .i64 0, .string ⟨#[]⟩, .slice none 0 0, .slice none 0 0] 25)) = W2 at *
  have HZ := Lib.hid z2
  clear z1 z2
  have hrm := own_is t _ W2 ⟨_, _, rfl, tmP_below HB.out HTT.out⟩ HM.out HLV.out
  dsimp only [tv] at hrm
  rw [HK.out, HNN.out, HMM.out] at hrm
  refine hrm.mono ?_
  clear hrm
  rintro e w3 ⟨l9, s9, rfl, ht9, hb3⟩
  obtain ⟨⟨oa, ol, oc, rfl⟩, pa, pl, pc, rfl⟩ := tmP_slices ht9
  dsimp only [tv]
  rw [HK.out, HNN.out, HMM.out]
  have hsz2 := HZ.out
  have hs3 : w.heap.size + 1 + 1 ≤ w3.heap.size := by rw [← hsz2]; exact hb3.size
  have hbx := below_lit w3 (.cells #[.int .i64 k, .int .i64 n, .string m, .slice oa ol oc, .slice pa pl pc] 25)
  have HB3 := Lib.hid (HB.out.trans ((hb3.trans (hbx.mono hb3.size)).mono HB.out.size))
  have HRO := Lib.hid (heap_alloc_new w3 (.cells #[.int .i64 k, .int .i64 n, .string m, .slice oa ol oc, .slice pa pl pc] 25))
  have HR13 := Lib.hid ((hbx.block (w.heap.size + 1) (by omega)).trans ((hb3.block (w.heap.size + 1) (by omega)).trans HR1.out))
  have HTO := Lib.hid (tmP_move (w := w3) (w' := w3.alloc (.cells #[.int .i64 k, .int .i64 n, .string m, .slice oa ol oc, .slice pa pl pc] 25)) (Q := fun b => w.heap.size + 1 + 1 ≤ b ∧ b < w3.heap.size) (fun b hlt hp => ⟨⟨by omega, hlt⟩, hbx.block b hlt⟩) hbx.size _ _ _ ht9)
  have hsz3 : (w3.alloc (.cells #[.int .i64 k, .int .i64 n, .string m, .slice oa ol oc, .slice pa pl pc] 25)).heap.size = w3.heap.size + 1 := by simp
  clear ht9 hb3 hbx HR0 HR1 HB HZ hsz2
  go_wp2_with fail
  generalize w3.alloc (.cells #[.int .i64 k, .int .i64 n, .string m, .slice oa ol oc, .slice pa pl pc] 25) = W3 at *
  generalize hBo : w3.heap.size = Bo at *
  go_loopw [5] (fun V wr => ∃ (h : Tm) (acc : List Tm) (ko no : Int) (mo : ByteArray) (oa : Option Addr) (ol oc : Nat) (pa : Option Addr) (pl pc : Nat), Hid (spine t = ((spine h).1, (spine h).2 ++ acc.reverse)) ∧ Hid (acc.length + tnodes h ≤ tnodes t) ∧ Hid (tkOf h = ko ∧ tnOf h = no ∧ tmOf h = mo) ∧ Hid (wr.heap[Bo]? = some (Obj.cells #[.int .i64 ko, .int .i64 no, .string mo, .slice oa ol oc, .slice pa pl pc] 25 (0, 0))) ∧ Hid (TmP wr (fun b => w.heap.size + 1 + 1 ≤ b ∧ b < Bo) h (.slice oa ol oc) (.slice pa pl pc)) ∧ Hid (SpO wr (w.heap.size + 1 + 1) Bo W3.heap.size V acc) ∧ Hid (W3.grownBy wr (some Bo))) (fun V _ => tnodes t - lenV V)
  case atStart =>
    have q1 : spine t = ((spine t).1, (spine t).2 ++ ([] : List Tm).reverse) := by rw [List.reverse_nil, List.append_nil]
    have q2 : ([] : List Tm).length + tnodes t ≤ tnodes t := by simp
    exact ⟨t, [], k, n, m, oa, ol, oc, pa, pl, pc, q1, q2, ⟨HK.out, HNN.out, HMM.out⟩, HRO.out, HTO.out, ⟨[], rfl, World.ownsRow_nil _ _ _ _, fun _ h => absurd h (Nat.not_lt_zero _)⟩, grown_of _ (Below.refl _ _)⟩
  case round =>
    clear HRO HTO
    obtain ⟨h, acc, ko, no, mo, oa, ol, oc, pa, pl, pc, hsp, hnd, hkk, hro, hto, hown, hgr⟩ := hrel
    have hsr := grown_size hgr.out
    have HBr := Lib.hid (HB3.out.grown hgr.out HB3.out.size (fun k e => by cases e; omega))
    have HR1r := Lib.hid ((hgr.out.block (w.heap.size + 1) (by omega) (by simp; omega)).trans HR13.out)
    have hc := five_cells hro.out
    cases h with
    | mk kh nh mh lh ts =>
    obtain ⟨rfl, rfl, rfl⟩ : kh = ko ∧ nh = no ∧ mh = mo := hkk.out
    have hto2 := hto.out
    rw [TmP] at hto2
    obtain ⟨_, A9, len9, cap9, e9, hlen9, _, _, hnone9, hts9⟩ := hto2
    cases e9
    have HTS := Lib.hid hts9
    have HLEN := Lib.hid hlen9
    clear hts9 hlen9 hnone9
    by_cases hstop : kh = 4 ∧ ts.length = 2
    · obtain ⟨rfl, h2⟩ := hstop
      obtain ⟨g, a, rfl⟩ : ∃ g a, ts = [g, a] := by
        match ts, h2 with
        | [g, a], _ => exact ⟨g, a, rfl⟩
      obtain rfl : pl = 2 := HLEN.out.symm
      obtain ⟨bk, o, l0, s0, eA, hbs, hP0, hc0, hc1, hc2, hc3, hc4, htm0⟩ := tsP_get HTS.out 0 (by simp)
      obtain ⟨bk', o', l1, s1, eA', _, hP1, hx0, hx1, hx2, hx3, hx4, htm1⟩ := tsP_get HTS.out 1 (by simp)
      subst eA
      cases eA'
      obtain ⟨⟨ga, gl, gc, rfl⟩, fa, fl, fc, rfl⟩ := tmP_slices htm0
      obtain ⟨⟨xa, xl, xc, rfl⟩, ya, yl, yc, rfl⟩ := tmP_slices htm1
      simp only [Nat.zero_mul, Nat.add_zero, Nat.one_mul, List.getElem_cons_zero, List.getElem_cons_succ, Nat.add_assoc, Nat.reduceAdd] at hc0 hc1 hc2 hc3 hc4 hx0 hx1 hx2 hx3 hx4 htm0 htm1
      obtain ⟨ka, hka⟩ : ∃ q, tkOf a = q := ⟨_, rfl⟩
      obtain ⟨na, hna⟩ : ∃ q, tnOf a = q := ⟨_, rfl⟩
      obtain ⟨ma, hma⟩ : ∃ q, tmOf a = q := ⟨_, rfl⟩
      obtain ⟨kg, hkg⟩ : ∃ q, tkOf g = q := ⟨_, rfl⟩
      obtain ⟨ng, hng⟩ : ∃ q, tnOf g = q := ⟨_, rfl⟩
      obtain ⟨mg, hmg⟩ : ∃ q, tmOf g = q := ⟨_, rfl⟩
      rw [hkg] at hc0
      rw [hng] at hc1
      rw [hmg] at hc2
      rw [hka] at hx0
      rw [hna] at hx1
      rw [hma] at hx2
      have HA := Lib.hid (And.intro hka (And.intro hna hma))
      have HG := Lib.hid (And.intro hkg (And.intro hng hmg))
      have HT0 := Lib.hid htm0
      have HT1 := Lib.hid htm1
      have HSP := Lib.hid hsp.out
      clear hka hna hma hkg hng hmg htm0 htm1
      obtain ⟨ss, hsl, hso, hsk⟩ := hown.out
      have HO := Lib.hid hso
      have HSL := Lib.hid hsl
      have HSK := Lib.hid hsk
      have hnd2 := hnd.out
      rw [tnodes, tnodesL, tnodesL, tnodesL] at hnd2
      have hMM := HM.out
      have HND := Lib.hid hnd2
      have hbo1 : acc.length + 1 ≤ maxLen := by unfold maxLen; omega
      have hbo2 : (acc.length + 1) * 80 ≤ 140737488355328 := by omega
      have HKEEP : Hid (∀ w2 : World, (wr.alloc (.cells #[.int .i64 ka, .int .i64 na, .string ma, .slice xa xl xc, .slice ya yl yc] 25)).grownBy w2 u5.ownBlock → ∀ b, b < W3.heap.size → w2.heap[b]? = wr.heap[b]?) := fun w2 hg b hb => by
        have hat := spO_at hown.out
        exact (hg.block b (by simp; omega) (fun e => by have := hat b e.symm; omega)).trans (heap_alloc_old wr _ (by omega))
      have HC : Hid (∀ w2 : World, (∀ b, b < W3.heap.size → w2.heap[b]? = wr.heap[b]?) → (w2.cell? ⟨Bo, 4, none⟩ = some (.slice (some ⟨bk, o, none⟩) 2 pc) ∧ w2.cell? ⟨bk, o, none⟩ = some (.int .i64 kg) ∧ w2.cell? ⟨bk, o + 1, none⟩ = some (.int .i64 ng) ∧ w2.cell? ⟨bk, o + 2, none⟩ = some (.string mg) ∧ w2.cell? ⟨bk, o + 3, none⟩ = some (.slice ga gl gc) ∧ w2.cell? ⟨bk, o + 4, none⟩ = some (.slice fa fl fc) ∧ w2.heap[Bo]? = some (Obj.cells #[.int .i64 4, .int .i64 nh, .string mh, .slice oa ol oc, .slice (some ⟨bk, o, none⟩) 2 pc] 25 (0, 0)))) := fun w2 hk => by
        have q := hk Bo (by omega)
        have q2 := hk bk (by omega)
        exact ⟨(cell_heap q).trans hc.2.2.2.2, (cell_heap q2).trans hc0, (cell_heap q2).trans hc1, (cell_heap q2).trans hc2, (cell_heap q2).trans hc3, (cell_heap q2).trans hc4, q.trans hro.out⟩
      obtain ⟨a0, a1, a2, a3, a4⟩ := hc
      clear hso hsl hsk hnd2 hc0 hc1 hc2 hc3 hc4
      go_wp2_with (first | (refine wpList_append_lies _ rfl (.tmp 17) (.tmp 22) 23 rfl W3.heap.size 25 i0 (.agg #[.int .i64 0, .int .i64 0, .string ⟨#[]⟩, .slice none 0 0, .slice none 0 0]) 5 80 Tryz.underlying23 hi0 hz0 hz1 hz2 rfl (by decide) u5 acc.length (cells5 acc ss) (by simp [Act.eval]) (own_alloc HO.out _) ⟨wr.heap.size, 0, none⟩ 1 1 [.int .i64 ka, .int .i64 na, .string ma, .slice xa xl xc, .slice ya yl yc] (by simp [Act.eval]) rfl (World.news_of_block (heap_alloc_new wr _)) (five_oneCell rfl rfl) (by decide) hbo1 hbo2 (by simp; omega) (wr.heap.size + 1) (by simp) ?_; intro g9 cap' w2 hown2 hgrow hat hlt2; have HK2 := Lib.hid (HKEEP.out w2 hgrow); obtain ⟨_, y0, y1, y2, y3, y4, hro2⟩ := HC.out w2 HK2.out; obtain ⟨p0, p1, p2, p3, p4⟩ := five_cells hro2; have f0 := frozen0 (p := 0) hro2; have f1 := frozen0 (p := 1) hro2; have f2 := frozen0 (p := 2) hro2; have f3 := frozen0 (p := 3) hro2; have f4 := frozen0 (p := 4) hro2; have HRO2 := Lib.hid hro2; have HOWN2 := Lib.hid hown2; have HGROW := Lib.hid hgrow; have HAT := Lib.hid hat; clear hro2 hown2 hgrow hat hlt2))
      have hat1 := spO_at hown.out
      have hg2 : W3.grownBy w2 (some Bo) := grown_more (grown_below hgr.out (below_lit wr (.cells #[.int .i64 ka, .int .i64 na, .string ma, .slice xa xl xc, .slice ya yl yc] 25))) HGROW.out (fun g e => hat1 g e)
      have hsz2 : wr.heap.size + 1 ≤ w2.heap.size := by have := grown_size HGROW.out; simpa using this
      have hs5 := set5_sz w2 Bo 0 (.int .i64 kg) (.int .i64 ng) (.string mg) (.slice ga gl gc) (.slice fa fl fc)
      refine ⟨⟨g, acc ++ [a], kg, ng, mg, ga, gl, gc, fa, fl, fc, ?_, ?_, HG.out, set5_row HRO2.out, ?_, ?_, set5_grown hg2⟩, ?_⟩
      · have h9 := HSP.out
        rw [spine_step] at h9
        have : spine t = ((spine g).1, (spine g).2 ++ (acc ++ [a]).reverse) := by rw [h9, List.reverse_append, List.append_assoc]; rfl
        exact this
      · have h9 := HND.out
        have : (acc ++ [a]).length + tnodes g ≤ tnodes t := by rw [List.length_append, List.length_singleton]; have := tnodes_pos a; omega
        exact this
      · exact tmP_move (w := wr) (w' := (((((w2.setCell ⟨Bo, 0, none⟩ (.int .i64 kg)).setCell ⟨Bo, 1, none⟩ (.int .i64 ng)).setCell ⟨Bo, 2, none⟩ (.string mg)).setCell ⟨Bo, 3, none⟩ (.slice ga gl gc)).setCell ⟨Bo, 4, none⟩ (.slice fa fl fc))) (fun b hlt hp => ⟨hp, (set5_far' w2 Bo 0 b _ _ _ _ _ (by omega)).trans (HK2.out b (by omega))⟩) (by rw [hs5]; omega) _ _ _ HT0.out
      · have hlen : (acc ++ [a]).length = acc.length + 1 := by simp
        refine ⟨ss ++ [(.slice xa xl xc, .slice ya yl yc)], by rw [hlen, List.length_append, HSL.out]; rfl, ?_, fun i h1 h2 => ?_⟩
        · rw [hlen, cells5_snoc acc ss a _ HSL.out, HA.out.1, HA.out.2.1, HA.out.2.2]
          refine ⟨HOWN2.out.1, ?_⟩
          rcases HOWN2.out.2 with ⟨e, _⟩ | ⟨g', cap2, cur, e, hbg, hg, h4⟩
          · cases e
          · exact .inr ⟨g', cap2, cur, e, hbg, (set5_far' w2 Bo 0 g' _ _ _ _ _ (by omega)).trans hg, h4⟩
        · have hmv : ∀ (t9 : Tm) (l9 s9 : Value), TmP wr (fun b => w.heap.size + 1 + 1 ≤ b ∧ b < Bo) t9 l9 s9 → TmP (((((w2.setCell ⟨Bo, 0, none⟩ (.int .i64 kg)).setCell ⟨Bo, 1, none⟩ (.int .i64 ng)).setCell ⟨Bo, 2, none⟩ (.string mg)).setCell ⟨Bo, 3, none⟩ (.slice ga gl gc)).setCell ⟨Bo, 4, none⟩ (.slice fa fl fc)) (fun b => w.heap.size + 1 + 1 ≤ b ∧ b < Bo) t9 l9 s9 := fun t9 l9 s9 h9 => tmP_move (w := wr) (w' := (((((w2.setCell ⟨Bo, 0, none⟩ (.int .i64 kg)).setCell ⟨Bo, 1, none⟩ (.int .i64 ng)).setCell ⟨Bo, 2, none⟩ (.string mg)).setCell ⟨Bo, 3, none⟩ (.slice ga gl gc)).setCell ⟨Bo, 4, none⟩ (.slice fa fl fc))) (fun b hlt hp => ⟨hp, (set5_far' w2 Bo 0 b _ _ _ _ _ (by omega)).trans (HK2.out b (by omega))⟩) (by rw [hs5]; omega) _ _ _ h9
          by_cases hi : i < acc.length
          · rw [List.getElem_append_left hi]
            have e1 : (ss ++ [(Value.slice xa xl xc, Value.slice ya yl yc)])[i] = ss[i]'(by rw [← HSL.out]; exact hi) := List.getElem_append_left (by rw [← HSL.out]; exact hi)
            rw [e1]
            exact hmv _ _ _ (HSK.out i hi (by rw [← HSL.out]; exact hi))
          · have hi2 : i = acc.length := by rw [hlen] at h1; omega
            subst hi2
            have hl2 : ss.length ≤ acc.length := by rw [HSL.out]; exact Nat.le_refl _
            rw [List.getElem_append_right (Nat.le_refl _)]
            have e1 : (ss ++ [(Value.slice xa xl xc, Value.slice ya yl yc)])[acc.length] = (Value.slice xa xl xc, Value.slice ya yl yc) := by rw [List.getElem_append_right hl2]; simp [HSL.out]
            rw [e1]
            simp only [Nat.sub_self, List.getElem_singleton]
            exact hmv _ _ _ HT1.out
      · have h8 := spO_len hown.out
        have h9 := HND.out
        rw [h8]
        show tnodes t - (acc.length + 1) < _
        have := tnodes_pos a
        omega
    · have HSP : Hid (spine t = (.mk kh nh mh lh ts, acc.reverse)) := by
        have h9 := hsp.out
        rw [spine_stop hstop] at h9
        exact h9
      have HST := Lib.hid hstop
      have HOT := Lib.hid (spO_own hown.out (by omega) (by omega))
      have hat1 := Lib.hid (spO_at hown.out)
      have hal : Hid (acc.length ≤ 140737488355328) := by
        have h8 := hnd.out
        have h9 := HM.out
        have : acc.length ≤ 140737488355328 := by omega
        exact this
      clear hstop
      obtain ⟨a0, a1, a2, a3, a4⟩ := hc
      have CREV := Lib.hid (rev_any (w.heap.size + 1 + 1) u5 acc wr HOT.out hal.out)
      by_cases hk4 : kh = 4
      · subst hk4
        have hk1 : ((4 : Int) == 4) = true := rfl
        have hl1 : ((pl : Int) == 2) = false := by
          have h8 := HLEN.out
          have h9 := HST.out
          simp
          omega
        go_wp2_with fail
        refine CREV.out.mono ?_
        rintro e w6 ⟨rfl, A6, len6, cap6, rfl, hl6, hc6, hn6, hts6, hg6⟩
        have hb6 : ∀ b, b < W3.heap.size → w6.heap[b]? = wr.heap[b]? := fun b hb => hg6.block b (by omega) (fun e => by have := hat1.out b e.symm; omega)
        have hs6 := grown_size hg6
        have hro6 := (hb6 Bo (by omega)).trans hro.out
        obtain ⟨p0, p1, p2, p3, p4⟩ := five_cells hro6
        have hrz := (hb6 (w.heap.size + 1) (by omega)).trans HR1r.out
        obtain ⟨e0, e1, e2, e3, e4⟩ := five_cells hrz
        have g0 := frozen0 (p := 0) hrz
        have g1 := frozen0 (p := 1) hrz
        have g2 := frozen0 (p := 2) hrz
        have g3 := frozen0 (p := 3) hrz
        have g4 := frozen0 (p := 4) hrz
        have HT6 := Lib.hid hts6
        have HX6 := Lib.hid (And.intro hl6 (And.intro hc6 hn6))
        have HG6 := Lib.hid (HBr.out.grown hg6 HBr.out.size (fun j e => by have := hat1.out j e; omega))
        have HH6 := Lib.hid (tmP_move (w := wr) (w' := w6) (fun b _ hp => ⟨hp, hb6 b (by omega)⟩) hs6 _ _ _ hto.out)
        clear hts6 hl6 hc6 hn6 hg6 hb6
        go_wp2_with fail
        refine bodyPost_ret (results_row_tmp rfl _ _ (w.heap.size + 1) 25 _ (0, 0) _ rfl (set5_row hrz) Tryz.underlying25 rfl (by rw [hi0, Option.map_some, hz1]; rfl)) rfl ?_
        unfold SpRet
        rw [HSP.out]
        have hs5 := set5_sz w6 (w.heap.size + 1) 0 (.int .i64 4) (.int .i64 nh) (.string mh) (.slice oa ol oc) (.slice pa pl pc)
        refine ⟨_, _, A6, len6, cap6, rfl, by rw [List.length_reverse]; exact HX6.out.1, HX6.out.2.1, HX6.out.2.2, tmP_move (w := w6) (fun b _ hp => ⟨by omega, set5_far' w6 (w.heap.size + 1) 0 b _ _ _ _ _ (by omega)⟩) (Nat.le_of_eq hs5.symm) _ _ _ HH6.out, tsP_move (w := w6) (fun b _ (hp : w.heap.size + 1 + 1 ≤ b) => ⟨by omega, set5_far' w6 (w.heap.size + 1) 0 b _ _ _ _ _ (by omega)⟩) (Nat.le_of_eq hs5.symm) _ _ _ HT6.out, set5_below HG6.out _ 0 _ _ _ _ _ (by omega)⟩
      · have hk1 : (kh == 4) = false := by simp; omega
        go_wp2_with fail
        refine CREV.out.mono ?_
        rintro e w6 ⟨rfl, A6, len6, cap6, rfl, hl6, hc6, hn6, hts6, hg6⟩
        have hb6 : ∀ b, b < W3.heap.size → w6.heap[b]? = wr.heap[b]? := fun b hb => hg6.block b (by omega) (fun e => by have := hat1.out b e.symm; omega)
        have hs6 := grown_size hg6
        have hro6 := (hb6 Bo (by omega)).trans hro.out
        obtain ⟨p0, p1, p2, p3, p4⟩ := five_cells hro6
        have hrz := (hb6 (w.heap.size + 1) (by omega)).trans HR1r.out
        obtain ⟨e0, e1, e2, e3, e4⟩ := five_cells hrz
        have g0 := frozen0 (p := 0) hrz
        have g1 := frozen0 (p := 1) hrz
        have g2 := frozen0 (p := 2) hrz
        have g3 := frozen0 (p := 3) hrz
        have g4 := frozen0 (p := 4) hrz
        have HT6 := Lib.hid hts6
        have HX6 := Lib.hid (And.intro hl6 (And.intro hc6 hn6))
        have HG6 := Lib.hid (HBr.out.grown hg6 HBr.out.size (fun j e => by have := hat1.out j e; omega))
        have HH6 := Lib.hid (tmP_move (w := wr) (w' := w6) (fun b _ hp => ⟨hp, hb6 b (by omega)⟩) hs6 _ _ _ hto.out)
        clear hts6 hl6 hc6 hn6 hg6 hb6
        go_wp2_with fail
        refine bodyPost_ret (results_row_tmp rfl _ _ (w.heap.size + 1) 25 _ (0, 0) _ rfl (set5_row hrz) Tryz.underlying25 rfl (by rw [hi0, Option.map_some, hz1]; rfl)) rfl ?_
        unfold SpRet
        rw [HSP.out]
        have hs5 := set5_sz w6 (w.heap.size + 1) 0 (.int .i64 kh) (.int .i64 nh) (.string mh) (.slice oa ol oc) (.slice pa pl pc)
        refine ⟨_, _, A6, len6, cap6, rfl, by rw [List.length_reverse]; exact HX6.out.1, HX6.out.2.1, HX6.out.2.2, tmP_move (w := w6) (fun b _ hp => ⟨by omega, set5_far' w6 (w.heap.size + 1) 0 b _ _ _ _ _ (by omega)⟩) (Nat.le_of_eq hs5.symm) _ _ _ HH6.out, tsP_move (w := w6) (fun b _ (hp : w.heap.size + 1 + 1 ≤ b) => ⟨by omega, set5_far' w6 (w.heap.size + 1) 0 b _ _ _ _ _ (by omega)⟩) (Nat.le_of_eq hs5.symm) _ _ _ HT6.out, set5_below HG6.out _ 0 _ _ _ _ _ (by omega)⟩
end Trm
end Go.Proofs.YtbkdecgfiiajnaaGreatDoor
