/-
  The contract of the reference's function Sort: the texts in order, each once, in a list of its own.
  Conditions: the list lies in memory as told by 'Txt'; it has at most 2000 texts.
-/
import Derived.Test.YtnknaecfjkiibaaGreatDoorRefFresh
import Derived.Test.YtnknaecfjkiibaaGreatDoorOrd
import Derived.Deep.RegionLaw
import Derived.IntWalk
import Derived.Sort.Walk0
import Derived.Deep.QuietTactic
import Derived.BigQuiet
namespace Go.Proofs.YtnknaecfjkiibaaGreatDoor
open Go.RowKit

/-- The texts in order, each once, of the first k. -/
def SortTo (xs : List ByteArray) (k : Nat) (zs : List ByteArray) : Prop :=
  (zs.map (·.data.toList)).Pairwise (· < ·) ∧ ∀ l, l ∈ zs.map (·.data.toList) ↔ l ∈ (xs.take k).map (·.data.toList)
theorem sortTo_zero (xs : List ByteArray) : SortTo xs 0 [] := ⟨List.Pairwise.nil, fun l => by simp⟩
theorem sortTo_skip {xs zs : List ByteArray} {k : Nat} (h : k < xs.length) (hs : SortTo xs k zs) {a : Nat} (ha : a < zs.length) (he : (zs[a].toList == xs[k].toList) = true) : SortTo xs (k + 1) zs := by
  refine ⟨hs.1, fun l => ?_⟩
  rw [hs.2 l, List.take_add_one, List.getElem?_eq_getElem h, List.map_append, List.mem_append]
  constructor
  · exact .inl
  · rintro (h1 | h1)
    · exact h1
    · have e : l = xs[k].data.toList := by simpa using h1
      rw [← hs.2 l, e]
      rw [ByteArray.toList_eq, ByteArray.toList_eq, beq_iff_eq] at he
      rw [← he]
      exact List.mem_map_of_mem (List.getElem_mem ha)
theorem sortTo_ins {xs zs : List ByteArray} {k : Nat} (h : k < xs.length) (hs : SortTo xs k zs) {a : Nat} (ha : a ≤ zs.length)
    (hlo : ∀ j (hj : j < zs.length), j < a → Op.bytesLess (zs[j].toList) (xs[k].toList) = true)
    (hhi : ∀ hj : a < zs.length, Op.bytesLess (zs[a].toList) (xs[k].toList) = false ∧ (zs[a].toList == xs[k].toList) = false) : SortTo xs (k + 1) (zs.take a ++ [xs[k]] ++ zs.drop a) := by
  have hcross := List.pairwise_append.1 (show ((zs.map (·.data.toList)).take a ++ (zs.map (·.data.toList)).drop a).Pairwise (· < ·) by rw [List.take_append_drop]; exact hs.1)
  have hA : ∀ l ∈ (zs.map (·.data.toList)).take a, l < xs[k].data.toList := by
    intro l hl
    obtain ⟨i, hi, rfl⟩ := List.mem_take_iff_getElem.1 hl
    have hi2 : i < zs.length := by rw [List.length_map] at hi; omega
    have := hlo i hi2 (by omega)
    rw [bytesLess_eq, ByteArray.toList_eq, ByteArray.toList_eq, decide_eq_true_iff] at this
    simpa using this
  have hB : ∀ l ∈ (zs.map (·.data.toList)).drop a, xs[k].data.toList < l := by
    intro l hl
    have ha2 : a < zs.length := by
      rcases Nat.lt_or_ge a zs.length with h1 | h1
      · exact h1
      · rw [List.drop_of_length_le (by rw [List.length_map]; exact h1)] at hl; cases hl
    obtain ⟨h1, h2⟩ := hhi ha2
    rw [bytesLess_eq, ByteArray.toList_eq, ByteArray.toList_eq, decide_eq_false_iff_not] at h1
    rw [ByteArray.toList_eq, ByteArray.toList_eq, beq_eq_false_iff_ne] at h2
    have h3 : xs[k].data.toList < zs[a].data.toList := Nm.lt_of_le_ne (List.not_lt.1 h1) (Ne.symm h2)
    rw [List.drop_eq_getElem_cons (by rw [List.length_map]; exact ha2)] at hl hcross
    rw [List.getElem_map] at hl hcross
    rcases List.mem_cons.1 hl with rfl | hl
    · exact h3
    · exact List.lt_trans h3 ((List.pairwise_cons.1 hcross.2.1).1 l hl)
  refine ⟨?_, fun l => ?_⟩
  · rw [List.map_append, List.map_append, List.map_take, List.map_drop, List.append_assoc, List.pairwise_append]
    refine ⟨hcross.1, ?_, ?_⟩
    · show (xs[k].data.toList :: (zs.map (·.data.toList)).drop a).Pairwise (· < ·)
      rw [List.pairwise_cons]
      exact ⟨hB, hcross.2.1⟩
    · intro l hl l' hl'
      rcases List.mem_cons.1 hl' with rfl | hl'
      · exact hA l hl
      · exact hcross.2.2 l hl l' hl'
  · rw [List.take_add_one, List.getElem?_eq_getElem h, List.map_append (l₁ := xs.take k), List.mem_append, ← hs.2 l]
    have e : l ∈ zs.map (·.data.toList) ↔ l ∈ (zs.take a).map (·.data.toList) ∨ l ∈ (zs.drop a).map (·.data.toList) := by
      rw [← List.mem_append, ← List.map_append, List.take_append_drop]
    rw [e]
    simp only [List.map_append, List.mem_append, Option.toList]
    constructor
    · rintro ((h1 | h1) | h1)
      · exact .inl (.inl h1)
      · exact .inr h1
      · exact .inl (.inr h1)
    · rintro ((h1 | h1) | h1)
      · exact .inl (.inl h1)
      · exact .inr h1
      · exact .inl (.inr h1)
theorem sortTo_done {xs zs : List ByteArray} {k : Nat} (h : xs.length = k) (hs : SortTo xs k zs) : sortedOf xs = zs := by
  have h1 := hs.2
  rw [← h, List.take_length] at h1
  have e : sortedL xs = zs.map (·.data.toList) := by
    have hn1 : (sortedL xs).Nodup := (sortedL_lt xs).imp fun h e => by rw [e] at h; exact Nm.lt_irrefl' _ h
    have hn2 : (zs.map (·.data.toList)).Nodup := hs.1.imp fun h e => by rw [e] at h; exact Nm.lt_irrefl' _ h
    refine List.Perm.eq_of_pairwise (le := (· ≤ ·)) (fun _ _ _ _ h1 h2 => List.le_antisymm h1 h2) ((sortedL_lt xs).imp fun h => Nm.le_of_lt' h) (hs.1.imp fun h => Nm.le_of_lt' h) ?_
    exact (List.perm_ext_iff_of_nodup hn1 hn2).2 fun l => (sortedL_mem xs l).trans (h1 l).symm
  unfold sortedOf
  rw [e, List.map_map]
  have : ((fun l : List UInt8 => (⟨l.toArray⟩ : ByteArray)) ∘ fun x : ByteArray => x.data.toList) = id := by
    funext x; exact Lib.mk_data x
  rw [this, List.map_id]

theorem own_base {w : World} {base base' : Nat} {e : TypeId} {size : Nat} {v : Value} {n : Nat} {xs : List Value} (h : w.ownsRow base e size v n xs) (hb : base' ≤ base) : w.ownsRow base' e size v n xs := by
  rcases h with ⟨h0, h1 | ⟨g, cap, cur, h1, h2, h3⟩⟩
  · exact ⟨h0, .inl h1⟩
  · exact ⟨h0, .inr ⟨g, cap, cur, h1, Nat.le_trans hb h2, h3⟩⟩

/-- An append that makes a new array, and one onto a row of the call's own, as one step of a region that draws. -/
theorem step_append_grow {P : Program} {ops : Array Oper} {o : Oper} {a : Act} {w : World} {K : Act → World → Prop} {Q : Exit → Act → World → Prop} {E : Prop}
    (hg : o.guard = none) (s x : Operand) (t : TypeId) (hop : o.op = Op.call { callee := Callee.builtin Builtin.append, args := #[s, x], argTypes := #[t, t] })
    (e : TypeId) (i : TypeInfo) (z : Value) (size bytes : Nat) (h1 : P.underlying t = some (.slice e)) (h2 : P.info? e = some i) (h3 : i.zero = some z) (h4 : i.size = size) (h5 : i.bytes = bytes) (h6 : z.cells.size = size) (h7 : 0 < size)
    (b : Addr) (n cap : Nat) (olds : List Value) (hs : a.eval s = .slice (some b) n cap) (hlo : olds.length = n * size) (holds : ∀ j u, olds[j]? = some u → w.cell? (b.add j) = some u)
    (ad : Addr) (m c : Nat) (news : List Value) (hx : a.eval x = .slice (some ad) m c) (hn : news.length = m * size) (hc : ∀ j u, news[j]? = some u → w.cell? (ad.add j) = some u)
    (hgr : cap < n + m) (b1 : n + m ≤ maxLen) (b2 : (n + m) * bytes ≤ 140737488355328)
    (hK : ∀ v' w', w'.ownsRow w.heap.size e size v' (n + m) (olds ++ news) → w.grownBy w' none → K (a.put o.dst v') w') :
    if Region.wanted o (yielded ops a.tmps) = true then Oper.wp P o a w K Q else E := by
  have hw : Region.wanted o (yielded ops a.tmps) = true := by simp [Region.wanted, hg]
  rw [if_pos hw]
  obtain ⟨v', w', hrun, r1, r2⟩ := run_append_arg_grows (P := P) w t o.type e i z size bytes h1 h2 h3 h4 h5 h6 h7 b n cap olds hlo holds ad m c news hn hc hgr b1 b2
  unfold Oper.wp
  simp [execOp, hop, resolve, invoke, builtin, hs, hx, hrun, Result.andThen]
  exact hK v' w' r1 r2
theorem step_append_own {P : Program} {ops : Array Oper} {o : Oper} {a : Act} {w : World} {K : Act → World → Prop} {Q : Exit → Act → World → Prop} {E : Prop}
    (hg : o.guard = none) (s x : Operand) (t : TypeId) (hop : o.op = Op.call { callee := Callee.builtin Builtin.append, args := #[s, x], argTypes := #[t, t] })
    (base : Nat) (e : TypeId) (i : TypeInfo) (z : Value) (size bytes : Nat) (h1 : P.underlying t = some (.slice e)) (h2 : P.info? e = some i) (h3 : i.zero = some z) (h4 : i.size = size) (h5 : i.bytes = bytes) (h6 : z.cells.size = size) (h7 : 0 < size)
    (v : Value) (n : Nat) (xs : List Value) (hs : a.eval s = v) (hown : w.ownsRow base e size v n xs)
    (ad : Addr) (m c : Nat) (news : List Value) (hx : a.eval x = .slice (some ad) m c) (hn : news.length = m * size) (hc : ∀ j u, news[j]? = some u → w.cell? (ad.add j) = some u) (h1c : ∀ u ∈ news, u.oneCell' = true)
    (b1 : n + m ≤ maxLen) (b2 : (n + m) * bytes ≤ 140737488355328) (hbase : base ≤ w.heap.size)
    (hK : ∀ v' w', w'.ownsRow base e size v' (n + m) (xs ++ news) → w.grownBy w' v.ownBlock → (v' = .slice none 0 0 ↔ v = .slice none 0 0 ∧ m = 0) → K (a.put o.dst v') w') :
    if Region.wanted o (yielded ops a.tmps) = true then Oper.wp P o a w K Q else E := by
  have hw : Region.wanted o (yielded ops a.tmps) = true := by simp [Region.wanted, hg]
  rw [if_pos hw]
  obtain ⟨v', w', hrun, r1, r2, r3⟩ := run_append_own (P := P) w base t o.type e i z size bytes h1 h2 h3 h4 h5 h6 h7 v n xs hown ad m c news hn hc h1c b1 b2 hbase
  unfold Oper.wp
  simp only [execOp, hop, resolve, invoke, builtin, Sem.run_bind, Sem.run_pure, Result.andThen_ok, List.map_toArray, List.map_cons, List.map_nil, hs, hx, hrun]
  exact hK v' w' r1 r2 r3

theorem own_cells {w w' : World} {base g m cap : Nat} {ys : List ByteArray} (how : w.ownsRow base 9 1 (.slice (some ⟨g, 0, none⟩) m cap) m (ys.map Value.string)) (hb : Below w.heap.size w w') (a : Nat) : ∀ j u, ((ys.drop a).map Value.string)[j]? = some u → w'.cell? ((⟨g, a, none⟩ : Addr).add j) = some u := by
  intro j u hu
  have hl : ys.length = m := by have := how.1; simpa using this
  rw [List.getElem?_map, List.getElem?_drop] at hu
  have hlt : a + j < m := by
    rcases Nat.lt_or_ge (a + j) ys.length with h | h
    · omega
    · rw [List.getElem?_eq_none h] at hu; cases hu
  rw [txt_add, hb.cell (p := ⟨g, a + j, none⟩) (how.lt g rfl).2, how.cellAt (a + j) (by omega), List.getElem?_map]
  exact hu
theorem own_take {w w' : World} {base g m cap : Nat} {ys : List ByteArray} (how : w.ownsRow base 9 1 (.slice (some ⟨g, 0, none⟩) m cap) m (ys.map Value.string)) (hb : Below w.heap.size w w') (a : Nat) : ∀ j u, ((ys.take a).map Value.string)[j]? = some u → w'.cell? ((⟨g, 0, none⟩ : Addr).add j) = some u := by
  intro j u hu
  refine own_cells how hb 0 j u ?_
  rw [List.drop_zero, List.getElem?_map]
  rw [List.getElem?_map, List.getElem?_take] at hu
  split at hu
  · exact hu
  · cases hu
theorem below_lit9 (w : World) (q : Nat) (O : Obj) : Below w.heap.size w ((w.drewN q).alloc O) := (quietBelow w q).trans (below_lit (w.drewN q) O)
theorem below_drewN1 (w : World) (O : Obj) : Below w.heap.size w (w.drew.alloc O) := (Below.refl _ _).drew.alloc (Nat.le_refl _) O

set_option maxHeartbeats 4000000 in
set_option maxRecDepth 100000 in
theorem refSort_is (A : Option Addr) (n c : Nat) (xs : List ByteArray) (w : World) (hx : Txt w A xs) (hN : xs.length = n) (hn : n ≤ 2000) :
    Calls Tryz.prog 23 #[.slice A n c] w (SliceRet w (sortedOf xs)) := by
  obtain ⟨i0, hi, hz0, hz1, hz2⟩ := info_parts infoStr
  have hown0 : (w.alloc (.cells #[] 9)).ownsRow w.heap.size 9 1 (.slice (some ⟨w.heap.size, 0, none⟩) 0 0) 0 (([] : List ByteArray).map Value.string) := World.ownsRow_lit w #[] 0 (Nat.le_refl _) (by unfold maxLen; omega) rfl
  have HX := Lib.hid hx
  have HN := Lib.hid hN
  have HO := Lib.hid hown0
  clear hx hN hown0
  go_enter Tryz.func23, Tryz.ntmps23
  go_wp2_with fail
  go_loopw [3, 4] (fun v i wr => ∃ k : Nat, k ≤ n ∧ i = .int .i64 k ∧ ∃ zs : List ByteArray, Hid (SortTo xs k zs) ∧ zs.length ≤ k ∧ Hid (wr.ownsRow w.heap.size 9 1 v zs.length (zs.map Value.string)) ∧ Below w.heap.size w wr ∧ v ≠ .slice none 0 0) (fun _ i _ => n - (intOf i).toNat)
  case atStart => exact ⟨0, Nat.zero_le _, rfl, [], sortTo_zero xs, Nat.le_refl _, HO.out, below_lit w _, by simp⟩
  case round =>
    obtain ⟨k, hk, rfl, zs, HS, hzk, HOW, hb, hv⟩ := hrel
    by_cases hlt : k < n
    · have hx1 : k < xs.length := by rw [HN.out]; exact hlt
      obtain ⟨b, o, rfl, hcell⟩ := (HX.out.below hb).at_ hx1
      have hln : (k : Int) < (n : Int) := by omega
      have HXK : Hid (∀ w', Below w.heap.size w w' → w'.cell? ⟨b, o + k, none⟩ = some (.string xs[k])) := fun w' hw' => by
        obtain ⟨b', o', e', h'⟩ := (HX.out.below hw').at_ hx1
        cases e'
        exact h'
      have HSK := Lib.hid (fun a ha he => sortTo_skip (a := a) hx1 HS.out ha he)
      have HSI := Lib.hid (fun a ha hlo hhi => sortTo_ins (a := a) hx1 HS.out ha hlo hhi)
      generalize xs[k] = x at *
      obtain ⟨g, cap, rfl, hbg, hgl, hzc, hcm⟩ : ∃ g cap, u3 = .slice (some ⟨g, 0, none⟩) zs.length cap ∧ w.heap.size ≤ g ∧ g < wr.heap.size ∧ zs.length ≤ cap ∧ cap ≤ maxLen := by
        rcases HOW.out with ⟨_, ⟨h1, _⟩ | ⟨g, cap, cur, h1, h2, h3, h4, h5, _⟩⟩
        · exact absurd h1 hv
        · exact ⟨g, cap, h1, h2, (Array.getElem?_eq_some_iff.1 h3).1, h4, h5⟩
      clear hv
      go_wp2_with fail
      go_loopw [5] (fun i wr' => ∃ a : Nat, a ≤ zs.length ∧ i = .int .i64 a ∧ Hid (∀ j (hj : j < zs.length), j < a → Op.bytesLess (zs[j].toList) x.toList = true) ∧ ∃ q, wr' = wr.drewN q) (fun i _ => zs.length - (intOf i).toNat)
      case atStart => exact ⟨0, Nat.zero_le _, rfl, fun j _ h => absurd h (Nat.not_lt_zero _), 0, rfl⟩
      case round =>
        obtain ⟨a, ha, rfl, HLO, q, rfl⟩ := hrel
        by_cases halt : a < zs.length
        · have hz : wr.cell? ⟨g, a, none⟩ = some (.string zs[a]) := by
            rw [HOW.out.cellAt a (by omega)]
            simp [List.getElem?_map, List.getElem?_eq_getElem halt]
          have haI : (a : Int) < (zs.length : Int) := by omega
          cases hle : Op.bytesLess (zs[a].toList) x.toList
          · have HNL := Lib.hid hle
            cases heq : (zs[a].toList == x.toList)
            · have HI := Lib.hid (HSI.out a ha HLO.out (fun _ => ⟨hle, heq⟩))
              generalize zs[a] = z at *
              go_wp2_with fail
              go_quiet (fail)
              go_wp2_with fail
              go_quiet (fail)
              have HL9 : Hid (∀ Q, ((wr.drewN Q).alloc (.cells #[] 9)).ownsRow wr.heap.size 9 1 (.slice (some ⟨wr.heap.size, 0, none⟩) 0 0) 0 []) := fun Q => World.ownsRow_lit (wr.drewN Q) #[] 0 (Nat.le_refl _) (by unfold maxLen; omega) rfl
              have HC9 : Hid (∀ Q j u, ((zs.drop a).map Value.string)[j]? = some u → ((wr.drewN Q).alloc (.cells #[] 9)).cell? ((⟨g, a, none⟩ : Addr).add j) = some u) := fun Q => own_cells HOW.out (below_lit9 wr Q _) a
              go_wp2_with (at_builtin; refine wpList_append_own _ rfl _ _ 22 rfl wr.heap.size 9 i0 (.string ByteArray.empty) 1 16 Tryz.underlying22 hi hz0 hz1 hz2 rfl (by decide) _ 0 [] rfl (HL9.out _) ⟨g, a, none⟩ (zs.length - a) (cap - a) ((zs.drop a).map Value.string) rfl ?c1 (HC9.out _) (texts_oneCell _) ?c4 ?c5 ?c6 ?_)
              case c1 => rw [List.length_map, List.length_drop, Nat.mul_one]
              case c4 => unfold maxLen; omega
              case c5 => omega
              case c6 => simp
              intro v1 w1 hown1 hgrow1 hnil1
              replace hown1 : w1.ownsRow wr.heap.size 9 1 v1 (zs.length - a) ((zs.drop a).map Value.string) := by rw [List.map_drop]; simpa using hown1
              have hb1 : Below wr.heap.size wr w1 := Below.grown (below_lit9 wr _ _) hgrow1 (by simp) (fun j hj => by cases hj; exact Nat.le_refl _)
              obtain ⟨g1, c1, rfl, hg1⟩ : ∃ g1 c1, v1 = .slice (some ⟨g1, 0, none⟩) (zs.length - a) c1 ∧ wr.heap.size ≤ g1 := by
                rcases hown1 with ⟨_, ⟨h1, _⟩ | ⟨g1, c1, cur, h1, h2, _⟩⟩
                · exact absurd h1 (by simpa using hnil1)
                · exact ⟨g1, c1, h1, h2⟩
              have hb2 := below_drewN1 w1 (.cells #[.string x] 9)
              have HB12 : Hid (Below wr.heap.size wr (w1.drew.alloc (.cells #[.string x] 9))) := hb1.trans (hb2.mono hb1.size)
              have HC10 := Lib.hid (own_take HOW.out HB12.out a)
              have HC11 : Hid (∀ j u, [Value.string x][j]? = some u → (w1.drew.alloc (.cells #[.string x] 9)).cell? ((⟨w1.heap.size, 0, none⟩ : Addr).add j) = some u) := cell_one_new w1.drew _ _
              have HR : Hid (∀ w3, (w1.drew.alloc (.cells #[.string x] 9)).grownBy w3 none → ∀ j u, ((zs.drop a).map Value.string)[j]? = some u → w3.cell? ((⟨g1, 0, none⟩ : Addr).add j) = some u) := fun w3 h3 => own_cells (ys := zs.drop a) hown1 (hb2.grown h3 hb2.size (fun j hj => by cases hj)) 0
              have hcell1 := HXK.out w1 (hb.trans (hb1.mono hb.size))
              have hcell2 := HXK.out w1.drew ((hb.trans (hb1.mono hb.size)).trans ((Below.refl _ w1).drew))
              have HT1 : Hid (((zs.take a).map Value.string).length = a * 1) := by unfold Hid; rw [List.length_map, List.length_take]; omega
              have HT2 : Hid (((zs.drop a).map Value.string).length = (zs.length - a) * 1) := by unfold Hid; rw [List.length_map, List.length_drop]; omega
              have H63 : Hid (a + 1 ≤ maxLen) := by unfold Hid maxLen; omega
              have H64 : Hid (a + 1 + (zs.length - a) ≤ maxLen) := by unfold Hid maxLen; omega
              have hb1s := hb1.size
              have hacap : a ≤ cap := by omega
              have HB1 := Lib.hid hb1
              clear hown1 hgrow1 hnil1 hb1 hb2
              go_wp2_with fail
              go_region_law (first
                | (refine step_append_grow rfl _ _ 22 rfl 9 i0 (.string ByteArray.empty) 1 16 Tryz.underlying22 hi hz0 hz1 hz2 rfl (by decide) ⟨g, 0, none⟩ a a ((zs.take a).map Value.string) (by simp [Act.eval]) HT1.out HC10.out ⟨w1.heap.size, 0, none⟩ 1 1 [Value.string x] (by simp [Act.eval]) rfl HC11.out (by omega) H63.out (by omega) ?_; intro v3 w3 hown3 hgrow3)
                | (refine step_append_own rfl _ _ 22 rfl _ 9 i0 (.string ByteArray.empty) 1 16 Tryz.underlying22 hi hz0 hz1 hz2 rfl (by decide) v3 (a + 1) _ (by simp [Act.eval]) hown3 ⟨g1, 0, none⟩ (zs.length - a) c1 ((zs.drop a).map Value.string) (by simp [Act.eval]) HT2.out (HR.out _ hgrow3) (texts_oneCell _) H64.out (by omega) hgrow3.size ?_; intro v4 w4 hown4 hgrow4 hnil4))
              have HO4 : Hid (w4.ownsRow w.heap.size 9 1 v4 (zs.take a ++ [x] ++ zs.drop a).length ((zs.take a ++ [x] ++ zs.drop a).map Value.string)) := by
                have e : (zs.take a ++ [x] ++ zs.drop a).length = a + 1 + (zs.length - a) := by simp; omega
                have e0 := HB12.out.size
                have e1 := hb.size
                rw [e, List.map_append, List.map_append]
                exact own_base hown4 (Nat.le_trans e1 e0)
              have hb4 : Below wr.heap.size wr w4 := (HB12.out.grown hgrow3 HB12.out.size (fun j hj => by cases hj)).grown hgrow4 (Nat.le_trans HB12.out.size hgrow3.size) (fun j hj => Nat.le_trans HB12.out.size (hown3.lt j hj).1)
              have hv4 : v4 ≠ .slice none 0 0 := fun e => by
                have e3 := (hnil4.1 e).1
                rcases hown3.2 with ⟨_, h0⟩ | ⟨_, _, _, h0, _⟩
                · omega
                · rw [e3] at h0; cases h0
              clear hown3 hgrow3 hown4 hgrow4 hnil4
              go_wp2_with fail
              go_roundw
              case rel => exact ⟨k + 1, by omega, by go_num, _, HI, by simp; omega, HO4, hb.trans (hb4.mono hb.size), hv4⟩
              case measure => simp [intOf]; omega
            · have HI := Lib.hid (HSK.out a halt heq)
              generalize zs[a] = z at *
              go_wp2_with fail
              go_quiet (fail)
              go_wp2_with fail
              go_quiet (fail)
              go_wp2_with fail
              go_roundw
              case rel => exact ⟨k + 1, by omega, by go_num, zs, HI, by omega, HOW.out, hb.trans ((quietBelow wr _).mono hb.size), by simp⟩
              case measure => simp [intOf]; omega
          · have HL2 : Hid (∀ j (hj : j < zs.length), j < a + 1 → Op.bytesLess (zs[j].toList) x.toList = true) := fun j hj h => by
              by_cases e : j = a
              · subst e; exact hle
              · exact HLO.out j hj (by omega)
            generalize zs[a] = z at *
            go_wp2_with fail
            go_quiet (fail)
            go_wp2_with fail
            go_roundw
            case rel => exact ⟨a + 1, by omega, by go_num, HL2, _, rfl⟩
            case measure => simp [intOf]; omega
        · obtain rfl : a = zs.length := by omega
          have HI := Lib.hid (HSI.out zs.length ha HLO.out (fun h => absurd h halt))
          by_cases hcap : cap = zs.length
          · subst hcap
            go_wp2_with fail
            go_quiet (fail)
            go_wp2_with fail
            go_quiet (fail)
            have HL9 : Hid (∀ Q, ((wr.drewN Q).alloc (.cells #[] 9)).ownsRow wr.heap.size 9 1 (.slice (some ⟨wr.heap.size, 0, none⟩) 0 0) 0 []) := fun Q => World.ownsRow_lit (wr.drewN Q) #[] 0 (Nat.le_refl _) (by unfold maxLen; omega) rfl
            have HC9 : Hid (∀ Q j u, ((zs.drop zs.length).map Value.string)[j]? = some u → ((wr.drewN Q).alloc (.cells #[] 9)).cell? ((⟨g, 0, none⟩ : Addr).add j) = some u) := fun Q j u hu => by rw [List.drop_of_length_le (Nat.le_refl _)] at hu; cases hu
            go_wp2_with (at_builtin; refine wpList_append_own _ rfl _ _ 22 rfl wr.heap.size 9 i0 (.string ByteArray.empty) 1 16 Tryz.underlying22 hi hz0 hz1 hz2 rfl (by decide) _ 0 [] rfl (HL9.out _) ⟨g, 0, none⟩ 0 (0) ((zs.drop zs.length).map Value.string) rfl ?c1 (HC9.out _) (texts_oneCell _) ?c4 ?c5 ?c6 ?_)
            case c1 => simp
            case c4 => unfold maxLen; omega
            case c5 => omega
            case c6 => simp
            intro v1 w1 hown1 hgrow1 hnil1
            replace hown1 : w1.ownsRow wr.heap.size 9 1 v1 0 ((zs.drop zs.length).map Value.string) := by simpa using hown1
            have hb1 : Below wr.heap.size wr w1 := Below.grown (below_lit9 wr _ _) hgrow1 (by simp) (fun j hj => by cases hj; exact Nat.le_refl _)
            obtain ⟨g1, c1, rfl, hg1⟩ : ∃ g1 c1, v1 = .slice (some ⟨g1, 0, none⟩) 0 c1 ∧ wr.heap.size ≤ g1 := by
              rcases hown1 with ⟨_, ⟨h1, _⟩ | ⟨g1, c1, cur, h1, h2, _⟩⟩
              · exact absurd h1 (by simpa using hnil1)
              · exact ⟨g1, c1, h1, h2⟩
            have hb2 := below_drewN1 w1 (.cells #[.string x] 9)
            have HB12 : Hid (Below wr.heap.size wr (w1.drew.alloc (.cells #[.string x] 9))) := hb1.trans (hb2.mono hb1.size)
            have HC10 := Lib.hid (own_take HOW.out HB12.out zs.length)
            have HC11 : Hid (∀ j u, [Value.string x][j]? = some u → (w1.drew.alloc (.cells #[.string x] 9)).cell? ((⟨w1.heap.size, 0, none⟩ : Addr).add j) = some u) := cell_one_new w1.drew _ _
            have HR : Hid (∀ w3, (w1.drew.alloc (.cells #[.string x] 9)).grownBy w3 none → ∀ j u, ((zs.drop zs.length).map Value.string)[j]? = some u → w3.cell? ((⟨g1, 0, none⟩ : Addr).add j) = some u) := fun w3 h3 => own_cells (ys := zs.drop zs.length) hown1 (hb2.grown h3 hb2.size (fun j hj => by cases hj)) 0
            have hcell1 := HXK.out w1 (hb.trans (hb1.mono hb.size))
            have hcell2 := HXK.out w1.drew ((hb.trans (hb1.mono hb.size)).trans ((Below.refl _ w1).drew))
            have HT1 : Hid (((zs.take zs.length).map Value.string).length = zs.length * 1) := by unfold Hid; simp
            have HT2 : Hid (((zs.drop zs.length).map Value.string).length = 0 * 1) := by unfold Hid; simp
            have H63 : Hid (zs.length + 1 ≤ maxLen) := by unfold Hid maxLen; omega
            have H64 : Hid (zs.length + 1 + 0 ≤ maxLen) := by unfold Hid maxLen; omega
            have hb1s := hb1.size
            have HB1 := Lib.hid hb1
            clear hown1 hgrow1 hnil1 hb1 hb2
            go_wp2_with fail
            go_region_law (first
              | (refine step_append_grow rfl _ _ 22 rfl 9 i0 (.string ByteArray.empty) 1 16 Tryz.underlying22 hi hz0 hz1 hz2 rfl (by decide) ⟨g, 0, none⟩ zs.length zs.length ((zs.take zs.length).map Value.string) (by simp [Act.eval]) HT1.out HC10.out ⟨w1.heap.size, 0, none⟩ 1 1 [Value.string x] (by simp [Act.eval]) rfl HC11.out (by omega) H63.out (by omega) ?_; intro v3 w3 hown3 hgrow3)
              | (refine step_append_own rfl _ _ 22 rfl _ 9 i0 (.string ByteArray.empty) 1 16 Tryz.underlying22 hi hz0 hz1 hz2 rfl (by decide) v3 (zs.length + 1) _ (by simp [Act.eval]) hown3 ⟨g1, 0, none⟩ 0 c1 ((zs.drop zs.length).map Value.string) (by simp [Act.eval]) HT2.out (HR.out _ hgrow3) (texts_oneCell _) H64.out (by omega) hgrow3.size ?_; intro v4 w4 hown4 hgrow4 hnil4))
            have HO4 : Hid (w4.ownsRow w.heap.size 9 1 v4 (zs.take zs.length ++ [x] ++ zs.drop zs.length).length ((zs.take zs.length ++ [x] ++ zs.drop zs.length).map Value.string)) := by
              have e : (zs.take zs.length ++ [x] ++ zs.drop zs.length).length = zs.length + 1 + 0 := by simp
              have e0 := HB12.out.size
              have e1 := hb.size
              rw [e, List.map_append, List.map_append]
              exact own_base hown4 (Nat.le_trans e1 e0)
            have hb4 : Below wr.heap.size wr w4 := (HB12.out.grown hgrow3 HB12.out.size (fun j hj => by cases hj)).grown hgrow4 (Nat.le_trans HB12.out.size hgrow3.size) (fun j hj => Nat.le_trans HB12.out.size (hown3.lt j hj).1)
            have hv4 : v4 ≠ .slice none 0 0 := fun e => by
              have e3 := (hnil4.1 e).1
              rcases hown3.2 with ⟨_, h0⟩ | ⟨_, _, _, h0, _⟩
              · omega
              · rw [e3] at h0; cases h0
            clear hown3 hgrow3 hown4 hgrow4 hnil4
            go_wp2_with fail
            go_roundw
            case rel => exact ⟨k + 1, by omega, by go_num, _, HI, by simp; omega, HO4, hb.trans (hb4.mono hb.size), hv4⟩
            case measure => simp [intOf]; omega
          · go_wp2_with fail
            go_quiet (fail)
            go_wp2_with fail
            go_quiet (fail)
            have HL9 : Hid (∀ Q, ((wr.drewN Q).alloc (.cells #[] 9)).ownsRow wr.heap.size 9 1 (.slice (some ⟨wr.heap.size, 0, none⟩) 0 0) 0 []) := fun Q => World.ownsRow_lit (wr.drewN Q) #[] 0 (Nat.le_refl _) (by unfold maxLen; omega) rfl
            have HC9 : Hid (∀ Q j u, ((zs.drop zs.length).map Value.string)[j]? = some u → ((wr.drewN Q).alloc (.cells #[] 9)).cell? ((⟨g, zs.length, none⟩ : Addr).add j) = some u) := fun Q j u hu => by rw [List.drop_of_length_le (Nat.le_refl _)] at hu; cases hu
            go_wp2_with (at_builtin; refine wpList_append_own _ rfl _ _ 22 rfl wr.heap.size 9 i0 (.string ByteArray.empty) 1 16 Tryz.underlying22 hi hz0 hz1 hz2 rfl (by decide) _ 0 [] rfl (HL9.out _) ⟨g, zs.length, none⟩ 0 (cap - zs.length) ((zs.drop zs.length).map Value.string) rfl ?c1 (HC9.out _) (texts_oneCell _) ?c4 ?c5 ?c6 ?_)
            case c1 => simp
            case c4 => unfold maxLen; omega
            case c5 => omega
            case c6 => simp
            intro v1 w1 hown1 hgrow1 hnil1
            replace hown1 : w1.ownsRow wr.heap.size 9 1 v1 0 ((zs.drop zs.length).map Value.string) := by simpa using hown1
            have hb1 : Below wr.heap.size wr w1 := Below.grown (below_lit9 wr _ _) hgrow1 (by simp) (fun j hj => by cases hj; exact Nat.le_refl _)
            obtain ⟨g1, c1, rfl, hg1⟩ : ∃ g1 c1, v1 = .slice (some ⟨g1, 0, none⟩) 0 c1 ∧ wr.heap.size ≤ g1 := by
              rcases hown1 with ⟨_, ⟨h1, _⟩ | ⟨g1, c1, cur, h1, h2, _⟩⟩
              · exact absurd h1 (by simpa using hnil1)
              · exact ⟨g1, c1, h1, h2⟩
            have hb2 := below_drewN1 w1 (.cells #[.string x] 9)
            have HB12 : Hid (Below wr.heap.size wr (w1.drew.alloc (.cells #[.string x] 9))) := hb1.trans (hb2.mono hb1.size)
            have HC10 := Lib.hid (own_take HOW.out HB12.out zs.length)
            have HC11 : Hid (∀ j u, [Value.string x][j]? = some u → (w1.drew.alloc (.cells #[.string x] 9)).cell? ((⟨w1.heap.size, 0, none⟩ : Addr).add j) = some u) := cell_one_new w1.drew _ _
            have HR : Hid (∀ w3, (w1.drew.alloc (.cells #[.string x] 9)).grownBy w3 none → ∀ j u, ((zs.drop zs.length).map Value.string)[j]? = some u → w3.cell? ((⟨g1, 0, none⟩ : Addr).add j) = some u) := fun w3 h3 => own_cells (ys := zs.drop zs.length) hown1 (hb2.grown h3 hb2.size (fun j hj => by cases hj)) 0
            have hcell1 := HXK.out w1 (hb.trans (hb1.mono hb.size))
            have hcell2 := HXK.out w1.drew ((hb.trans (hb1.mono hb.size)).trans ((Below.refl _ w1).drew))
            have HT1 : Hid (((zs.take zs.length).map Value.string).length = zs.length * 1) := by unfold Hid; simp
            have HT2 : Hid (((zs.drop zs.length).map Value.string).length = 0 * 1) := by unfold Hid; simp
            have H63 : Hid (zs.length + 1 ≤ maxLen) := by unfold Hid maxLen; omega
            have H64 : Hid (zs.length + 1 + 0 ≤ maxLen) := by unfold Hid maxLen; omega
            have hb1s := hb1.size
            have hacap : zs.length ≤ cap := by omega
            have HB1 := Lib.hid hb1
            clear hown1 hgrow1 hnil1 hb1 hb2
            go_wp2_with fail
            go_region_law (first
              | (refine step_append_grow rfl _ _ 22 rfl 9 i0 (.string ByteArray.empty) 1 16 Tryz.underlying22 hi hz0 hz1 hz2 rfl (by decide) ⟨g, 0, none⟩ zs.length zs.length ((zs.take zs.length).map Value.string) (by simp [Act.eval]) HT1.out HC10.out ⟨w1.heap.size, 0, none⟩ 1 1 [Value.string x] (by simp [Act.eval]) rfl HC11.out (by omega) H63.out (by omega) ?_; intro v3 w3 hown3 hgrow3)
              | (refine step_append_own rfl _ _ 22 rfl _ 9 i0 (.string ByteArray.empty) 1 16 Tryz.underlying22 hi hz0 hz1 hz2 rfl (by decide) v3 (zs.length + 1) _ (by simp [Act.eval]) hown3 ⟨g1, 0, none⟩ 0 c1 ((zs.drop zs.length).map Value.string) (by simp [Act.eval]) HT2.out (HR.out _ hgrow3) (texts_oneCell _) H64.out (by omega) hgrow3.size ?_; intro v4 w4 hown4 hgrow4 hnil4))
            have HO4 : Hid (w4.ownsRow w.heap.size 9 1 v4 (zs.take zs.length ++ [x] ++ zs.drop zs.length).length ((zs.take zs.length ++ [x] ++ zs.drop zs.length).map Value.string)) := by
              have e : (zs.take zs.length ++ [x] ++ zs.drop zs.length).length = zs.length + 1 + 0 := by simp
              have e0 := HB12.out.size
              have e1 := hb.size
              rw [e, List.map_append, List.map_append]
              exact own_base hown4 (Nat.le_trans e1 e0)
            have hb4 : Below wr.heap.size wr w4 := (HB12.out.grown hgrow3 HB12.out.size (fun j hj => by cases hj)).grown hgrow4 (Nat.le_trans HB12.out.size hgrow3.size) (fun j hj => Nat.le_trans HB12.out.size (hown3.lt j hj).1)
            have hv4 : v4 ≠ .slice none 0 0 := fun e => by
              have e3 := (hnil4.1 e).1
              rcases hown3.2 with ⟨_, h0⟩ | ⟨_, _, _, h0, _⟩
              · omega
              · rw [e3] at h0; cases h0
            clear hown3 hgrow3 hown4 hgrow4 hnil4
            go_wp2_with fail
            go_roundw
            case rel => exact ⟨k + 1, by omega, by go_num, _, HI, by simp; omega, HO4, hb.trans (hb4.mono hb.size), hv4⟩
            case measure => simp [intOf]; omega
    · have HD := Lib.hid (sortTo_done (show xs.length = k by rw [HN.out]; omega) HS.out)
      have hkn : k = n := by omega
      subst hkn
      go_wp2
      go_ret
      obtain ⟨A', c', rfl, h1, h2, h3, h4⟩ := txt_of_own HOW.out
      rw [HD.out]
      exact ⟨A', _, c', rfl, rfl, h2, h3, h4, hb⟩
end Go.Proofs.YtnknaecfjkiibaaGreatDoor
