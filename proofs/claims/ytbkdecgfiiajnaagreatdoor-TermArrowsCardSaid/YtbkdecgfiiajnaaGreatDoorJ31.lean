import Derived.Shelf.Spec.SlicesGrow
import Derived.Test.YtbkdecgfiiajnaaGreatDoorJ26
/-
  The contract of slices.Concat of two slices of terms: a row of its own of what both hold.
  Conditions: the terms lie in memory as told by 'TsP'.
-/
namespace Go.Proofs.YtbkdecgfiiajnaaGreatDoor
open Go.RowKit
open Lvl
namespace Trm
def grow_ren : Go.Shelf.Ren := ⟨fun | 4 => 58 | n => n, fun | 22 => 23 | 25 => 25 | 3 => 3 | 4 => 4 | 9 => 9 | 20 => 20 | n => n, fun | n => n⟩
theorem grow_lays : Go.Proofs.Lays8.n4 Tryz.prog grow_ren := {
  mixed := by kernel_rfl
  f4 := ⟨"slices.Grow[[]scholium/api.Term,scholium/api.Term]", by decide, Tryz.func58.trans (congrArg some (by kernel_rfl))⟩
  t0 := Tryz.underlying0
  a0 := Tryz.isAgg0
  z0 := Tryz.sizeOf0
  v0 := Tryz.zeroValue0
  t3 := Tryz.underlying3
  a3 := Tryz.isAgg3
  z3 := Tryz.sizeOf3
  v3 := Tryz.zeroValue3
  t4 := Tryz.underlying4
  a4 := Tryz.isAgg4
  z4 := Tryz.sizeOf4
  v4 := Tryz.zeroValue4
  t9 := Tryz.underlying9
  a9 := Tryz.isAgg9
  z9 := Tryz.sizeOf9
  v9 := Tryz.zeroValue9
  t20 := Tryz.underlying20
  a20 := Tryz.isAgg20
  z20 := Tryz.sizeOf20
  v20 := Tryz.zeroValue20
  t22 := Tryz.underlying23
  a22 := Tryz.isAgg23
  z22 := Tryz.sizeOf23
  v22 := Tryz.zeroValue23 }
theorem cells5_append : ∀ (ts : List Tm) (ss : List (Value × Value)) (us : List Tm) (ss2 : List (Value × Value)), ts.length = ss.length → cells5 (ts ++ us) (ss ++ ss2) = cells5 ts ss ++ cells5 us ss2
  | [], [], us, ss2, _ => rfl
  | b :: ts, r :: ss, us, ss2, h => by
    rw [List.cons_append, List.cons_append, cells5, cells5, cells5_append ts ss us ss2 (by simpa using h)]
    rfl
theorem cells5_at : ∀ (ts : List Tm) (ss : List (Value × Value)) (j : Nat) (u : Value), ts.length = ss.length → (cells5 ts ss)[j]? = some u → ∃ (i c : Nat) (h1 : i < ts.length) (h2 : i < ss.length), j = i * 5 + c ∧ c < 5 ∧ (c = 0 → u = .int .i64 (tkOf ts[i])) ∧ (c = 1 → u = .int .i64 (tnOf ts[i])) ∧ (c = 2 → u = .string (tmOf ts[i])) ∧ (c = 3 → u = ss[i].1) ∧ (c = 4 → u = ss[i].2) := by
  intro ts ss j u hl hj
  have hlt : j < ts.length * 5 := by
    have := (List.getElem?_eq_some_iff.1 hj).1
    rwa [cells5_len ts ss hl] at this
  have h1 : j / 5 < ts.length := by omega
  have h2 : j / 5 < ss.length := by omega
  obtain ⟨c0, c1, c2, c3, c4⟩ := cells5_get ts ss (j / 5) h1 h2
  have he : j = j / 5 * 5 + j % 5 := by omega
  refine ⟨j / 5, j % 5, h1, h2, he, Nat.mod_lt _ (by omega), fun h => ?_, fun h => ?_, fun h => ?_, fun h => ?_, fun h => ?_⟩
  · rw [h, Nat.add_zero] at he; rw [he, c0] at hj; cases hj; rfl
  · rw [h] at he; rw [he, c1] at hj; cases hj; rfl
  · rw [h] at he; rw [he, c2] at hj; cases hj; rfl
  · rw [h] at he; rw [he, c3] at hj; cases hj; rfl
  · rw [h] at he; rw [he, c4] at hj; cases hj; rfl
/-- A row's cells. -/
theorem tsP_cells5 {w : World} {P : Nat → Prop} {b o : Nat} {us : List Tm} (h : TsP w P (some ⟨b, o, none⟩) 0 us) : ∃ ss : List (Value × Value), us.length = ss.length ∧ (∀ j u, (cells5 us ss)[j]? = some u → b < w.heap.size ∧ w.cell? ⟨b, o + j, none⟩ = some u) ∧ ∀ i (h1 : i < us.length) (h2 : i < ss.length), TmP w (fun b => b < w.heap.size) us[i] ss[i].1 ss[i].2 := by
  have hall : ∀ i, ∃ p : Value × Value, ∀ h : i < us.length, b < w.heap.size ∧ w.cell? ⟨b, o + i * 5, none⟩ = some (.int .i64 (tkOf us[i])) ∧ w.cell? ⟨b, o + i * 5 + 1, none⟩ = some (.int .i64 (tnOf us[i])) ∧ w.cell? ⟨b, o + i * 5 + 2, none⟩ = some (.string (tmOf us[i])) ∧ w.cell? ⟨b, o + i * 5 + 3, none⟩ = some p.1 ∧ w.cell? ⟨b, o + i * 5 + 4, none⟩ = some p.2 ∧ TmP w (fun b => b < w.heap.size) us[i] p.1 p.2 := fun i => by
    by_cases hi : i < us.length
    · obtain ⟨b', o', l, s, e, hb, _, c0, c1, c2, c3, c4, ht⟩ := tsP_get h i hi
      cases e
      exact ⟨(l, s), fun _ => ⟨hb, c0, c1, c2, c3, c4, tmP_move (fun b hlt _ => ⟨hlt, rfl⟩) (Nat.le_refl _) _ _ _ ht⟩⟩
    · exact ⟨(.bool false, .bool false), fun h => absurd h hi⟩
  obtain ⟨f, hf⟩ : ∃ f : Nat → Value × Value, ∀ i (h : i < us.length), b < w.heap.size ∧ w.cell? ⟨b, o + i * 5, none⟩ = some (.int .i64 (tkOf us[i])) ∧ w.cell? ⟨b, o + i * 5 + 1, none⟩ = some (.int .i64 (tnOf us[i])) ∧ w.cell? ⟨b, o + i * 5 + 2, none⟩ = some (.string (tmOf us[i])) ∧ w.cell? ⟨b, o + i * 5 + 3, none⟩ = some (f i).1 ∧ w.cell? ⟨b, o + i * 5 + 4, none⟩ = some (f i).2 ∧ TmP w (fun b => b < w.heap.size) us[i] (f i).1 (f i).2 := ⟨fun i => (hall i).choose, fun i => (hall i).choose_spec⟩
  have hlen : us.length = ((List.range us.length).map f).length := by simp
  refine ⟨(List.range us.length).map f, hlen, fun j u hj => ?_, fun i h1 h2 => ?_⟩
  · obtain ⟨i, c, h1, h2, rfl, hc, q0, q1, q2, q3, q4⟩ := cells5_at us _ j u hlen hj
    obtain ⟨hb, c0, c1, c2, c3, c4, _⟩ := hf i h1
    refine ⟨hb, ?_⟩
    have e9 : ((List.range us.length).map f)[i] = f i := by simp
    rw [e9] at q3 q4
    have : c = 0 ∨ c = 1 ∨ c = 2 ∨ c = 3 ∨ c = 4 := by omega
    rcases this with rfl | rfl | rfl | rfl | rfl
    · rw [q0 rfl]; exact c0
    · rw [q1 rfl]; exact c1
    · rw [q2 rfl]; exact c2
    · rw [q3 rfl]; exact c3
    · rw [q4 rfl]; exact c4
  · have e9 : ((List.range us.length).map f)[i] = f i := by simp
    rw [e9]
    exact (hf i h1).2.2.2.2.2.2
theorem cells5_one : ∀ (us : List Tm) (ss : List (Value × Value)), (us.length = ss.length ∧ ∀ i (_ : i < us.length) (h2 : i < ss.length), ss[i].1.oneCell' = true ∧ ss[i].2.oneCell' = true) → ∀ u ∈ cells5 us ss, u.oneCell' = true := by
  intro us ss h u hu
  obtain ⟨j, hj⟩ := List.getElem?_of_mem hu
  obtain ⟨i, c, h1, h2, _, hc, q0, q1, q2, q3, q4⟩ := cells5_at us ss j u h.1 hj
  have : c = 0 ∨ c = 1 ∨ c = 2 ∨ c = 3 ∨ c = 4 := by omega
  rcases this with rfl | rfl | rfl | rfl | rfl
  · rw [q0 rfl]; rfl
  · rw [q1 rfl]; rfl
  · rw [q2 rfl]; rfl
  · rw [q3 rfl]; exact (h.2 i h1 h2).1
  · rw [q4 rfl]; exact (h.2 i h1 h2).2
/-- Some terms more. -/
theorem spO_more {w wr w2 : World} {V V2 : Value} {ts us : List Tm} {ss ss2 : List (Value × Value)} (hl : ts.length = ss.length) (_ : wr.ownsRow w.heap.size 25 5 V ts.length (cells5 ts ss)) (hk : ∀ i (h1 : i < ts.length) (h2 : i < ss.length), TmP wr (fun b => 0 ≤ b ∧ b < w.heap.size) ts[i] ss[i].1 ss[i].2)
    (hl2 : us.length = ss2.length) (hk2 : ∀ i (h1 : i < us.length) (h2 : i < ss2.length), TmP w (fun b => b < w.heap.size) us[i] ss2[i].1 ss2[i].2) (hb : Below w.heap.size w wr) (hg : wr.grownBy w2 V.ownBlock) (hat : ∀ b, V.ownBlock = some b → w.heap.size ≤ b)
    (hown : w2.ownsRow w.heap.size 25 5 V2 (ts.length + us.length) (cells5 ts ss ++ cells5 us ss2)) : SpO w2 0 w.heap.size w.heap.size V2 (ts ++ us) := by
  have hkeep : ∀ b, b < w.heap.size → w2.heap[b]? = wr.heap[b]? := fun b hb' => hg.block b (Nat.lt_of_lt_of_le hb' hb.size) (fun e => by have := hat b e.symm; omega)
  refine ⟨ss ++ ss2, by rw [List.length_append, List.length_append, hl, hl2], by rw [List.length_append, cells5_append ts ss us ss2 hl]; exact hown, fun i h1 h2 => ?_⟩
  by_cases hi : i < ts.length
  · have e1 : (ts ++ us)[i] = ts[i] := List.getElem_append_left hi
    have e2 : (ss ++ ss2)[i] = ss[i]'(by omega) := List.getElem_append_left (by omega)
    rw [e1, e2]
    exact tmP_move (fun b _ hp => ⟨hp, hkeep b hp.2⟩) (grown_size hg) _ _ _ (hk i hi (by omega))
  · have hi2 : i - ts.length < us.length := by rw [List.length_append] at h1; omega
    have e1 : (ts ++ us)[i] = us[i - ts.length] := List.getElem_append_right (by omega)
    have e2 : (ss ++ ss2)[i] = ss2[i - ts.length]'(by omega) := by
      have e3 : (ss ++ ss2)[i] = ss2[i - ss.length]'(by omega) := List.getElem_append_right (by omega)
      rw [e3]
      simp only [hl]
    rw [e1, e2]
    exact tmP_move (fun b hlt hp => ⟨⟨Nat.zero_le _, hp⟩, (hkeep b hp).trans (hb.block b hp)⟩) (Nat.le_trans hb.size (grown_size hg)) _ _ _ (hk2 _ hi2 (by omega))
theorem tsP_addr {w : World} {P : Nat → Prop} {A : Option Addr} {us : List Tm} (h : TsP w P A 0 us) (hne : us ≠ []) : ∃ b o, A = some ⟨b, o, none⟩ := by
  obtain ⟨b, o, l, s, e, _⟩ := tsP_get h 0 (List.length_pos_iff.2 hne)
  exact ⟨b, o, e⟩
theorem tsP_cellsA {w : World} {P : Nat → Prop} {ad : Addr} {us : List Tm} (h : TsP w P (some ad) 0 us) : ∃ ss : List (Value × Value), us.length = ss.length ∧ (∀ j u, (cells5 us ss)[j]? = some u → (ad.add j).block < w.heap.size ∧ w.cell? (ad.add j) = some u) ∧ ∀ i (h1 : i < us.length) (h2 : i < ss.length), TmP w (fun b => b < w.heap.size) us[i] ss[i].1 ss[i].2 := by
  cases us with
  | nil => exact ⟨[], rfl, fun j u hj => by simp [cells5] at hj, fun i h1 => absurd h1 (Nat.not_lt_zero _)⟩
  | cons a us =>
    obtain ⟨b, o, l, s, e, _⟩ := tsP_get h 0 (Nat.succ_pos _)
    cases e
    obtain ⟨ss, h1, h2, h3⟩ := tsP_cells5 h
    exact ⟨ss, h1, fun j u hj => by rw [txt_add]; exact h2 j u hj, h3⟩
set_option maxRecDepth 100000 in
set_option maxHeartbeats 4000000 in
theorem concat_is (ts1 ts2 : List Tm) (A1 : Option Addr) (l1 c1 : Nat) (A2 : Option Addr) (l2 c2 : Nat) (bb : Nat) (w : World) (hbb : w.heap[bb]? = some (.cells #[.slice A1 l1 c1, .slice A2 l2 c2] 23 (0, 0))) (h1 : ts1.length = l1) (h2 : ts2.length = l2) (hlc1 : l1 ≤ c1) (hlc2 : l2 ≤ c2) (hn1 : A1 = none → c1 = 0) (hn2 : A2 = none → c2 = 0)
    (hs1 : TsP w (fun _ => True) A1 0 ts1) (hs2 : TsP w (fun _ => True) A2 0 ts2) (hpos : 0 < l1 + l2) (hbd : l1 + l2 ≤ 100000) :
    Calls Tryz.prog 34 #[.slice (some ⟨bb, 0, none⟩) 2 2] w (fun e w' => ∃ V, e = .returned V ∧ SpO w' 0 w.heap.size w.heap.size V (ts1 ++ ts2) ∧ Below w.heap.size w w') := by
  obtain ⟨i0, hi0, hz0, hz1, hz2⟩ := info_parts infoTm
  have HL1 := Lib.hid h1
  have HL2 := Lib.hid h2
  have HN1 := Lib.hid hn1
  have HN2 := Lib.hid hn2
  have HS1 := Lib.hid hs1
  have HS2 := Lib.hid hs2
  have HBB := Lib.hid hbb
  have hlb : bb < w.heap.size := (Array.getElem?_eq_some_iff.1 hbb).1
  clear h1 h2 hn1 hn2 hs1 hs2 hbb
  go_enter Tryz.func34, Tryz.ntmps34
  go_wp2_with fail
  go_loopw [3, 5, 11] (fun sz _ i wr => ∃ j : Nat, j ≤ 2 ∧ i = .int .i64 j ∧ sz = .int .i64 ((if j = 0 then 0 else if j = 1 then l1 else l1 + l2 : Nat) : Int) ∧ wr = w) (fun _ _ i _ => 2 - (intOf i).toNat)
  case atStart => exact ⟨0, by omega, rfl, rfl, rfl⟩
  case round =>
    obtain ⟨j, hj, rfl, rfl, hwr⟩ := hrel
    obtain rfl : w = wr := hwr.symm
    have x0 : w.cell? ⟨bb, 0, none⟩ = some (.slice A1 l1 c1) := cell_of_row w bb 0 _ _ (0, 0) HBB.out
    have x1 : w.cell? ⟨bb, 1, none⟩ = some (.slice A2 l2 c2) := cell_of_row w bb 1 _ _ (0, 0) HBB.out
    have : j = 0 ∨ j = 1 ∨ j = 2 := by omega
    rcases this with rfl | rfl | rfl
    · simp only [if_true]
      go_wp2
      exact ⟨⟨1, by omega, rfl, by simp, trivial⟩, by decide⟩
    · rw [if_neg (by decide), if_pos rfl]
      go_wp2
      exact ⟨⟨2, by omega, rfl, by simp, trivial⟩, by decide⟩
    · rw [if_neg (by decide), if_neg (by decide)]
      clear x0 x1
      have CG := Lib.hid (Go.Proofs.Any8.slices_Grow_grow grow_lays i0 (.agg #[.int .i64 0, .int .i64 0, .string ⟨#[]⟩, .slice none 0 0, .slice none 0 0]) hi0 hz0 (by rw [hz1]; decide) none 0 0 (l1 + l2) [] w (Nat.le_refl _) (by omega) (by rw [hz2]; omega) (by omega) (by simp) (fun _ => rfl) (fun a e => by cases e))
      go_wp2_with fail
      refine CG.out.mono ?_
      rintro e w3 ⟨rfl, rfl⟩
      have hG1 := grownCap_ge w (0 + (l1 + l2)) 0 25
      have hG2 := grownCap_le_maxLen w (0 + (l1 + l2)) 0 25 (by unfold maxLen; omega)
      obtain ⟨G, hG⟩ : ∃ G, grownCap w (0 + (l1 + l2)) 0 25 = G := ⟨_, rfl⟩
      obtain ⟨cur, hcur⟩ : ∃ cur, ([] : List Value).toArray ++ Builtin.zeroCells (.agg #[.int .i64 0, .int .i64 0, .string ⟨#[]⟩, .slice none 0 0, .slice none 0 0] : Value).cells (0 + (l1 + l2) - 0) ++ Builtin.zeroCells (.agg #[.int .i64 0, .int .i64 0, .string ⟨#[]⟩, .slice none 0 0, .slice none 0 0] : Value).cells (G - (0 + (l1 + l2))) = cur := ⟨_, rfl⟩
      have hcs : cur.size = G * 5 := by
        rw [← hcur]
        simp only [Array.size_append, List.size_toArray, size_zeroCells, List.length_nil]
        show 0 + (0 + (l1 + l2) - 0) * 5 + (G - (0 + (l1 + l2))) * 5 = G * 5
        omega
      rw [hG] at hG1 hG2
      have hrow : (w.drew.alloc (.cells cur 25)).ownsRow w.heap.size 25 5 (.slice (some ⟨w.heap.size, 0, none⟩) 0 G) 0 [] := World.ownsRow_made w.drew _ _ (Nat.le_refl _) hG2 hcs
      have hb3 := below_drewN1 w (.cells cur 25)
      have hsp0 : SpO (w.drew.alloc (.cells cur 25)) 0 w.heap.size w.heap.size (.slice (some ⟨w.heap.size, 0, none⟩) 0 G) [] := ⟨[], rfl, hrow, fun _ h => absurd h (Nat.not_lt_zero _)⟩
      have HSP0 := Lib.hid hsp0
      have HB3 := Lib.hid hb3
      clear hrow hb3 hsp0 hcs hG1 hG2 CG
      try rw [show grow_ren.t 25 = 25 from rfl]
      rw [hG]
      try rw [hcur]
      generalize w.drew.alloc (.cells cur 25) = W3 at *
      clear hG hcur
      go_wp2_with fail
      go_loopw [6, 8, 27] (fun V _ i wr => ∃ j : Nat, j ≤ 2 ∧ i = .int .i64 j ∧ Hid (SpO wr 0 w.heap.size w.heap.size V (if j = 0 then [] else if j = 1 then ts1 else ts1 ++ ts2)) ∧ Hid (Below w.heap.size w wr)) (fun _ _ i _ => 2 - (intOf i).toNat)
      case atStart => exact ⟨0, by omega, rfl, HSP0.out, HB3.out⟩
      case round =>
        obtain ⟨j, hj, rfl, hown, hb⟩ := hrel
        have x0 : wr.cell? ⟨bb, 0, none⟩ = some (.slice A1 l1 c1) := (hb.out.cell (p := ⟨bb, 0, none⟩) hlb).trans (cell_of_row w bb 0 _ _ (0, 0) HBB.out)
        have x1 : wr.cell? ⟨bb, 1, none⟩ = some (.slice A2 l2 c2) := (hb.out.cell (p := ⟨bb, 1, none⟩) hlb).trans (cell_of_row w bb 1 _ _ (0, 0) HBB.out)
        have : j = 0 ∨ j = 1 ∨ j = 2 := by omega
        rcases this with rfl | rfl | rfl
        · rw [if_pos rfl] at hown
          obtain ⟨ss, hsl, hso, hsk⟩ := hown.out
          have HO := Lib.hid hso
          have HSL := Lib.hid hsl
          have HSK := Lib.hid hsk
          have hat1 := spO_at hown.out
          have hbs : w.heap.size ≤ wr.heap.size := hb.out.size
          clear hso hsl hsk
          cases A1 with
          | none =>
            have hc0 := HN1.out rfl
            obtain rfl : c1 = 0 := hc0
            obtain rfl : l1 = 0 := by omega
            have hts := Lib.hid (show ts1 = [] from List.length_eq_zero_iff.1 HL1.out)
            go_wp2_with (first | (at_builtin; refine wpList_append_own_none rfl _ _ 23 rfl w.heap.size 25 i0 5 Tryz.underlying23 hi0 u6 ([] : List Tm).length (cells5 ([] : List Tm) ss) (by simp [Act.eval]) HO.out (by simp [Act.eval]) ?_))
            refine ⟨⟨_, _, _, ⟨1, by omega, rfl, ?_⟩, rfl, rfl, rfl⟩, by decide⟩
            have h9 := hown.out
            have : SpO wr 0 w.heap.size w.heap.size u6 (ts1) := by rw [hts.out]; exact h9
            exact this
          | some ad =>
            obtain ⟨s1, hsl2, hcl, hsk2⟩ := tsP_cellsA HS1.out
            have HSL2 := Lib.hid hsl2
            have HSK2 := Lib.hid hsk2
            have HLC : Hid ((cells5 ts1 s1).length = l1 * 5) := by
              have : (cells5 ts1 s1).length = l1 * 5 := by rw [cells5_len _ _ hsl2, HL1.out]
              exact this
            have HCL : Hid (∀ j u, (cells5 ts1 s1)[j]? = some u → wr.cell? (ad.add j) = some u) := fun j u hj => by
              obtain ⟨h1, h2⟩ := hcl j u hj
              exact (hb.out.cell (p := ad.add j) h1).trans h2
            have hbo1 : ([] : List Tm).length + l1 ≤ maxLen := by have h8 := HL1.out; unfold maxLen; simp; omega
            have hbo2 : (([] : List Tm).length + l1) * 80 ≤ 140737488355328 := by have h8 := HL1.out; simp; omega
            clear hsl2 hcl hsk2
            go_wp2_with (first | (refine wpList_append_own _ rfl (.tmp 31) (.tmp 32) 23 rfl w.heap.size 25 i0 (.agg #[.int .i64 0, .int .i64 0, .string ⟨#[]⟩, .slice none 0 0, .slice none 0 0]) 5 80 Tryz.underlying23 hi0 hz0 hz1 hz2 rfl (by decide) u6 ([] : List Tm).length (cells5 ([] : List Tm) ss) (by simp [Act.eval]) HO.out ad l1 c1 (cells5 ts1 s1) (by simp [Act.eval]) HLC.out HCL.out (cells5_one ts1 s1 ⟨HSL2.out, fun i h1 h2 => tmP_one (HSK2.out i h1 h2)⟩) hbo1 hbo2 hbs ?_; intro u9 w2 hown2 hgrow hnil2; have HOWN2 := Lib.hid hown2; have HGROW := Lib.hid hgrow; clear hown2 hgrow hnil2))
            refine ⟨⟨1, by omega, rfl, ?_, hb.out.grown HGROW.out hbs (fun g e => hat1 g e)⟩, by decide⟩
            have hsp := spO_more (us := ts1) (ss2 := s1) HSL.out HO.out HSK.out HSL2.out HSK2.out hb.out HGROW.out hat1 (by rw [HL1.out]; exact HOWN2.out)
            have : SpO w2 0 w.heap.size w.heap.size u9 (ts1) := hsp
            exact this
        · rw [if_neg (by decide), if_pos rfl] at hown
          obtain ⟨ss, hsl, hso, hsk⟩ := hown.out
          have HO := Lib.hid hso
          have HSL := Lib.hid hsl
          have HSK := Lib.hid hsk
          have hat1 := spO_at hown.out
          have hbs : w.heap.size ≤ wr.heap.size := hb.out.size
          clear hso hsl hsk
          cases A2 with
          | none =>
            have hc0 := HN2.out rfl
            obtain rfl : c2 = 0 := hc0
            obtain rfl : l2 = 0 := by omega
            have hts := Lib.hid (show ts2 = [] from List.length_eq_zero_iff.1 HL2.out)
            go_wp2_with (first | (at_builtin; refine wpList_append_own_none rfl _ _ 23 rfl w.heap.size 25 i0 5 Tryz.underlying23 hi0 u6 ts1.length (cells5 ts1 ss) (by simp [Act.eval]) HO.out (by simp [Act.eval]) ?_))
            refine ⟨⟨_, _, _, ⟨2, by omega, rfl, ?_⟩, rfl, rfl, rfl⟩, by decide⟩
            have h9 := hown.out
            have : SpO wr 0 w.heap.size w.heap.size u6 (ts1 ++ ts2) := by rw [hts.out, List.append_nil]; exact h9
            exact this
          | some ad =>
            obtain ⟨s2, hsl2, hcl, hsk2⟩ := tsP_cellsA HS2.out
            have HSL2 := Lib.hid hsl2
            have HSK2 := Lib.hid hsk2
            have HLC : Hid ((cells5 ts2 s2).length = l2 * 5) := by
              have : (cells5 ts2 s2).length = l2 * 5 := by rw [cells5_len _ _ hsl2, HL2.out]
              exact this
            have HCL : Hid (∀ j u, (cells5 ts2 s2)[j]? = some u → wr.cell? (ad.add j) = some u) := fun j u hj => by
              obtain ⟨h1, h2⟩ := hcl j u hj
              exact (hb.out.cell (p := ad.add j) h1).trans h2
            have hbo1 : ts1.length + l2 ≤ maxLen := by have h8 := HL1.out; unfold maxLen; simp; omega
            have hbo2 : (ts1.length + l2) * 80 ≤ 140737488355328 := by have h8 := HL1.out; simp; omega
            clear hsl2 hcl hsk2
            go_wp2_with (first | (refine wpList_append_own _ rfl (.tmp 31) (.tmp 32) 23 rfl w.heap.size 25 i0 (.agg #[.int .i64 0, .int .i64 0, .string ⟨#[]⟩, .slice none 0 0, .slice none 0 0]) 5 80 Tryz.underlying23 hi0 hz0 hz1 hz2 rfl (by decide) u6 ts1.length (cells5 ts1 ss) (by simp [Act.eval]) HO.out ad l2 c2 (cells5 ts2 s2) (by simp [Act.eval]) HLC.out HCL.out (cells5_one ts2 s2 ⟨HSL2.out, fun i h1 h2 => tmP_one (HSK2.out i h1 h2)⟩) hbo1 hbo2 hbs ?_; intro u9 w2 hown2 hgrow hnil2; have HOWN2 := Lib.hid hown2; have HGROW := Lib.hid hgrow; clear hown2 hgrow hnil2))
            refine ⟨⟨2, by omega, rfl, ?_, hb.out.grown HGROW.out hbs (fun g e => hat1 g e)⟩, by decide⟩
            have hsp := spO_more (us := ts2) (ss2 := s2) HSL.out HO.out HSK.out HSL2.out HSK2.out hb.out HGROW.out hat1 (by rw [HL2.out]; exact HOWN2.out)
            have : SpO w2 0 w.heap.size w.heap.size u9 (ts1 ++ ts2) := hsp
            exact this
        · rw [if_neg (by decide), if_neg (by decide)] at hown
          go_wp2_with fail
          go_ret
          exact ⟨_, rfl, hown.out, hb.out⟩
end Trm
end Go.Proofs.YtbkdecgfiiajnaaGreatDoor
