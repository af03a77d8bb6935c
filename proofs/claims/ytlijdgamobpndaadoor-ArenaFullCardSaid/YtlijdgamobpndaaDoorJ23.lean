import Derived.Test.YtlijdgamobpndaaDoorJ19
import Derived.Test.YtlijdgamobpndaaDoorJ12
import Derived.Test.YtlijdgamobpndaaDoorJ06
import Derived.BigQuiet
import Derived.Deep.AppendLies
/-
  The contract of an arena's 'number': the number of a key's node, a new one if it isn't held; 0 and an error, if there is no room for that.
  Conditions: the arena lies in memory as told by 'ArM', the key's parts have room.
-/
namespace Go.Proofs.YtlijdgamobpndaaDoor
open Go.RowKit Go.Maps
open Lvl
open Trm
namespace Arn
theorem zeroInt (w : World) : (zeroValue 3).run Tryd.prog w = .ok (.int .i64 0) w := by kernel_rfl
set_option maxRecDepth 100000 in
theorem look_int {W : World} {bm n : Nat} {D : DataW Unit} {ns : List Nd} {x : Ky} (h : W.ownsMap Tryd.prog 56 (plainElem Tryd.prog 3) bm n D) (hm : MapOk D ns) (hx : OkK x) :
    (Instr.lookup 48 (.map (some bm)) (.agg (kc x)) true).run Tryd.prog W = .ok (.tuple #[.int .i64 (num ns x), .bool (decide (num ns x ≠ 0))]) W := by
  obtain ⟨v, ps, hrun, hv⟩ := World.ownsMap.look_ok h keyLawK Tryd.underlying48 (zeroInt W) (plainElem_int Tryd.underlying3 (by decide)) (kl_is hx)
  obtain ⟨c, rfl, hc, _⟩ := plainElem_int_inv Tryd.underlying3 hv
  obtain ⟨h1, h2⟩ := hm.2 x hx
  have h3 := congrArg Prod.fst hc
  rw [h1] at h3
  injection h3 with h3
  injection h3 with _ h3
  rw [hrun, h2, ← h3]
theorem arM_put {w w' : World} {base p bm most : Nat} {V V' : Value} {ns : List Nd} {d : Nd} (ha : ArM w base p bm most V ns) (hroom : ns.length < most) (hd : OkN d)
    (h1 : w'.heap[p]? = some (.cells #[.int .i64 most, V', .map (some bm)] 51 (0, 0))) (h2 : w'.ownsRow base 58 8 V' (ns.length + 1) (cells8 ns ++ (nc d).toList))
    (h3 : ∃ D, w'.ownsMap Tryd.prog 56 (plainElem Tryd.prog 3) bm (ns.length + 1) D ∧ MapOk D (ns ++ [d])) : ArM w' base p bm most V' (ns ++ [d]) :=
  ⟨h1, by rw [cells8_snoc, List.length_append]; exact h2, by rw [List.length_append]; exact h3, ha.pb, ha.mb, by rw [List.length_append]; exact hroom, ha.room, fun e he => by
    rcases List.mem_append.1 he with he | he
    · exact ha.good e he
    · simp at he; rw [he]; exact hd⟩
theorem kp_grown {p bm : Nat} {V : Value} {w w' : World} {g n cap : Nat} (h : w.grownBy w' V.ownBlock) (hm : V.ownBlock = some g ∨ w.heap.size ≤ g) : Kp p bm V w (.slice (some ⟨g, 0, none⟩) n cap) w' :=
  ⟨h.os, h.tape, h.output, h.size, fun k hk _ _ h3 => h.block k hk (fun e => h3 e.symm), fun g' hg => by
    have : g = g' := by simpa [Value.ownBlock] using hg
    subst this
    exact hm⟩
theorem kp_map {p bm : Nat} {V : Value} {w w' : World} (h : w.grownBy w' (some bm)) : Kp p bm V w V w' :=
  ⟨h.os, h.tape, h.output, h.size, fun k hk _ h2 _ => h.block k hk (fun e => h2 (by cases e; rfl)), fun _ hg => .inl hg⟩
theorem kp_set {p bm : Nat} {V : Value} (w : World) (i : Nat) (v : Value) : Kp p bm V w V (w.setCell ⟨p, i, none⟩ v) :=
  ⟨rfl, rfl, rfl, Nat.le_of_eq (setCell_size _ _ _).symm, fun _ _ h1 _ _ => setCell_far _ _ _ _ h1, fun _ hg => .inl hg⟩
theorem clone_is (s : ByteArray) (w : World) (h : s.size ≤ 281474976710656) : Calls Tryd.prog 49 #[.string s] w (Ret w (.string s)) := by
  have HC := Lib.hid (Tryd.stringslite_Clone s w h)
  go_enter Tryd.func49, Tryd.ntmps49
  go_wp2_with fail
  refine HC.out.mono ?_
  rintro e w1 ⟨rfl, hb⟩
  go_wp2_with fail
  go_ret
  exact ⟨rfl, hb⟩
theorem step_map_put {P : Program} {ops : Array Oper} {o : Oper} {a : Act} {w : World} {K : Act → World → Prop} {Q : Exit → Act → World → Prop} {E : Prop}
    (hg : o.guard = none) (m x v : Operand) (t : TypeId) (hop : o.op = Op.mapUpdate t m x v) (k e : TypeId) (KL : Keyed P k) (ht : P.underlying t = some (.map k e)) (R : Value → Option (DataW Unit × List MemPlace)) (b n : Nat) (D : DataW Unit)
    (hm : a.eval m = .map (some b)) (hown : w.ownsMap P k R b n D) (hn : n < maxLen) (key val : Value) (kl : Lit) (hx : a.eval x = key) (hv : a.eval v = val) (hkey : Go.keyOf P k key = some kl) (d : DataW Unit) (ps : List MemPlace) (hval : R val = some (d, ps))
    (hK : ∀ w', w'.ownsMap P k R b (n + 1) (D.put kl d) → w.grownBy w' (some b) → K (a.put o.dst undef) w') :
    if Region.wanted o (yielded ops a.tmps) = true then Oper.wp P o a w K Q else E := by
  have hw : Region.wanted o (yielded ops a.tmps) = true := by simp [Region.wanted, hg]
  rw [if_pos hw]
  obtain ⟨w', hrun, r1, r2⟩ := hown.update KL ht hn hkey hval
  unfold Oper.wp
  simp [execOp, hop, hm, hx, hv, hrun, Result.andThen]
  exact hK w' r1 r2
theorem eight_one (a b c d e f : Int) (m l : ByteArray) : ∀ u ∈ ([.int .i64 a, .int .i64 b, .string m, .string l, .int .i64 c, .int .i64 d, .int .i64 e, .int .i64 f] : List Value), u.oneCell' = true := by
  intro u hu
  simp only [List.mem_cons, List.not_mem_nil, or_false] at hu
  rcases hu with rfl | rfl | rfl | rfl | rfl | rfl | rfl | rfl <;> rfl
theorem needs_bd {w : World} {base p bm most : Nat} {V : Value} {ns : List Nd} (ha : ArM w base p bm most V ns) {x : Ky} (hn : x.kd = 1 → 0 ≤ x.n ∧ x.n < 1152921504606846976) {r : Int} (hr : needs ns x = r) : 0 ≤ r ∧ r ≤ 1152921504606846976 := by
  subst hr
  unfold needs
  split
  · rename_i h
    have := hn h
    omega
  · exact lst_bd (fun id => (ha.okAt id).2) 3
def NumRet (base p bm most : Nat) (V : Value) (ns : List Nd) (x : Ky) (w : World) (e : Ending) (w' : World) : Prop :=
  ∃ V', e = .returned (.tuple #[.int .i64 ((numT most ns x).1 : Nat), .int .i64 (if (numT most ns x).1 = 0 then 24 else 0)]) ∧ ArM w' base p bm most V' (numT most ns x).2 ∧ Kp p bm V w V' w'

set_option maxRecDepth 100000 in
set_option maxHeartbeats 1000000 in
theorem number_is (w : World) (base p bm most : Nat) (V : Value) (ns : List Nd) (ha : ArM w base p bm most V ns) (x : Ky) (hx : OkK x) (hn : x.kd = 1 → 0 ≤ x.n ∧ x.n < 1152921504606846976) (hn2 : x.n < 9223372036854775807) (hbase : base ≤ w.heap.size) :
    Calls Tryd.prog 37 #[.pointer (some ⟨p, 0, none⟩), .agg (kc x)] w (NumRet base p bm most V ns x w) := by
  have HA := Lib.hid ha
  have HOK := Lib.hid hx
  have HN1 := Lib.hid hn
  have HN2 := Lib.hid hn2
  obtain ⟨k0, n0, m0, l0, a0, a1, a2⟩ := x
  dsimp only [kc]
  obtain ⟨i0, hi0, hz0, hz1, hz2⟩ := info_parts infoNd
  obtain ⟨A, cap, hV, hcap⟩ := ha.slice
  subst hV
  obtain ⟨len, hlen⟩ : ∃ n, ns.length = n := ⟨_, rfl⟩
  have HL := Lib.hid hlen
  have hroom := ha.room
  have hle := ha.le
  have hpl := ha.plt
  rw [hlen] at hle
  have hb := below_lit w (.cells #[.int .i64 k0, .int .i64 n0, .string m0, .string l0, .int .i64 (a0 : Nat), .int .i64 (a1 : Nat), .int .i64 (a2 : Nat)] 56)
  have hrw := heap_alloc_new w (.cells #[.int .i64 k0, .int .i64 n0, .string m0, .string l0, .int .i64 (a0 : Nat), .int .i64 (a1 : Nat), .int .i64 (a2 : Nat)] 56)
  have hsz : (w.alloc (.cells #[.int .i64 k0, .int .i64 n0, .string m0, .string l0, .int .i64 (a0 : Nat), .int .i64 (a1 : Nat), .int .i64 (a2 : Nat)] 56)).heap.size = w.heap.size + 1 := by simp
  have HB := Lib.hid hb
  have HRW := Lib.hid hrw
  have HZ := Lib.hid hsz
  have HAW := Lib.hid (ha.below hb)
  clear ha hx hn hn2 hb hrw hsz
  go_enter Tryd.func37, Tryd.ntmps37
  go_wp2_with fail
  generalize w.alloc (.cells #[.int .i64 k0, .int .i64 n0, .string m0, .string l0, .int .i64 (a0 : Nat), .int .i64 (a1 : Nat), .int .i64 (a2 : Nat)] 56) = W at *
  have hk : Hid (∀ W', Below W.heap.size W W' → W'.cell? ⟨w.heap.size, 0, none⟩ = some (.int .i64 k0) ∧ W'.cell? ⟨w.heap.size, 1, none⟩ = some (.int .i64 n0) ∧ W'.cell? ⟨w.heap.size, 2, none⟩ = some (.string m0) ∧ W'.cell? ⟨w.heap.size, 3, none⟩ = some (.string l0) ∧ W'.cell? ⟨w.heap.size, 4, none⟩ = some (.int .i64 (a0 : Nat)) ∧ W'.cell? ⟨w.heap.size, 5, none⟩ = some (.int .i64 (a1 : Nat)) ∧ W'.cell? ⟨w.heap.size, 6, none⟩ = some (.int .i64 (a2 : Nat)) ∧ W'.cell? ⟨p, 0, none⟩ = some (.int .i64 most) ∧ W'.cell? ⟨p, 1, none⟩ = some ((.slice A len cap)) ∧ W'.cell? ⟨p, 2, none⟩ = some (.map (some bm))) := fun W' h => by
    obtain ⟨c0, c1, c2, c3, c4, c5, c6⟩ := seven_cells ((h.block w.heap.size (by rw [HZ.out]; omega)).trans HRW.out)
    obtain ⟨p0, p1, p2⟩ := (HAW.out.below h).three
    rw [HL.out] at p1
    exact ⟨c0, c1, c2, c3, c4, c5, c6, p0, p1, p2⟩
  obtain ⟨c0, c1, c2, c3, c4, c5, c6, p0, p1, p2⟩ := hk.out W (Below.refl _ _)
  obtain ⟨D, hown, hmo⟩ := HAW.out.map
  have HOWN := Lib.hid hown
  have HMO := Lib.hid hmo
  have hlk := fun n => look_int (W := W.drewN n) (map_keep hown ((quietBelow W n).block bm hown.lt)) hmo HOK.out
  dsimp only [kc] at hlk
  clear hown hmo
  obtain ⟨q, hq⟩ : ∃ q, num ns (⟨k0, n0, m0, l0, a0, a1, a2⟩ : Ky) = q := ⟨_, rfl⟩
  have HQ := Lib.hid hq
  rw [hq] at hlk
  clear hq
  by_cases h0 : q = 0
  · subst h0
    have hlk2 : ∀ n, (Instr.lookup 48 (.map (some bm)) (.agg #[.int .i64 k0, .int .i64 n0, .string m0, .string l0, .int .i64 (a0 : Nat), .int .i64 (a1 : Nat), .int .i64 (a2 : Nat)]) true).run Tryd.prog (W.drewN n) = .ok (.tuple #[.int .i64 0, .bool false]) (W.drewN n) := hlk
    clear hlk
    go_quiet (fail)
    have HD1 := Lib.hid (quietBelow W nq)
    generalize W.drewN nq = W1 at *
    clear c0 c1 c2 c3 c4 c5 c6 p0 p1 p2 hlk2
    obtain ⟨c0, c1, c2, c3, c4, c5, c6, p0, p1, p2⟩ := hk.out W1 HD1.out
    go_wp2_with fail
    by_cases hfull : most ≤ len
    · have d1 : decide ((most : Int) ≤ (len : Int)) = true := by simp; exact hfull
      go_quiet (fail)
      have HD2 := Lib.hid (HD1.out.trans ((quietBelow W1 nq).mono HD1.out.size))
      generalize W1.drewN nq = W2 at *
      clear c0 c1 c2 c3 c4 c5 c6 p0 p1 p2
      go_wp2_with fail
      go_ret2
      have e9 : numT most ns (⟨k0, n0, m0, l0, a0, a1, a2⟩ : Ky) = (0, ns) := by
        unfold numT
        rw [if_neg (fun h => h HQ.out), if_pos (by rw [HL.out]; exact hfull)]
      unfold NumRet
      rw [e9]
      have hb := HB.out.trans (HD2.out.mono HB.out.size)
      exact ⟨_, rfl, HA.out.below hb, by rw [← HL.out] at *; exact Kp.of_below hb⟩
    · have d1 : decide ((most : Int) ≤ (len : Int)) = false := by simp; omega
      go_quiet (fail)
      have HD2 := Lib.hid (HD1.out.trans ((quietBelow W1 nq).mono HD1.out.size))
      generalize W1.drewN nq = W2 at *
      clear c0 c1 c2 c3 c4 c5 c6 p0 p1 p2
      obtain ⟨c0, c1, c2, c3, c4, c5, c6, p0, p1, p2⟩ := hk.out W2 HD2.out
      go_wp2_with fail
      have HSN := HOK.out.2.2.1
      dsimp only at HSN
      refine (clone_is m0 W2 (Nat.le_trans HSN (by decide))).mono ?_
      rintro e W3 ⟨rfl, hb⟩
      have HD3 := Lib.hid (HD2.out.trans (hb.mono HD2.out.size))
      clear hb c0 c1 c2 c3 c4 c5 c6 p0 p1 p2 HSN
      obtain ⟨c0, c1, c2, c3, c4, c5, c6, p0, p1, p2⟩ := hk.out W3 HD3.out
      have hrow3 := (HD3.out.block w.heap.size (by rw [HZ.out]; omega)).trans HRW.out
      have f2 := frozen0 (p := 2) hrow3
      have HR3 := Lib.hid hrow3
      clear hrow3
      go_wp2_with fail
      have hrow4 : (W3.setCell ⟨w.heap.size, 2, none⟩ (.string m0)).heap[w.heap.size]? = some (.cells #[.int .i64 k0, .int .i64 n0, .string m0, .string l0, .int .i64 (a0 : Nat), .int .i64 (a1 : Nat), .int .i64 (a2 : Nat)] 56 (0, 0)) := by
        have := HR3.out
        unfold World.setCell
        simp [Array.getElem?_modify, this]
      have HR4 := Lib.hid hrow4
      have hb4 : Below W.heap.size W (W3.setCell ⟨w.heap.size, 2, none⟩ (.string m0)) := by
        have h3 := HD3.out
        refine ⟨h3.os, h3.tape, h3.output, Nat.le_trans h3.size (Nat.le_of_eq (setCell_size _ _ _).symm), fun k hk => ?_⟩
        by_cases e : k = w.heap.size
        · rw [e]; exact hrow4.trans HRW.out.symm
        · exact (setCell_far _ _ _ _ e).trans (h3.block k hk)
      have HD4 := Lib.hid hb4
      clear hb4 hrow4 c0 c1 c2 c3 c4 c5 c6 p0 p1 p2 f2
      generalize W3.setCell ⟨w.heap.size, 2, none⟩ (.string m0) = W4 at *
      have HV : Hid (ArM W base p bm most (.slice A len cap) ns) := by
        have : ArM W base p bm most (.slice A len cap) ns := by rw [← HL.out]; exact HAW.out
        exact this
      have HA4 := Lib.hid (HV.out.below HD4.out)
      obtain ⟨r, hr⟩ : ∃ r, needs ns (⟨k0, n0, m0, l0, a0, a1, a2⟩ : Ky) = r := ⟨_, rfl⟩
      have HRN := Lib.hid hr
      clear hr
      have hk8 : Hid (∀ W', Below W4.heap.size W4 W' → W'.cell? ⟨w.heap.size, 0, none⟩ = some (.int .i64 k0) ∧ W'.cell? ⟨w.heap.size, 1, none⟩ = some (.int .i64 n0) ∧ W'.cell? ⟨w.heap.size, 2, none⟩ = some (.string m0) ∧ W'.cell? ⟨w.heap.size, 3, none⟩ = some (.string l0) ∧ W'.cell? ⟨w.heap.size, 4, none⟩ = some (.int .i64 (a0 : Nat)) ∧ W'.cell? ⟨w.heap.size, 5, none⟩ = some (.int .i64 (a1 : Nat)) ∧ W'.cell? ⟨w.heap.size, 6, none⟩ = some (.int .i64 (a2 : Nat)) ∧ W'.cell? ⟨p, 0, none⟩ = some (.int .i64 most) ∧ W'.cell? ⟨p, 1, none⟩ = some ((.slice A len cap)) ∧ W'.cell? ⟨p, 2, none⟩ = some (.map (some bm))) := fun W' h => hk.out W' (HD4.out.trans (h.mono HD4.out.size))
      obtain ⟨c0, c1, c2, c3, c4, c5, c6, p0, p1, p2⟩ := hk8.out W4.drew ((Below.refl _ _).drew)
      have hVk : some w.heap.size ≠ ((.slice A len cap) : Value).ownBlock := fun e => by
        have := (HA.out.vlt w.heap.size (by rw [HL.out]; exact e.symm)).2
        omega
      have hVp : some p ≠ ((.slice A len cap) : Value).ownBlock := fun e => HV.out.pv e.symm
      have hVm : some bm ≠ ((.slice A len cap) : Value).ownBlock := fun e => HV.out.mv e.symm
      have HVK := Lib.hid hVk
      have HVP := Lib.hid hVp
      have HVM := Lib.hid hVm
      have hlt4 : w.heap.size < W4.heap.size := Nat.lt_of_lt_of_le (by rw [HZ.out]; omega) HD4.out.size
      have HLT4 := Lib.hid hlt4
      have HPL := Lib.hid (Nat.lt_trans hpl hlt4)
      have hbo1 : len + 1 ≤ maxLen := by unfold maxLen; omega
      have hbo2 : (len + 1) * 80 ≤ 140737488355328 := by omega
      clear hVk hVp hVm hlt4 c0 c1 c2 c3 c4 c5 c6 p0 p1 p2
      refine region_E (S := fun W' => W'.cell? ⟨w.heap.size, 0, none⟩ = some (.int .i64 k0) ∧ W'.cell? ⟨w.heap.size, 1, none⟩ = some (.int .i64 n0) ∧ W'.cell? ⟨w.heap.size, 2, none⟩ = some (.string m0) ∧ W'.cell? ⟨w.heap.size, 3, none⟩ = some (.string l0) ∧ W'.cell? ⟨w.heap.size, 4, none⟩ = some (.int .i64 (a0 : Nat)) ∧ W'.cell? ⟨w.heap.size, 5, none⟩ = some (.int .i64 (a1 : Nat)) ∧ W'.cell? ⟨w.heap.size, 6, none⟩ = some (.int .i64 (a2 : Nat)) ∧ W'.cell? ⟨p, 0, none⟩ = some (.int .i64 most) ∧ W'.cell? ⟨p, 1, none⟩ = some ((.slice A len cap)) ∧ W'.cell? ⟨p, 2, none⟩ = some (.map (some bm))) 14 (by kernel_rfl) ?_
      refine (fun (hHeld : (fun W' : World => W'.cell? ⟨w.heap.size, 0, none⟩ = some (.int .i64 k0) ∧ W'.cell? ⟨w.heap.size, 1, none⟩ = some (.int .i64 n0) ∧ W'.cell? ⟨w.heap.size, 2, none⟩ = some (.string m0) ∧ W'.cell? ⟨w.heap.size, 3, none⟩ = some (.string l0) ∧ W'.cell? ⟨w.heap.size, 4, none⟩ = some (.int .i64 (a0 : Nat)) ∧ W'.cell? ⟨w.heap.size, 5, none⟩ = some (.int .i64 (a1 : Nat)) ∧ W'.cell? ⟨w.heap.size, 6, none⟩ = some (.int .i64 (a2 : Nat)) ∧ W'.cell? ⟨p, 0, none⟩ = some (.int .i64 most) ∧ W'.cell? ⟨p, 1, none⟩ = some ((.slice A len cap)) ∧ W'.cell? ⟨p, 2, none⟩ = some (.map (some bm))) _) => ?_) (hk8.out _ ((Below.refl _ _).drew))
      refine take_E (i := 0) (v := ?_) 13 [12, 0] rfl (by kernel_rfl) (by kernel_rfl) (by kernel_rfl) (by kernel_rfl) rfl (by decide) (by kernel_rfl) rfl (fun _ _ _ h => h) (by rfl) ?_ hHeld ?_
      rotate_left
      · intro w hSw
        (try dsimp only at hSw)
        go_simp
        try with_reducible rfl
      try simp only [Act.put, List.setIfInBounds_toArray, List.set_cons_zero, List.set_cons_succ]
      refine take_E (i := 1) (v := ?_) 11 [4, 3, 2, 1] rfl (by kernel_rfl) (by kernel_rfl) (by kernel_rfl) (by kernel_rfl) rfl (by decide) (by kernel_rfl) rfl (fun _ _ _ h => h) (by rfl) ?_ hHeld ?_
      rotate_left
      · intro w hSw
        (try dsimp only at hSw)
        go_simp
        try with_reducible rfl
      try simp only [Act.put, List.setIfInBounds_toArray, List.set_cons_zero, List.set_cons_succ]
      refine take_E (i := 2) (v := ?_) 11 [4, 3, 2] rfl (by kernel_rfl) (by kernel_rfl) (by kernel_rfl) (by kernel_rfl) rfl (by decide) (by kernel_rfl) rfl (fun _ _ _ h => h) (by rfl) ?_ hHeld ?_
      rotate_left
      · intro w hSw
        (try dsimp only at hSw)
        go_simp
        try with_reducible rfl
      try simp only [Act.put, List.setIfInBounds_toArray, List.set_cons_zero, List.set_cons_succ]
      refine take_E (i := 3) (v := ?_) 11 [4, 3] rfl (by kernel_rfl) (by kernel_rfl) (by kernel_rfl) (by kernel_rfl) rfl (by decide) (by kernel_rfl) rfl (fun _ _ _ h => h) (by rfl) ?_ hHeld ?_
      rotate_left
      · intro w hSw
        (try dsimp only at hSw)
        go_simp
        try with_reducible rfl
      try simp only [Act.put, List.setIfInBounds_toArray, List.set_cons_zero, List.set_cons_succ]
      refine take_E (i := 4) (v := ?_) 11 [4] rfl (by kernel_rfl) (by kernel_rfl) (by kernel_rfl) (by kernel_rfl) rfl (by decide) (by kernel_rfl) rfl (fun _ _ _ h => h) (by rfl) ?_ hHeld ?_
      rotate_left
      · intro w hSw
        (try dsimp only at hSw)
        go_simp
        try with_reducible rfl
      try simp only [Act.put, List.setIfInBounds_toArray, List.set_cons_zero, List.set_cons_succ]
      refine take_E (i := 5) (v := ?_) 11 [10, 9, 5] rfl (by kernel_rfl) (by kernel_rfl) (by kernel_rfl) (by kernel_rfl) rfl (by decide) (by kernel_rfl) rfl (fun _ _ _ h => h) (by rfl) ?_ hHeld ?_
      rotate_left
      · intro w hSw
        (try dsimp only at hSw)
        go_simp
        try with_reducible rfl
      try simp only [Act.put, List.setIfInBounds_toArray, List.set_cons_zero, List.set_cons_succ]
      refine take_E (i := 6) (v := ?_) 11 [10, 9, 8, 6] rfl (by kernel_rfl) (by kernel_rfl) (by kernel_rfl) (by kernel_rfl) rfl (by decide) (by kernel_rfl) rfl (fun _ _ _ h => h) (by rfl) ?_ hHeld ?_
      rotate_left
      · intro w hSw
        (try dsimp only at hSw)
        go_simp
        try with_reducible rfl
      try simp only [Act.put, List.setIfInBounds_toArray, List.set_cons_zero, List.set_cons_succ]
      refine take_E (i := 7) (v := ?_) 11 [10, 9, 8, 7] rfl (by kernel_rfl) (by kernel_rfl) (by kernel_rfl) (by kernel_rfl) rfl (by decide) (by kernel_rfl) rfl (fun _ _ _ h => h) (by rfl) ?_ hHeld ?_
      rotate_left
      · intro w hSw
        (try dsimp only at hSw)
        go_simp
        try with_reducible rfl
      try simp only [Act.put, List.setIfInBounds_toArray, List.set_cons_zero, List.set_cons_succ]
      refine only_E (i := 8) rfl (by kernel_rfl) (fun K hK => ?_)
      clear hHeld
      go_simp
      go_at_call 50
      refine (needs_is _ base p bm most _ ns (HA4.out.below (Below.refl _ _).drew) (⟨k0, n0, m0, l0, a0, a1, a2⟩ : Ky) HOK.out HN2.out r HRN.out).mono ?_
      rintro e w5 ⟨rfl, hb5⟩
      have HC5 := Lib.hid ((Below.refl W4.heap.size W4).drew.trans hb5)
      clear hb5

      try (go_wp2_with fail)
      refine (fun (hHeld : (fun W' : World => W'.cell? ⟨w.heap.size, 0, none⟩ = some (.int .i64 k0) ∧ W'.cell? ⟨w.heap.size, 1, none⟩ = some (.int .i64 n0) ∧ W'.cell? ⟨w.heap.size, 2, none⟩ = some (.string m0) ∧ W'.cell? ⟨w.heap.size, 3, none⟩ = some (.string l0) ∧ W'.cell? ⟨w.heap.size, 4, none⟩ = some (.int .i64 (a0 : Nat)) ∧ W'.cell? ⟨w.heap.size, 5, none⟩ = some (.int .i64 (a1 : Nat)) ∧ W'.cell? ⟨w.heap.size, 6, none⟩ = some (.int .i64 (a2 : Nat)) ∧ W'.cell? ⟨p, 0, none⟩ = some (.int .i64 most) ∧ W'.cell? ⟨p, 1, none⟩ = some ((.slice A len cap)) ∧ W'.cell? ⟨p, 2, none⟩ = some (.map (some bm))) _) => hK.out _ _ (fun _ => hHeld) ?_) (hk8.out w5 HC5.out)
      clear hK K
      try simp only [Act.put, List.setIfInBounds_toArray, List.set_cons_zero, List.set_cons_succ]
      refine only_E (i := 9) rfl (by kernel_rfl) (fun K hK => ?_)
      clear hHeld
      go_simp

      try (go_wp2_with fail)
      refine (fun (hHeld : (fun W' : World => W'.cell? ⟨w.heap.size, 0, none⟩ = some (.int .i64 k0) ∧ W'.cell? ⟨w.heap.size, 1, none⟩ = some (.int .i64 n0) ∧ W'.cell? ⟨w.heap.size, 2, none⟩ = some (.string m0) ∧ W'.cell? ⟨w.heap.size, 3, none⟩ = some (.string l0) ∧ W'.cell? ⟨w.heap.size, 4, none⟩ = some (.int .i64 (a0 : Nat)) ∧ W'.cell? ⟨w.heap.size, 5, none⟩ = some (.int .i64 (a1 : Nat)) ∧ W'.cell? ⟨w.heap.size, 6, none⟩ = some (.int .i64 (a2 : Nat)) ∧ W'.cell? ⟨p, 0, none⟩ = some (.int .i64 most) ∧ W'.cell? ⟨p, 1, none⟩ = some ((.slice A len cap)) ∧ W'.cell? ⟨p, 2, none⟩ = some (.map (some bm))) _) => hK.out _ _ (fun _ => hHeld) ?_) (hk8.out w5 HC5.out)
      clear hK K
      try simp only [Act.put, List.setIfInBounds_toArray, List.set_cons_zero, List.set_cons_succ]
      refine only_E (i := 10) rfl (by kernel_rfl) (fun K hK => ?_)
      clear hHeld
      go_simp

      try (go_wp2_with fail)
      refine (fun (hHeld : (fun W' : World => W'.cell? ⟨w.heap.size, 0, none⟩ = some (.int .i64 k0) ∧ W'.cell? ⟨w.heap.size, 1, none⟩ = some (.int .i64 n0) ∧ W'.cell? ⟨w.heap.size, 2, none⟩ = some (.string m0) ∧ W'.cell? ⟨w.heap.size, 3, none⟩ = some (.string l0) ∧ W'.cell? ⟨w.heap.size, 4, none⟩ = some (.int .i64 (a0 : Nat)) ∧ W'.cell? ⟨w.heap.size, 5, none⟩ = some (.int .i64 (a1 : Nat)) ∧ W'.cell? ⟨w.heap.size, 6, none⟩ = some (.int .i64 (a2 : Nat)) ∧ W'.cell? ⟨p, 0, none⟩ = some (.int .i64 most) ∧ W'.cell? ⟨p, 1, none⟩ = some ((.slice A len cap)) ∧ W'.cell? ⟨p, 2, none⟩ = some (.map (some bm))) _) => hK.out _ _ (fun _ => hHeld) ?_) (hk8.out _ (HC5.out.trans ((below_lit w5 (.cells #[.int .i64 k0, .int .i64 n0, .string m0, .string l0, .int .i64 (a0 : Nat), .int .i64 (a1 : Nat), .int .i64 (a2 : Nat), .int .i64 r] 58)).mono HC5.out.size)))
      clear hK K
      try simp only [Act.put, List.setIfInBounds_toArray, List.set_cons_zero, List.set_cons_succ]
      refine only_E (i := 11) rfl (by kernel_rfl) (fun K hK => ?_)
      clear hHeld
      have HB56 := Lib.hid (below_lit w5 (.cells #[.int .i64 k0, .int .i64 n0, .string m0, .string l0, .int .i64 (a0 : Nat), .int .i64 (a1 : Nat), .int .i64 (a2 : Nat), .int .i64 r] 58))
      have HC6 := Lib.hid (HC5.out.trans (HB56.out.mono HC5.out.size))
      have HA6 := Lib.hid (HA4.out.below HC6.out)
      have how := HA6.out.own
      rw [HL.out] at how
      refine step_append_lies _ rfl (.tmp 37) (.tmp 43) 49 rfl base 58 i0 (.agg #[.int .i64 0, .int .i64 0, .string ⟨#[]⟩, .string ⟨#[]⟩, .int .i64 0, .int .i64 0, .int .i64 0, .int .i64 0]) 8 80 Tryd.underlying49 hi0 hz0 hz1 hz2 rfl (by decide) (.slice A len cap) len (cells8 ns) (by simp [Act.eval]) how ⟨w5.heap.size, 0, none⟩ 1 1 [.int .i64 k0, .int .i64 n0, .string m0, .string l0, .int .i64 (a0 : Nat), .int .i64 (a1 : Nat), .int .i64 (a2 : Nat), .int .i64 r] (by simp [Act.eval]) rfl (World.news_of_block (heap_alloc_new w5 _)) (eight_one _ _ _ _ _ _ _ _) (by decide) hbo1 hbo2 (by have h1 := HC6.out.size; have h2 := HLT4.out; omega) (w5.heap.size + 1) (by simp) ?_
      intro g cap6 w6 hown6 hgrow6 hat6 hlt6
      have hkb6 := (hgrow6.block w.heap.size (Nat.lt_of_lt_of_le HLT4.out HC6.out.size) HVK.out).trans ((HC6.out.block w.heap.size HLT4.out).trans HR4.out)
      have hp6 := (hgrow6.block p (Nat.lt_of_lt_of_le HPL.out HC6.out.size) HVP.out).trans HA6.out.row
      have HKB := Lib.hid hkb6
      have HP6 := Lib.hid hp6
      have HOW := Lib.hid hown6
      have HGR := Lib.hid hgrow6
      have HAT := Lib.hid hat6
      have hS6 : w6.cell? ⟨w.heap.size, 0, none⟩ = some (.int .i64 k0) ∧ w6.cell? ⟨w.heap.size, 1, none⟩ = some (.int .i64 n0) ∧ w6.cell? ⟨w.heap.size, 2, none⟩ = some (.string m0) ∧ w6.cell? ⟨w.heap.size, 3, none⟩ = some (.string l0) ∧ w6.cell? ⟨w.heap.size, 4, none⟩ = some (.int .i64 (a0 : Nat)) ∧ w6.cell? ⟨w.heap.size, 5, none⟩ = some (.int .i64 (a1 : Nat)) ∧ w6.cell? ⟨w.heap.size, 6, none⟩ = some (.int .i64 (a2 : Nat)) ∧ w6.cell? ⟨p, 0, none⟩ = some (.int .i64 most) ∧ w6.cell? ⟨p, 1, none⟩ = some ((.slice A len cap)) ∧ w6.cell? ⟨p, 2, none⟩ = some (.map (some bm)) := by
        obtain ⟨c0, c1, c2, c3, c4, c5, c6⟩ := seven_cells hkb6
        exact ⟨c0, c1, c2, c3, c4, c5, c6, cell_of_row _ _ 0 _ _ (0, 0) hp6, cell_of_row _ _ 1 _ _ (0, 0) hp6, cell_of_row _ _ 2 _ _ (0, 0) hp6⟩
      clear hkb6 hp6 hown6 hgrow6 hat6 how

      refine (fun (hHeld : (fun W' : World => W'.cell? ⟨w.heap.size, 0, none⟩ = some (.int .i64 k0) ∧ W'.cell? ⟨w.heap.size, 1, none⟩ = some (.int .i64 n0) ∧ W'.cell? ⟨w.heap.size, 2, none⟩ = some (.string m0) ∧ W'.cell? ⟨w.heap.size, 3, none⟩ = some (.string l0) ∧ W'.cell? ⟨w.heap.size, 4, none⟩ = some (.int .i64 (a0 : Nat)) ∧ W'.cell? ⟨w.heap.size, 5, none⟩ = some (.int .i64 (a1 : Nat)) ∧ W'.cell? ⟨w.heap.size, 6, none⟩ = some (.int .i64 (a2 : Nat)) ∧ W'.cell? ⟨p, 0, none⟩ = some (.int .i64 most) ∧ W'.cell? ⟨p, 1, none⟩ = some ((.slice A len cap)) ∧ W'.cell? ⟨p, 2, none⟩ = some (.map (some bm))) _) => hK.out _ _ (fun _ => hHeld) ?_) (hS6)
      clear hK K
      try simp only [Act.put, List.setIfInBounds_toArray, List.set_cons_zero, List.set_cons_succ]
      refine only_E (i := 12) rfl (by kernel_rfl) (fun K hK => ?_)
      clear hHeld
      go_simp

      try (go_wp2_with fail)
      refine (fun (hHeld : (fun W' : World => W'.cell? ⟨w.heap.size, 0, none⟩ = some (.int .i64 k0) ∧ W'.cell? ⟨w.heap.size, 1, none⟩ = some (.int .i64 n0) ∧ W'.cell? ⟨w.heap.size, 2, none⟩ = some (.string m0) ∧ W'.cell? ⟨w.heap.size, 3, none⟩ = some (.string l0) ∧ W'.cell? ⟨w.heap.size, 4, none⟩ = some (.int .i64 (a0 : Nat)) ∧ W'.cell? ⟨w.heap.size, 5, none⟩ = some (.int .i64 (a1 : Nat)) ∧ W'.cell? ⟨w.heap.size, 6, none⟩ = some (.int .i64 (a2 : Nat)) ∧ W'.cell? ⟨p, 0, none⟩ = some (.int .i64 most) ∧ W'.cell? ⟨p, 1, none⟩ = some ((.slice A len cap)) ∧ W'.cell? ⟨p, 2, none⟩ = some (.map (some bm))) _) => hK.out _ _ (fun _ => hHeld) ?_) (hS6)
      clear hK K
      try simp only [Act.put, List.setIfInBounds_toArray, List.set_cons_zero, List.set_cons_succ]
      refine only_E (i := 13) rfl (by kernel_rfl) (fun K hK => ?_)
      clear hHeld
      go_simp

      try (go_wp2_with fail)
      refine (fun (hHeld : (fun W' : World => W'.cell? ⟨w.heap.size, 0, none⟩ = some (.int .i64 k0) ∧ W'.cell? ⟨w.heap.size, 1, none⟩ = some (.int .i64 n0) ∧ W'.cell? ⟨w.heap.size, 2, none⟩ = some (.string m0) ∧ W'.cell? ⟨w.heap.size, 3, none⟩ = some (.string l0) ∧ W'.cell? ⟨w.heap.size, 4, none⟩ = some (.int .i64 (a0 : Nat)) ∧ W'.cell? ⟨w.heap.size, 5, none⟩ = some (.int .i64 (a1 : Nat)) ∧ W'.cell? ⟨w.heap.size, 6, none⟩ = some (.int .i64 (a2 : Nat)) ∧ W'.cell? ⟨p, 0, none⟩ = some (.int .i64 most) ∧ W'.cell? ⟨p, 1, none⟩ = some ((.slice A len cap)) ∧ W'.cell? ⟨p, 2, none⟩ = some (.map (some bm))) _) => hK.out _ _ (fun _ => hHeld) ?_) (hS6)
      clear hK K
      try simp only [Act.put, List.setIfInBounds_toArray, List.set_cons_zero, List.set_cons_succ]
      refine only_E (i := 14) rfl (by kernel_rfl) (fun K hK => ?_)
      clear hHeld
      obtain ⟨c0, c1, c2, c3, c4, c5, c6, p0, p1, p2⟩ := hS6
      have f1 := frozen0 (p := 1) HP6.out
      go_simp

      refine hK.out _ _ (fun h => by cases h) ?_
      clear hK K c0 c1 c2 c3 c4 c5 c6 p0 p1 p2 f1
      try simp only [Act.put, List.setIfInBounds_toArray, List.set_cons_zero, List.set_cons_succ]
      refine done_E (by kernel_rfl) ?_ _
      have hsz56 : (w5.alloc (.cells #[.int .i64 k0, .int .i64 n0, .string m0, .string l0, .int .i64 (a0 : Nat), .int .i64 (a1 : Nat), .int .i64 (a2 : Nat), .int .i64 r] 58)).heap.size = w5.heap.size + 1 := by simp
      have hgp : g ≠ p := fun e => by
        rcases HAT.out with h | h
        · exact HVP.out (by rw [← e]; exact h.symm)
        · have h1 := HPL.out
          have h2 := HC5.out.size
          omega
      have HKP : Hid (Kp p bm (.slice A len cap) w (.slice (some ⟨g, 0, none⟩) (len + 1) cap6) (w6.setCell ⟨p, 1, none⟩ (.slice (some ⟨g, 0, none⟩) (len + 1) cap6))) := by
        have hm : ((.slice A len cap) : Value).ownBlock = some g ∨ (w5.alloc (.cells #[.int .i64 k0, .int .i64 n0, .string m0, .string l0, .int .i64 (a0 : Nat), .int .i64 (a1 : Nat), .int .i64 (a2 : Nat), .int .i64 r] 58)).heap.size ≤ g := by
          rcases HAT.out with h | h
          · exact .inl h
          · exact .inr (by rw [hsz56, h]; exact Nat.le_refl _)
        have : Kp p bm (.slice A len cap) w (.slice (some ⟨g, 0, none⟩) (len + 1) cap6) (w6.setCell ⟨p, 1, none⟩ (.slice (some ⟨g, 0, none⟩) (len + 1) cap6)) := (Kp.of_below (HB.out.trans ((HD4.out.trans (HC6.out.mono HD4.out.size)).mono HB.out.size))).trans ((kp_grown HGR.out hm).trans (kp_set w6 1 _))
        exact this
      have HOW9 := Lib.hid (own_keep (w' := w6.setCell ⟨p, 1, none⟩ (.slice (some ⟨g, 0, none⟩) (len + 1) cap6)) HOW.out fun g' hg => by
        have e : g = g' := by simpa [Value.ownBlock] using hg
        subst e
        exact setCell_far _ _ _ _ hgp)
      have HP9 : Hid ((w6.setCell ⟨p, 1, none⟩ (.slice (some ⟨g, 0, none⟩) (len + 1) cap6)).heap[p]? = some (.cells #[.int .i64 most, (.slice (some ⟨g, 0, none⟩) (len + 1) cap6), .map (some bm)] 51 (0, 0))) := by
        have : (w6.setCell ⟨p, 1, none⟩ (.slice (some ⟨g, 0, none⟩) (len + 1) cap6)).heap[p]? = some (.cells #[.int .i64 most, (.slice (some ⟨g, 0, none⟩) (len + 1) cap6), .map (some bm)] 51 (0, 0)) := by
          have h6 := HP6.out
          unfold World.setCell
          simp [Array.getElem?_modify, h6]
        exact this
      have hkp : w.heap.size ≠ p := by have := hpl; omega
      have HKB9 := Lib.hid ((setCell_far w6 ⟨p, 1, none⟩ (.slice (some ⟨g, 0, none⟩) (len + 1) cap6) w.heap.size hkp).trans HKB.out)
      have HMP : Hid (∃ D, (w6.setCell ⟨p, 1, none⟩ (.slice (some ⟨g, 0, none⟩) (len + 1) cap6)).ownsMap Tryd.prog 56 (plainElem Tryd.prog 3) bm len D ∧ MapOk D ns) := by
        have : ∃ D, (w6.setCell ⟨p, 1, none⟩ (.slice (some ⟨g, 0, none⟩) (len + 1) cap6)).ownsMap Tryd.prog 56 (plainElem Tryd.prog 3) bm len D ∧ MapOk D ns := by
          obtain ⟨D, h1, h2⟩ := HA6.out.map
          rw [HL.out] at h1
          exact ⟨D, map_keep h1 ((setCell_far _ _ _ _ HV.out.pm.symm).trans (HGR.out.block bm h1.lt HVM.out)), h2⟩
        exact this
      generalize w6.setCell ⟨p, 1, none⟩ (.slice (some ⟨g, 0, none⟩) (len + 1) cap6) = W9 at *
      have hp9 : p < W9.heap.size := (Array.getElem?_eq_some_iff.1 HP9.out).1
      have HL9 := Lib.hid hp9
      clear hp9 hkp hgp hsz56
      have hk9 : Hid (∀ W', Below W9.heap.size W9 W' → W'.cell? ⟨w.heap.size, 0, none⟩ = some (.int .i64 k0) ∧ W'.cell? ⟨w.heap.size, 1, none⟩ = some (.int .i64 n0) ∧ W'.cell? ⟨w.heap.size, 2, none⟩ = some (.string m0) ∧ W'.cell? ⟨w.heap.size, 3, none⟩ = some (.string l0) ∧ W'.cell? ⟨w.heap.size, 4, none⟩ = some (.int .i64 (a0 : Nat)) ∧ W'.cell? ⟨w.heap.size, 5, none⟩ = some (.int .i64 (a1 : Nat)) ∧ W'.cell? ⟨w.heap.size, 6, none⟩ = some (.int .i64 (a2 : Nat)) ∧ W'.cell? ⟨p, 0, none⟩ = some (.int .i64 most) ∧ W'.cell? ⟨p, 1, none⟩ = some ((.slice (some ⟨g, 0, none⟩) (len + 1) cap6)) ∧ W'.cell? ⟨p, 2, none⟩ = some (.map (some bm))) := fun W' h => by
        obtain ⟨c0, c1, c2, c3, c4, c5, c6⟩ := seven_cells ((h.block w.heap.size (Array.getElem?_eq_some_iff.1 HKB9.out).1).trans HKB9.out)
        have hp := (h.block p HL9.out).trans HP9.out
        exact ⟨c0, c1, c2, c3, c4, c5, c6, cell_of_row _ _ 0 _ _ (0, 0) hp, cell_of_row _ _ 1 _ _ (0, 0) hp, cell_of_row _ _ 2 _ _ (0, 0) hp⟩
      go_wp2_with fail
      refine region_E (S := fun W' => W'.cell? ⟨w.heap.size, 0, none⟩ = some (.int .i64 k0) ∧ W'.cell? ⟨w.heap.size, 1, none⟩ = some (.int .i64 n0) ∧ W'.cell? ⟨w.heap.size, 2, none⟩ = some (.string m0) ∧ W'.cell? ⟨w.heap.size, 3, none⟩ = some (.string l0) ∧ W'.cell? ⟨w.heap.size, 4, none⟩ = some (.int .i64 (a0 : Nat)) ∧ W'.cell? ⟨w.heap.size, 5, none⟩ = some (.int .i64 (a1 : Nat)) ∧ W'.cell? ⟨w.heap.size, 6, none⟩ = some (.int .i64 (a2 : Nat)) ∧ W'.cell? ⟨p, 0, none⟩ = some (.int .i64 most) ∧ W'.cell? ⟨p, 1, none⟩ = some ((.slice (some ⟨g, 0, none⟩) (len + 1) cap6)) ∧ W'.cell? ⟨p, 2, none⟩ = some (.map (some bm))) 10 (by kernel_rfl) ?_
      refine (fun (hHeld : (fun W' : World => W'.cell? ⟨w.heap.size, 0, none⟩ = some (.int .i64 k0) ∧ W'.cell? ⟨w.heap.size, 1, none⟩ = some (.int .i64 n0) ∧ W'.cell? ⟨w.heap.size, 2, none⟩ = some (.string m0) ∧ W'.cell? ⟨w.heap.size, 3, none⟩ = some (.string l0) ∧ W'.cell? ⟨w.heap.size, 4, none⟩ = some (.int .i64 (a0 : Nat)) ∧ W'.cell? ⟨w.heap.size, 5, none⟩ = some (.int .i64 (a1 : Nat)) ∧ W'.cell? ⟨w.heap.size, 6, none⟩ = some (.int .i64 (a2 : Nat)) ∧ W'.cell? ⟨p, 0, none⟩ = some (.int .i64 most) ∧ W'.cell? ⟨p, 1, none⟩ = some ((.slice (some ⟨g, 0, none⟩) (len + 1) cap6)) ∧ W'.cell? ⟨p, 2, none⟩ = some (.map (some bm))) _) => ?_) (hk9.out _ ((Below.refl _ _).drew))
      refine take_E (i := 0) (v := ?_) 3 [2, 1, 0] rfl (by kernel_rfl) (by kernel_rfl) (by kernel_rfl) (by kernel_rfl) rfl (by decide) (by kernel_rfl) rfl (fun _ _ _ h => h) (by rfl) ?_ hHeld ?_
      rotate_left
      · intro w hSw
        (try dsimp only at hSw)
        go_simp
        try with_reducible rfl
      try simp only [Act.put, List.setIfInBounds_toArray, List.set_cons_zero, List.set_cons_succ]
      refine take_E (i := 1) (v := ?_) 3 [2, 1] rfl (by kernel_rfl) (by kernel_rfl) (by kernel_rfl) (by kernel_rfl) rfl (by decide) (by kernel_rfl) rfl (fun _ _ _ h => h) (by rfl) ?_ hHeld ?_
      rotate_left
      · intro w hSw
        (try dsimp only at hSw)
        go_simp
        try with_reducible rfl
      try simp only [Act.put, List.setIfInBounds_toArray, List.set_cons_zero, List.set_cons_succ]
      refine take_E (i := 2) (v := ?_) 3 [2] rfl (by kernel_rfl) (by kernel_rfl) (by kernel_rfl) (by kernel_rfl) rfl (by decide) (by kernel_rfl) rfl (fun _ _ _ h => h) (by rfl) ?_ hHeld ?_
      rotate_left
      · intro w hSw
        (try dsimp only at hSw)
        go_simp
        try with_reducible rfl
      try simp only [Act.put, List.setIfInBounds_toArray, List.set_cons_zero, List.set_cons_succ]
      refine take_E (i := 3) (v := ?_) 3 [] rfl (by kernel_rfl) (by kernel_rfl) (by kernel_rfl) (by kernel_rfl) rfl (by decide) (by kernel_rfl) rfl (fun _ _ _ h => h) (by rfl) ?_ hHeld ?_
      rotate_left
      · intro w hSw
        (try dsimp only at hSw)
        go_simp
        try with_reducible rfl
      try simp only [Act.put, List.setIfInBounds_toArray, List.set_cons_zero, List.set_cons_succ]
      refine take_E (i := 4) (v := ?_) 4 [] rfl (by kernel_rfl) (by kernel_rfl) (by kernel_rfl) (by kernel_rfl) rfl (by decide) (by kernel_rfl) rfl (fun _ _ _ h => h) (by rfl) ?_ hHeld ?_
      rotate_left
      · intro w hSw
        (try dsimp only at hSw)
        go_simp
        try with_reducible rfl
      try simp only [Act.put, List.setIfInBounds_toArray, List.set_cons_zero, List.set_cons_succ]
      refine take_E (i := 5) (v := ?_) 9 [8, 7, 6, 5] rfl (by kernel_rfl) (by kernel_rfl) (by kernel_rfl) (by kernel_rfl) rfl (by decide) (by kernel_rfl) rfl (fun _ _ _ h => h) (by rfl) ?_ hHeld ?_
      rotate_left
      · intro w hSw
        (try dsimp only at hSw)
        go_simp
        try with_reducible rfl
      try simp only [Act.put, List.setIfInBounds_toArray, List.set_cons_zero, List.set_cons_succ]
      refine take_E (i := 6) (v := ?_) 9 [8, 7, 6] rfl (by kernel_rfl) (by kernel_rfl) (by kernel_rfl) (by kernel_rfl) rfl (by decide) (by kernel_rfl) rfl (fun _ _ _ h => h) (by rfl) ?_ hHeld ?_
      rotate_left
      · intro w hSw
        (try dsimp only at hSw)
        go_simp
        try with_reducible rfl
      try simp only [Act.put, List.setIfInBounds_toArray, List.set_cons_zero, List.set_cons_succ]
      refine take_E (i := 7) (v := ?_) 9 [8, 7] rfl (by kernel_rfl) (by kernel_rfl) (by kernel_rfl) (by kernel_rfl) rfl (by decide) (by kernel_rfl) rfl (fun _ _ _ h => h) (by rfl) ?_ hHeld ?_
      rotate_left
      · intro w hSw
        (try dsimp only at hSw)
        go_simp
        try with_reducible rfl
      try simp only [Act.put, List.setIfInBounds_toArray, List.set_cons_zero, List.set_cons_succ]
      refine take_E (i := 8) (v := ?_) 9 [8] rfl (by kernel_rfl) (by kernel_rfl) (by kernel_rfl) (by kernel_rfl) rfl (by decide) (by kernel_rfl) rfl (fun _ _ _ h => h) (by rfl) ?_ hHeld ?_
      rotate_left
      · intro w hSw
        (try dsimp only at hSw)
        go_simp
        try with_reducible rfl
      try simp only [Act.put, List.setIfInBounds_toArray, List.set_cons_zero, List.set_cons_succ]
      refine take_E (i := 9) (v := ?_) 9 [] rfl (by kernel_rfl) (by kernel_rfl) (by kernel_rfl) (by kernel_rfl) rfl (by decide) (by kernel_rfl) rfl (fun _ _ _ h => h) (by rfl) ?_ hHeld ?_
      rotate_left
      · intro w hSw
        (try dsimp only at hSw)
        go_simp
        try with_reducible rfl
      try simp only [Act.put, List.setIfInBounds_toArray, List.set_cons_zero, List.set_cons_succ]
      refine only_E (i := 10) rfl (by kernel_rfl) (fun K hK => ?_)
      clear hHeld
      obtain ⟨D, hown9, hmo9⟩ := HMP.out
      refine step_map_put rfl (.tmp 50) (.tmp 51) (.tmp 56) 48 rfl 56 3 keyLawK Tryd.underlying48 (plainElem Tryd.prog 3) bm len D (by simp [Act.eval]) (map_keep hown9 rfl) (by unfold maxLen; omega) (.agg #[.int .i64 k0, .int .i64 n0, .string m0, .string l0, .int .i64 (a0 : Nat), .int .i64 (a1 : Nat), .int .i64 (a2 : Nat)]) (.int .i64 ((len : Int) + 1)) (kl (⟨k0, n0, m0, l0, a0, a1, a2⟩ : Ky)) (by simp [Act.eval]) (by simp [Act.eval]) (kl_is HOK.out) (.lit (.int .i64 ((len : Int) + 1))) [] (plainElem_int Tryd.underlying3 (WalkArith.wf_i64 (by omega))) ?_
      intro w10 hown10 hgrow10
      have hp10 : w10.heap[p]? = some (.cells #[.int .i64 most, (.slice (some ⟨g, 0, none⟩) (len + 1) cap6), .map (some bm)] 51 (0, 0)) := (hgrow10.block p HL9.out (fun e => HV.out.pm (by cases e; rfl))).trans HP9.out
      have HP10 := Lib.hid hp10
      have HOW10 := Lib.hid (own_keep (w' := w10) HOW9.out fun g' hg => by
        have e : g = g' := by simpa [Value.ownBlock] using hg
        subst e
        have hgl := own_lt HOW9.out g rfl
        exact hgrow10.block g hgl.2 (fun e => by
          cases e
          obtain ⟨es, clock, h1, _⟩ := hown9
          rcases HOW9.out.2 with ⟨h, _⟩ | ⟨g2, _, cur, h, _, h2, _⟩
          · cases h
          · cases h
            rw [h1] at h2
            cases h2))
      have hmk := hmo9.snoc (d := ⟨(⟨k0, n0, m0, l0, a0, a1, a2⟩ : Ky), r⟩) HOK.out HQ.out
      rw [HL.out] at hmk
      have HMK := Lib.hid hmk
      have HOM := Lib.hid hown10
      have HKP10 := Lib.hid (HKP.out.trans ((Kp.of_below (Below.refl _ _).drew).trans (kp_map hgrow10)))
      obtain ⟨p0, p1, p2⟩ : w10.cell? ⟨p, 0, none⟩ = some (.int .i64 most) ∧ w10.cell? ⟨p, 1, none⟩ = some (.slice (some ⟨g, 0, none⟩) (len + 1) cap6) ∧ w10.cell? ⟨p, 2, none⟩ = some (.map (some bm)) := ⟨cell_of_row _ _ 0 _ _ (0, 0) hp10, cell_of_row _ _ 1 _ _ (0, 0) hp10, cell_of_row _ _ 2 _ _ (0, 0) hp10⟩
      clear hown9 hmo9 hown10 hgrow10 hp10 hmk

      refine hK.out _ _ (fun h => by cases h) ?_
      clear hK K
      refine done_E (by kernel_rfl) ?_ _
      go_wp2_with fail
      go_ret2
      have e9 : numT most ns (⟨k0, n0, m0, l0, a0, a1, a2⟩ : Ky) = (len + 1, ns ++ [⟨(⟨k0, n0, m0, l0, a0, a1, a2⟩ : Ky), r⟩]) := by
        unfold numT
        rw [if_neg (fun h => h HQ.out), if_neg (by rw [HL.out]; exact hfull), HRN.out, HL.out]
      unfold NumRet
      rw [e9]
      simp only
      rw [if_neg (Nat.succ_ne_zero _)]
      exact ⟨_, rfl, arM_put HA6.out (by rw [HL.out]; omega) ⟨HOK.out, needs_bd HA6.out HN1.out HRN.out⟩ HP10.out (by rw [HL.out]; exact HOW10.out) ⟨_, by rw [HL.out]; exact HOM.out, HMK.out⟩, HKP10.out⟩
  · have hlk2 : ∀ n, (Instr.lookup 48 (.map (some bm)) (.agg #[.int .i64 k0, .int .i64 n0, .string m0, .string l0, .int .i64 (a0 : Nat), .int .i64 (a1 : Nat), .int .i64 (a2 : Nat)]) true).run Tryd.prog (W.drewN n) = .ok (.tuple #[.int .i64 (q : Nat), .bool true]) (W.drewN n) := fun n => by rw [hlk n]; simp [h0]
    clear hlk
    go_quiet (fail)
    have HD1 := Lib.hid (quietBelow W nq)
    generalize W.drewN nq = W1 at *
    clear c0 c1 c2 c3 c4 c5 c6 p0 p1 p2 hlk2
    go_wp2_with fail
    go_ret2
    have e9 : numT most ns (⟨k0, n0, m0, l0, a0, a1, a2⟩ : Ky) = (q, ns) := by
      unfold numT
      rw [HQ.out, if_pos h0]
    unfold NumRet
    rw [e9]
    simp only
    rw [if_neg h0]
    have hb := HB.out.trans (HD1.out.mono HB.out.size)
    exact ⟨_, rfl, HA.out.below hb, by rw [← HL.out] at *; exact Kp.of_below hb⟩
end Arn
end Go.Proofs.YtlijdgamobpndaaDoor
