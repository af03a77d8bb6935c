import Derived.Test.YtlijdgamobpndaaDoorJ02
/-
  Plain facts about arenas: what is held keeps its number; a term greater than all that is held gets the last number; from it all that is new is reached.
  Conditions: none.
-/
namespace Go.Proofs.YtlijdgamobpndaaDoor
open Lvl
open Trm
namespace Arn
mutual
theorem holdT_held {C : Tm → Prop} {ns : List Nd} (hi : Inv C ns) (most : Nat) : ∀ (t : Tm) (id : Nat), Holds ns t id → holdT most t ns = (id, ns)
  | .mk k n nm ls ts, id, h => by
    rw [Holds] at h
    obtain ⟨h1, h2, h3, d, ids, h4, h5, h6, h7⟩ := h
    rw [holdT, holdL_held hi most ts ids h6]
    simp only
    have := hi.once _ d h4
    rw [h5] at this
    unfold numT
    rw [this, if_pos (by omega), show id - 1 + 1 = id by omega]
theorem holdL_held {C : Tm → Prop} {ns : List Nd} (hi : Inv C ns) (most : Nat) : ∀ (ts : List Tm) (ids : List Nat), HoldsL ns ts ids → holdL most ts ns = (some ids, ns)
  | [], [], _ => by rw [holdL]
  | t :: ts, i :: is, h => by
    rw [HoldsL] at h
    have hp := (holds_pos h.1).1
    rw [holdL, holdT_held hi most t i h.1]
    cases i with
    | zero => omega
    | succ i => simp only; rw [holdL_held hi most ts is h.2]
  | [], _ :: _, h => by simp [HoldsL] at h
  | _ :: _, [], h => by simp [HoldsL] at h
end
/-- A key that is held is that of its term. -/
theorem num_holds {C : Tm → Prop} {ns : List Nd} (h1 : Inv C ns) {k n : Int} {nm : ByteArray} {ls : List Lv} {ts : List Tm} {ids : List Nat} (hL : HoldsL ns ts ids) (hs : smL ls) (h3 : ts.length ≤ 3) (h0 : num ns (keyOf k n nm ls ids) ≠ 0) : Holds ns (.mk k n nm ls ts) (num ns (keyOf k n nm ls ids)) ∧ C (.mk k n nm ls ts) := by
  obtain ⟨d, g1, g2⟩ := num_get rfl h0
  have hle := num_le rfl h0
  obtain ⟨u, g3, g4⟩ := h1.each (num ns (keyOf k n nm ls ids) - 1) (by omega)
  rw [show num ns (keyOf k n nm ls ids) - 1 + 1 = num ns (keyOf k n nm ls ids) by omega] at g3
  have g3' := g3
  cases u with
  | mk k' n' nm' ls' ts' =>
  rw [Holds] at g3
  obtain ⟨a1, a2, a3, d', ids', a4, a5, a6, a7⟩ := g3
  rw [g1] at a4
  cases a4
  rw [g2] at a5
  obtain ⟨e1, e2, e3, e4, e5⟩ := keyOf_ids a5 (holdsL_pos hL) (holdsL_pos a6) (by rw [← holdsL_len hL]; exact h3) (by rw [← holdsL_len a6]; exact a3)
  subst e5
  have e6 := lvB_inj hs a2 e4
  have e7 := holdsL_one ts ts' ids hL a6
  subst e1 e2 e3 e6 e7
  exact ⟨g3', g4⟩
theorem tnodes_arg {k n : Int} {nm : ByteArray} {ls : List Lv} {ts : List Tm} {a : Tm} (h : a ∈ ts) : tnodes a < tnodes (.mk k n nm ls ts) := by
  rw [tnodes]
  have : ∀ {l : List Tm}, a ∈ l → tnodes a ≤ tnodesL l := by
    intro l
    induction l with
    | nil => intro h; cases h
    | cons b l ih =>
      intro h
      rw [tnodesL]
      rcases List.mem_cons.1 h with rfl | h
      · omega
      · have := ih h
        omega
  have := this h
  omega
theorem downs_lt {C : Tm → Prop} (hC : Downs C) (N : Nat) : Downs (fun u => C u ∧ tnodes u < N) := fun k n nm ls ts h => by
  obtain ⟨h1, h2, h3⟩ := hC _ _ _ _ _ h.1
  exact ⟨h1, h2, fun a ha => ⟨h3 a ha, Nat.lt_trans (tnodes_arg ha) h.2⟩⟩
/-- A term that is greater than all that is held gets the last number. -/
theorem holdT_last {C : Tm → Prop} (hC : Downs C) (most : Nat) (t : Tm) (ns : List Nd) (hc : C t) (hi : Inv (fun u => C u ∧ tnodes u < tnodes t) ns) (h0 : (holdT most t ns).1 ≠ 0) : (holdT most t ns).1 = (holdT most t ns).2.length ∧ Inv (fun u => C u ∧ tnodes u ≤ tnodes t) (holdT most t ns).2 := by
  have hall := holdT_is (C := fun u => C u ∧ tnodes u ≤ tnodes t) (fun k n nm ls ts h => by
    obtain ⟨h1, h2, h3⟩ := hC _ _ _ _ _ h.1
    exact ⟨h1, h2, fun a ha => ⟨h3 a ha, Nat.le_trans (Nat.le_of_lt (tnodes_arg ha)) h.2⟩⟩) most t ns ⟨hc, Nat.le_refl _⟩ (hi.weak fun u h => ⟨h.1, Nat.le_of_lt h.2⟩)
  refine ⟨?_, hall.1.inv⟩
  cases t with
  | mk k n nm ls ts =>
  obtain ⟨hs, h3, hts⟩ := hC _ _ _ _ _ hc
  have hL := holdL_is (downs_lt hC (tnodes (.mk k n nm ls ts))) most ts ns (fun a ha => ⟨hts a ha, tnodes_arg ha⟩) hi
  rw [holdT] at h0 ⊢
  generalize hq : holdL most ts ns = q at *
  obtain ⟨_ | ids, ns'⟩ := q
  · exact absurd rfl h0
  · simp only at h0 hL ⊢
    have hk : num ns' (keyOf k n nm ls ids) = 0 := by
      by_cases hk : num ns' (keyOf k n nm ls ids) = 0
      · exact hk
      · exfalso
        have := (num_holds hL.1.inv (hL.2.1 ids rfl) hs h3 hk).2.2
        omega
    unfold numT at h0 ⊢
    rw [if_neg (fun h => h hk)] at h0 ⊢
    split
    · rename_i hr
      rw [if_pos hr] at h0
      exact absurd rfl h0
    · simp
/-- A set of numbers that holds the arguments of what it holds. -/
def Closed (ns : List Nd) (S : Nat → Prop) : Prop := ∀ id d, 1 ≤ id → ns[id - 1]? = some d → S id → (d.key.a0 ≠ 0 → S d.key.a0) ∧ (d.key.a1 ≠ 0 → S d.key.a1) ∧ (d.key.a2 ≠ 0 → S d.key.a2)
theorem Closed.pre {ns m : List Nd} {S : Nat → Prop} (h : Closed (ns ++ m) S) : Closed ns S := fun id d h1 h2 h3 =>
  h id d h1 (by rw [List.getElem?_append_left (List.getElem?_eq_some_iff.1 h2).1]; exact h2) h3
theorem Closed.ids {ns : List Nd} {S : Nat → Prop} (h : Closed ns S) {id : Nat} {d : Nd} {k n : Int} {nm : ByteArray} {ls : List Lv} {ids : List Nat} (h1 : 1 ≤ id) (h2 : ns[id - 1]? = some d) (h3 : d.key = keyOf k n nm ls ids) (hS : S id) (hp : ∀ i ∈ ids, 1 ≤ i) (hl : ids.length ≤ 3) : ∀ i ∈ ids, S i := by
  obtain ⟨g0, g1, g2⟩ := h id d h1 h2 hS
  rw [h3] at g0 g1 g2
  unfold keyOf at g0 g1 g2
  match ids, hl with
  | [], _ => intro i hi; cases hi
  | [x], _ =>
    intro i hi
    obtain rfl : i = x := by simpa using hi
    have := hp i (by simp)
    exact g0 (by simp; omega)
  | [x, y], _ =>
    intro i hi
    have hx := hp x (by simp)
    have hy := hp y (by simp)
    rcases List.mem_cons.1 hi with rfl | hi
    · exact g0 (by simp; omega)
    · obtain rfl : i = y := by simpa using hi
      exact g1 (by simp; omega)
  | [x, y, z], _ =>
    intro i hi
    have hx := hp x (by simp)
    have hy := hp y (by simp)
    have hz := hp z (by simp)
    rcases List.mem_cons.1 hi with rfl | hi
    · exact g0 (by simp; omega)
    · rcases List.mem_cons.1 hi with rfl | hi
      · exact g1 (by simp; omega)
      · obtain rfl : i = z := by simpa using hi
        exact g2 (by simp; omega)
  | _ :: _ :: _ :: _ :: _, h => simp at h
mutual
/-- From a term's number all that is new is reached. -/
theorem holdT_reach {C : Tm → Prop} (hC : Downs C) (most : Nat) : ∀ (t : Tm) (ns : List Nd), C t → Inv C ns → (holdT most t ns).1 ≠ 0 → ∀ S, Closed (holdT most t ns).2 S → S (holdT most t ns).1 → ∀ i, ns.length < i → i ≤ (holdT most t ns).2.length → S i
  | .mk k n nm ls ts, ns, hc, hi, h0, S, hcl, hS, i, h1, h2 => by
    obtain ⟨hs, h3, hts⟩ := hC _ _ _ _ _ hc
    have hL := holdL_is hC most ts ns hts hi
    have hR := holdL_reach hC most ts ns hts hi
    rw [holdT] at h0 hcl hS h2
    generalize hq : holdL most ts ns = q at *
    obtain ⟨_ | ids, ns'⟩ := q
    · exact absurd rfl h0
    · simp only at h0 hL hcl hS h2 hR
      have hLs := hL.2.1 ids rfl
      unfold numT at h0 hcl hS h2
      by_cases hk : num ns' (keyOf k n nm ls ids) = 0
      · rw [if_neg (fun h => h hk)] at h0 hcl hS h2
        by_cases hr : most ≤ ns'.length
        · rw [if_pos hr] at h0
          exact absurd rfl h0
        · rw [if_neg hr] at hcl hS h2
          simp only at hcl hS h2
          have hids := hcl.ids (id := ns'.length + 1) (d := ⟨keyOf k n nm ls ids, needs ns' (keyOf k n nm ls ids)⟩) (by omega) (by rw [Nat.add_sub_cancel, List.getElem?_append_right (Nat.le_refl _), Nat.sub_self]; rfl) rfl hS (holdsL_pos hLs) (by rw [← holdsL_len hLs]; exact h3)
          by_cases he : i = ns'.length + 1
          · rw [he]; exact hS
          · rw [List.length_append, List.length_singleton] at h2
            exact hR ids rfl S hcl.pre hids i h1 (by omega)
      · rw [if_pos hk] at hcl hS h2
        simp only at hcl hS h2
        obtain ⟨d, g1, g2⟩ := num_get rfl hk
        exact hR ids rfl S hcl (hcl.ids (by omega) g1 g2 hS (holdsL_pos hLs) (by rw [← holdsL_len hLs]; exact h3)) i h1 h2
theorem holdL_reach {C : Tm → Prop} (hC : Downs C) (most : Nat) : ∀ (ts : List Tm) (ns : List Nd), (∀ a ∈ ts, C a) → Inv C ns → ∀ ids, (holdL most ts ns).1 = some ids → ∀ S, Closed (holdL most ts ns).2 S → (∀ i ∈ ids, S i) → ∀ i, ns.length < i → i ≤ (holdL most ts ns).2.length → S i
  | [], ns, _, _, ids, h, S, _, _, i, h1, h2 => by
    rw [holdL] at h2
    simp only at h2
    omega
  | t :: ts, ns, hc, hi, ids, h, S, hcl, hS, i, h1, h2 => by
    have hT := holdT_is hC most t ns (hc t (by simp)) hi
    have hR := holdT_reach hC most t ns (hc t (by simp)) hi
    rw [holdL] at h hcl h2
    generalize hq : holdT most t ns = q at *
    obtain ⟨_ | a, ns'⟩ := q
    · cases h
    · simp only at h hcl h2 hT hR
      have hL := holdL_is hC most ts ns' (fun b hb => hc b (by simp [hb])) hT.1.inv
      have hQ := holdL_reach hC most ts ns' (fun b hb => hc b (by simp [hb])) hT.1.inv
      generalize hp : holdL most ts ns' = p at *
      obtain ⟨_ | js, ns''⟩ := p
      · cases h
      · simp only at h hcl h2 hL hQ
        cases h
        obtain ⟨m, em, _⟩ := hL.1.more
        by_cases hlt : i ≤ ns'.length
        · refine hR (Nat.succ_ne_zero _) S ?_ (hS _ (by simp)) i h1 hlt
          rw [em] at hcl
          exact hcl.pre
        · exact hQ js rfl S hcl (fun b hb => hS b (by simp [hb])) i (by omega) h2
end
theorem nodeAt_some {ns : List Nd} {id : Nat} {d : Nd} (h1 : 1 ≤ id) (h : ns[id - 1]? = some d) : nodeAt ns id = d := by
  unfold nodeAt
  rw [if_neg (by omega), Int.toNat_natCast, h]
  rfl
theorem nodeAt_none {ns : List Nd} {i : Int} (h : i < 1 ∨ (ns.length : Int) < i) : nodeAt ns i = nd0 := by
  unfold nodeAt
  split
  · rfl
  · rw [List.getElem?_eq_none (by omega)]
    rfl
/-- A held term's node. -/
theorem holds_node {ns : List Nd} {k n : Int} {nm : ByteArray} {ls : List Lv} {ts : List Tm} {id : Nat} (h : Holds ns (.mk k n nm ls ts) id) : ∃ ids, (nodeAt ns id).key = keyOf k n nm ls ids ∧ HoldsL ns ts ids ∧ ids.length ≤ 3 ∧ smL ls ∧ ∀ i ∈ ids, 1 ≤ i ∧ i < id := by
  rw [Holds] at h
  obtain ⟨h1, h2, h3, d, ids, h4, h5, h6, h7⟩ := h
  exact ⟨ids, by rw [nodeAt_some h1 h4]; exact h5, h6, by rw [← holdsL_len h6]; exact h3, h2, fun i hi => ⟨holdsL_pos h6 i hi, h7 i hi⟩⟩
end Arn
end Go.Proofs.YtlijdgamobpndaaDoor
/-
  Plain facts about what a hold comes to, one argument at a time.
  Conditions: none.
-/
namespace Go.Proofs.YtlijdgamobpndaaDoor
open Lvl
open Trm
namespace Arn
theorem numT_le (most : Nat) (ns : List Nd) (x : Ky) : (numT most ns x).1 ≤ (numT most ns x).2.length ∧ ns.length ≤ (numT most ns x).2.length := by
  unfold numT
  split
  · rename_i h
    exact ⟨num_le rfl h, Nat.le_refl _⟩
  · split
    · exact ⟨Nat.zero_le _, Nat.le_refl _⟩
    · simp
mutual
theorem holdT_le (most : Nat) : ∀ (t : Tm) (ns : List Nd), (holdT most t ns).1 ≤ (holdT most t ns).2.length ∧ ns.length ≤ (holdT most t ns).2.length
  | .mk k n nm ls ts, ns => by
    have h := holdL_le most ts ns
    rw [holdT]
    generalize holdL most ts ns = q at *
    obtain ⟨_ | ids, ns'⟩ := q
    · exact ⟨Nat.zero_le _, h.2⟩
    · dsimp only at h ⊢
      have h1 := numT_le most ns' (keyOf k n nm ls ids)
      exact ⟨h1.1, Nat.le_trans h.2 h1.2⟩
theorem holdL_le (most : Nat) : ∀ (ts : List Tm) (ns : List Nd), (∀ ids, (holdL most ts ns).1 = some ids → ids.length = ts.length ∧ ∀ i ∈ ids, i ≤ (holdL most ts ns).2.length) ∧ ns.length ≤ (holdL most ts ns).2.length
  | [], ns => by
    rw [holdL]
    exact ⟨fun ids h => by cases h; exact ⟨rfl, fun i hi => by cases hi⟩, Nat.le_refl _⟩
  | t :: ts, ns => by
    have h := holdT_le most t ns
    rw [holdL]
    generalize holdT most t ns = q at *
    obtain ⟨_ | i, ns'⟩ := q
    · dsimp only at *
      exact ⟨fun ids h => (nomatch h), h.2⟩
    · simp only at h ⊢
      have g := holdL_le most ts ns'
      generalize holdL most ts ns' = p at *
      obtain ⟨_ | ids, ns''⟩ := p
      · dsimp only at *
        exact ⟨fun ids h => (nomatch h), Nat.le_trans h.2 g.2⟩
      · simp only at g ⊢
        refine ⟨fun js hj => ?_, Nat.le_trans h.2 g.2⟩
        cases hj
        obtain ⟨g1, g2⟩ := g.1 ids rfl
        refine ⟨by rw [List.length_cons, List.length_cons, g1], fun b hb => ?_⟩
        rcases List.mem_cons.1 hb with rfl | hb
        · exact Nat.le_trans h.1 g.2
        · exact g2 b hb
end
theorem holdL_snoc {most : Nat} {ts : List Tm} {t : Tm} {ns ns' : List Nd} {ids : List Nat} (h : holdL most ts ns = (some ids, ns')) : holdL most (ts ++ [t]) ns = match holdT most t ns' with
    | (0, ns'') => (none, ns'')
    | (i + 1, ns'') => (some (ids ++ [i + 1]), ns'') := by
  rw [holdL_append, h]
  simp only
  rw [holdL]
  rcases holdT most t ns' with ⟨_ | i, ns''⟩
  · rfl
  · simp only [holdL]
theorem holdL_take {most : Nat} {ts : List Tm} {ns ns' : List Nd} {ids : List Nat} {j : Nat} (hj : j < ts.length) (h : holdL most (ts.take j) ns = (some ids, ns')) : holdL most (ts.take (j + 1)) ns = match holdT most ts[j] ns' with
    | (0, ns'') => (none, ns'')
    | (i + 1, ns'') => (some (ids ++ [i + 1]), ns'') := by
  rw [show ts.take (j + 1) = ts.take j ++ [ts[j]] by rw [List.take_add_one, List.getElem?_eq_getElem hj]; rfl]
  exact holdL_snoc h
theorem holdL_stop {most : Nat} {ts : List Tm} {ns ns' : List Nd} {j : Nat} (h : holdL most (ts.take j) ns = (none, ns')) : holdL most ts ns = (none, ns') := by
  have := holdL_append most (ts.take j) (ts.drop j) ns
  rw [List.take_append_drop, h] at this
  exact this
/-- What a hold asks of a term's parts. -/
def okH1 (k n : Int) (nm : ByteArray) (ls : List Lv) (m : Nat) : Prop := 1 ≤ k ∧ k ≤ 7 ∧ 0 ≤ n ∧ n < 1152921504606846976 ∧ nm.size ≤ 140737488355328 ∧ smL ls ∧ nodesL ls ≤ 100000 ∧ m ≤ 3
mutual
def okH : Tm → Prop
  | .mk k n nm ls ts => okH1 k n nm ls ts.length ∧ okHL ts
def okHL : List Tm → Prop
  | [] => True
  | t :: ts => okH t ∧ okHL ts
end
theorem okHL_mem : ∀ {ts : List Tm}, okHL ts → ∀ t ∈ ts, okH t
  | _ :: _, h, t, ht => by
    rw [okHL] at h
    rcases List.mem_cons.1 ht with rfl | ht
    · exact h.1
    · exact okHL_mem h.2 t ht
theorem lvB_size (ls : List Lv) : (lvB ls).size = 3 * nodesL ls := by
  unfold lvB
  rw [← encL_len]
  simp [ByteArray.size]
end Arn
end Go.Proofs.YtlijdgamobpndaaDoor
/-
  Plain facts about what a number leads to: the numbers are gathered, each once.
  Conditions: none.
-/
namespace Go.Proofs.YtlijdgamobpndaaDoor
open Lvl
open Trm
namespace Arn
theorem nodup_bd : ∀ (n : Nat) (S : List Nat), S.Nodup → (∀ x ∈ S, 1 ≤ x ∧ x ≤ n) → S.length ≤ n
  | 0, S, _, h => by
    cases S with
    | nil => exact Nat.le_refl _
    | cons x S => have := h x (by simp); omega
  | n + 1, S, hn, h => by
    have h1 := nodup_bd n (S.erase (n + 1)) (hn.erase _) (fun x hx => by
      have h2 := (hn.mem_erase_iff).1 hx
      have := h x h2.2
      have := h2.1
      omega)
    have h3 := List.length_erase (a := n + 1) (l := S)
    split at h3 <;> omega
theorem full_bd : ∀ (n : Nat) (S : List Nat), (∀ i, 1 ≤ i → i ≤ n → i ∈ S) → n ≤ S.length
  | 0, _, _ => Nat.zero_le _
  | n + 1, S, h => by
    have h1 := full_bd n (S.erase (n + 1)) (fun i h1 h2 => (List.mem_erase_of_ne (by omega)).2 (h i h1 (by omega)))
    have hm := h (n + 1) (by omega) (Nat.le_refl _)
    have h3 := List.length_erase_of_mem hm
    have h4 := List.length_pos_of_mem hm
    omega
/-- The numbers that a number leads to, beside those that were gathered. -/
def gat (ns : List Nd) : Nat → Nat → List Nat → List Nat
  | 0, _, S => S
  | f + 1, id, S => if id ∈ S ∨ (nodeAt ns id).key.kd = 0 then S else
    gat ns f (nodeAt ns id).key.a2 (gat ns f (nodeAt ns id).key.a1 (gat ns f (nodeAt ns id).key.a0 (S ++ [id])))
/-- Nodes of which each has its arguments ahead of it, and a kind. -/
def Ahead (ns : List Nd) : Prop := ∀ (i : Nat) d, ns[i]? = some d → d.key.kd ≠ 0 ∧ d.key.a0 ≤ i ∧ d.key.a1 ≤ i ∧ d.key.a2 ≤ i
structure Gat (ns : List Nd) (id : Nat) (S S' : List Nat) : Prop where
  sub : ∀ x ∈ S, x ∈ S'
  mem : 1 ≤ id → id ≤ ns.length → id ∈ S'
  nodup : S'.Nodup
  le : ∀ x ∈ S', x ∈ S ∨ (1 ≤ x ∧ x ≤ id)
  len : ∀ x ∈ S', 1 ≤ x ∧ x ≤ ns.length
  closed : ∀ x ∈ S', x ∉ S → ∀ d, ns[x - 1]? = some d → (d.key.a0 ≠ 0 → d.key.a0 ∈ S') ∧ (d.key.a1 ≠ 0 → d.key.a1 ∈ S') ∧ (d.key.a2 ≠ 0 → d.key.a2 ∈ S')
theorem gat_is {ns : List Nd} (ha : Ahead ns) : ∀ (f id : Nat) (S : List Nat), id < f → S.Nodup → (∀ x ∈ S, 1 ≤ x ∧ x ≤ ns.length) → Gat ns id S (gat ns f id S)
  | 0, _, _, h, _, _ => absurd h (Nat.not_lt_zero _)
  | f + 1, id, S, h, hn, hl => by
    rw [gat]
    by_cases h0 : id ∈ S ∨ (nodeAt ns id).key.kd = 0
    · rw [if_pos h0]
      refine ⟨fun x hx => hx, fun h1 h2 => ?_, hn, fun x hx => .inl hx, hl, fun x hx hx' => absurd hx hx'⟩
      rcases h0 with h0 | h0
      · exact h0
      · exfalso
        rw [nodeAt_some (d := ns[id - 1]) h1 (List.getElem?_eq_getElem (by omega))] at h0
        exact (ha (id - 1) _ (List.getElem?_eq_getElem (by omega))).1 h0
    · rw [if_neg h0]
      have hid : 1 ≤ id ∧ id ≤ ns.length := by
        by_cases h1 : (id : Int) < 1 ∨ (ns.length : Int) < id
        · exfalso
          rw [nodeAt_none h1] at h0
          exact h0 (.inr rfl)
        · omega
      obtain ⟨d, hd⟩ : ∃ d, ns[id - 1]? = some d := ⟨_, List.getElem?_eq_getElem (by omega)⟩
      rw [nodeAt_some hid.1 hd]
      obtain ⟨_, b0, b1, b2⟩ := ha (id - 1) d hd
      have hS : id ∉ S := fun h => h0 (.inl h)
      have hn1 : (S ++ [id]).Nodup := by
        rw [List.nodup_append]
        refine ⟨hn, by simp, fun a h1 b h2 e => ?_⟩
        simp at h2
        subst h2
        subst e
        exact hS h1
      have hl1 : ∀ x ∈ S ++ [id], 1 ≤ x ∧ x ≤ ns.length := fun x hx => by
        rcases List.mem_append.1 hx with hx | hx
        · exact hl x hx
        · simp at hx; omega
      have g0 := gat_is ha f d.key.a0 (S ++ [id]) (by omega) hn1 hl1
      have g1 := gat_is ha f d.key.a1 _ (by omega) g0.nodup g0.len
      have g2 := gat_is ha f d.key.a2 _ (by omega) g1.nodup g1.len
      generalize gat ns f d.key.a0 (S ++ [id]) = T0 at *
      generalize gat ns f d.key.a1 T0 = T1 at *
      generalize gat ns f d.key.a2 T1 = T2 at *
      have hle : ∀ x ∈ T2, x ∈ S ∨ (1 ≤ x ∧ x ≤ id) := fun x hx => by
        rcases g2.le x hx with h | h
        · rcases g1.le x h with h | h
          · rcases g0.le x h with h | h
            · rcases List.mem_append.1 h with h | h
              · exact .inl h
              · simp at h; exact .inr (by omega)
            · exact .inr (by omega)
          · exact .inr (by omega)
        · exact .inr (by omega)
      have up1 : ∀ x ∈ T0, x ∈ T2 := fun x hx => g2.sub x (g1.sub x hx)
      have up0 : ∀ x ∈ S ++ [id], x ∈ T2 := fun x hx => up1 x (g0.sub x hx)
      refine ⟨fun x hx => up0 x (by simp [hx]), fun _ _ => up0 id (by simp), g2.nodup, hle, g2.len, fun x hx hxS e he => ?_⟩
      by_cases c1 : x ∈ T1
      · by_cases c0 : x ∈ T0
        · by_cases ci : x ∈ S ++ [id]
          · obtain rfl : x = id := by
              rcases List.mem_append.1 ci with h | h
              · exact absurd h hxS
              · simpa using h
            rw [hd] at he
            cases he
            exact ⟨fun h => up1 _ (g0.mem (by omega) (by omega)), fun h => g2.sub _ (g1.mem (by omega) (by omega)), fun h => g2.mem (by omega) (by omega)⟩
          · obtain ⟨e0, e1, e2⟩ := g0.closed x c0 ci e he
            exact ⟨fun h => up1 _ (e0 h), fun h => up1 _ (e1 h), fun h => up1 _ (e2 h)⟩
        · obtain ⟨e0, e1, e2⟩ := g1.closed x c1 c0 e he
          exact ⟨fun h => g2.sub _ (e0 h), fun h => g2.sub _ (e1 h), fun h => g2.sub _ (e2 h)⟩
      · exact g2.closed x hx c1 e he
/-- How many nodes a number leads to. -/
def shared (ns : List Nd) (id : Nat) : Nat := (gat ns (id + 1) id []).length
theorem shared_le {ns : List Nd} (ha : Ahead ns) (id : Nat) : shared ns id ≤ id := by
  have g := gat_is ha (id + 1) id [] (Nat.lt_succ_self _) List.nodup_nil (fun x hx => by cases hx)
  exact nodup_bd id _ g.nodup fun x hx => by
    rcases g.le x hx with h | h
    · cases h
    · exact h
theorem shared_all {ns : List Nd} (ha : Ahead ns) {id : Nat} (h1 : 1 ≤ id) (h2 : id ≤ ns.length) (hall : ∀ S, Closed ns S → S id → ∀ i, 1 ≤ i → i ≤ id → S i) : shared ns id = id := by
  have g := gat_is ha (id + 1) id [] (Nat.lt_succ_self _) List.nodup_nil (fun x hx => by cases hx)
  refine Nat.le_antisymm (shared_le ha id) (full_bd id _ fun i h3 h4 => ?_)
  exact hall (fun x => x ∈ gat ns (id + 1) id []) (fun x d hx1 hx2 hx3 => g.closed x hx3 (fun h => by cases h) d hx2) (g.mem h1 h2) i h3 h4
theorem inv_ahead {C : Tm → Prop} {ns : List Nd} (hi : Inv C ns) (hk : ∀ k n nm ls ts, C (.mk k n nm ls ts) → k ≠ 0) : Ahead ns := fun i d hd => by
  have hlt := (List.getElem?_eq_some_iff.1 hd).1
  obtain ⟨u, h1, h2⟩ := hi.each i hlt
  cases u with
  | mk k n nm ls ts =>
  rw [Holds] at h1
  obtain ⟨_, _, h3, d', ids, h4, h5, h6, h7⟩ := h1
  rw [Nat.add_sub_cancel, hd] at h4
  cases h4
  rw [h5]
  unfold keyOf
  have hb : ∀ x ∈ ids, x ≤ i := fun x hx => by have := h7 x hx; omega
  have hg : ∀ j, ids.getD j 0 ≤ i := fun j => by
    rw [List.getD_eq_getElem?_getD]
    cases e : ids[j]? with
    | none => simp
    | some x => exact hb x (List.mem_of_getElem? e)
  exact ⟨hk _ _ _ _ _ h2, hg 0, hg 1, hg 2⟩
end Arn
end Go.Proofs.YtlijdgamobpndaaDoor
