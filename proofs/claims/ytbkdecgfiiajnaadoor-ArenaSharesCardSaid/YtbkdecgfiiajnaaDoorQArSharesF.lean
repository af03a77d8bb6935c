/-
  Plain facts that ArenaShares comes down to.
  Conditions: none.
-/
import Derived.Test.YtbkdecgfiiajnaaDoorJ33
import Derived.Test.YtbkdecgfiiajnaaDoorJ30
namespace Go.Proofs.YtbkdecgfiiajnaaDoor
open Lvl
open Trm
namespace Arn
/-- A term is held last, and it is the greatest of all that is held. -/
structure Shr (t : Tm) (ns : List Nd) (id : Nat) : Prop where
  holds : Holds ns t id
  ok : okH t
  inv : Inv (fun u => okH u ∧ tnodes u ≤ tnodes t) ns
  last : ns.length = id
theorem downs_le (N : Nat) : Downs (fun u => okH u ∧ tnodes u ≤ N) := fun k n nm ls ts h => by
  obtain ⟨h1, h2, h3⟩ := downs_okH _ _ _ _ _ h.1
  exact ⟨h1, h2, fun a ha => ⟨h3 a ha, Nat.le_trans (Nat.le_of_lt (tnodes_arg ha)) h.2⟩⟩
theorem shr_start {t : Tm} (hok : okH t) (hn : tnodes t ≤ 2000) : ∃ ns n, holdT 1048576 t [] = (n, ns) ∧ n ≠ 0 ∧ Shr t ns n ∧ 1 ≤ n ∧ n ≤ 2000 := by
  have h := holdT_is downs_okH 1048576 t [] hok (inv_nil _)
  have hl := holdT_last downs_okH 1048576 t [] hok (inv_nil _)
  obtain ⟨⟨n, ns⟩, hq⟩ : ∃ q, holdT 1048576 t [] = q := ⟨_, rfl⟩
  rw [hq] at h hl
  obtain ⟨⟨_, ⟨m, em, hm⟩, _⟩, h1, h2⟩ := h
  simp only [List.nil_append] at em
  have hlen : ns.length ≤ tnodes t := by rw [em]; exact hm
  have h0 : n ≠ 0 := fun e => by
    have := h2 e
    simp only at this
    omega
  have hlast : n = ns.length := (hl h0).1
  exact ⟨ns, n, hq, h0, ⟨h1 h0, hok, (hl h0).2, hlast.symm⟩, by omega, by omega⟩
theorem tnodes_both (t : Tm) : tnodes (tboth t) = 1 + 2 * tnodes t := by
  rw [tnodes, nodesL, tnodesL, tnodesL, tnodesL]; omega
theorem shr_next {t : Tm} {ns : List Nd} {id : Nat} (h : Shr t ns id) (hid : id < 1048576) : ∃ ns', holdT 1048576 (tboth t) ns = (id + 1, ns') ∧ Shr (tboth t) ns' (id + 1) ∧ argOf (nodeAt ns' ((id + 1 : Nat) : Int)).key 0 = id ∧ argOf (nodeAt ns' ((id + 1 : Nat) : Int)).key 1 = id := by
  have hokB := okH_both h.ok
  have htn := tnodes_both t
  have hL : HoldsL ns [t, t] [id, id] := by
    rw [HoldsL, HoldsL, HoldsL]
    exact ⟨h.holds, h.holds, trivial⟩
  have h0 : num ns (keyOf 4 0 ⟨#[]⟩ [] [id, id]) = 0 := Classical.byContradiction fun hne => by
    have h5 : tnodes (tboth t) ≤ tnodes t := (num_holds h.inv hL (by rw [smL]; trivial) (by simp) hne).2.2
    omega
  have he : holdT 1048576 (tboth t) ns = (id + 1, ns ++ [⟨keyOf 4 0 ⟨#[]⟩ [] [id, id], needs ns (keyOf 4 0 ⟨#[]⟩ [] [id, id])⟩]) := by
    rw [holdT, holdL_held h.inv 1048576 [t, t] [id, id] hL]
    simp only
    unfold numT
    rw [if_neg (fun x => x h0), if_neg (by rw [h.last]; omega), h.last]
  refine ⟨_, he, ?_⟩
  have hh := holdT_is (downs_le (tnodes (tboth t))) 1048576 (tboth t) ns ⟨hokB, Nat.le_refl _⟩ (h.inv.weak fun u g => ⟨g.1, by omega⟩)
  rw [he] at hh
  obtain ⟨⟨hi, _, _⟩, h1, _⟩ := hh
  have hlen : (ns ++ [(⟨keyOf 4 0 ⟨#[]⟩ [] [id, id], needs ns (keyOf 4 0 ⟨#[]⟩ [] [id, id])⟩ : Nd)]).length = id + 1 := by rw [List.length_append, h.last]; rfl
  have hnode : nodeAt (ns ++ [(⟨keyOf 4 0 ⟨#[]⟩ [] [id, id], needs ns (keyOf 4 0 ⟨#[]⟩ [] [id, id])⟩ : Nd)]) ((id + 1 : Nat) : Int) = ⟨keyOf 4 0 ⟨#[]⟩ [] [id, id], needs ns (keyOf 4 0 ⟨#[]⟩ [] [id, id])⟩ := by
    refine nodeAt_some (by omega) ?_
    rw [show id + 1 - 1 = ns.length by rw [h.last]; omega, List.getElem?_append_right (Nat.le_refl _), Nat.sub_self]
    rfl
  refine ⟨⟨h1 (by simp), hokB, hi, hlen⟩, ?_, ?_⟩
  · rw [hnode]; rfl
  · rw [hnode]; rfl
theorem ArM.far {w w' : World} {base p bm most : Nat} {V : Value} {ns : List Nd} (h : ArM w base p bm most V ns) (hk : ∀ b, base ≤ b → w'.heap[b]? = w.heap[b]?) : ArM w' base p bm most V ns := by
  obtain ⟨D, h1, h2⟩ := h.map
  exact ⟨(hk p h.pb).trans h.row, own_keep h.own fun g hg => hk g (h.vlt g hg).1, ⟨D, map_keep h1 (hk bm h.mb), h2⟩, h.pb, h.mb, h.le, h.room, h.good⟩
theorem right_both {RN : ByteArray → Bool} {t : Tm} (h : rightT RN 4 t 1125899906842624 = true) (hn : tnodes (tboth t) ≤ 2000) : rightT RN 4 (tboth t) 1125899906842624 = true := by
  obtain ⟨h0, _, h2⟩ := rightT_ok h
  exact rightT_of h0 hn (ok_app RN (rightB 4) h2 h2)
end Arn
end Go.Proofs.YtbkdecgfiiajnaaDoor
