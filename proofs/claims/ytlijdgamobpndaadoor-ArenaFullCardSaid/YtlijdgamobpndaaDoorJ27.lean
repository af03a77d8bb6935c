import Derived.Test.YtlijdgamobpndaaDoorJ21
import Derived.Test.YtlijdgamobpndaaDoorJ03
import Derived.Laws.ResultCell
import Derived.Test.YtlijdgamobpndaaDoorJ10
import Derived.Test.YtlijdgamobpndaaDoorJ20
/-
  The contract of the reference's Inst at any levels.
  Conditions: the levels lie in memory as told by 'LvV' and 'LvL'.
-/
namespace Go.Proofs.YtlijdgamobpndaaDoor
open Go.RowKit
open Lvl

/-- Is there an answer? -/
def instB (bs : List Lv) (t : Lv) : Bool := rightB (bs.length : Int) t && (bs.all (rightB 4) && decide (nodes (instF bs t) ≤ 64))
/-- The answered level. -/
def instR (bs : List Lv) (t : Lv) : Lv := if instB bs t then instF bs t else .mk 0 0 []
/-- A level in new memory and a truth value are answered. -/
def InstRet (w : World) (bs : List Lv) (t : Lv) (e : Ending) (w' : World) : Prop :=
  ∃ s, e = .returned (.tuple #[.agg #[.int .i64 (kindOf (instR bs t)), .int .i64 (numOf (instR bs t)), s], .bool (instB bs t)]) ∧ LvP w' (fun b => w.heap.size ≤ b) (instR bs t) s ∧ Below w.heap.size w w'
theorem results_row_tmp {P : Program} {fn : Func} {p u : Tmp} {ty : TypeId} (h : fn.results = #[.cell p ty, .tmp u]) (tmps : Array Value) (w : World) (g : Nat) (t : TypeId) (cs : Array Value) (fr : Nat × Nat) (d : TypeDesc)
    (hp : tmps.getD p undef = .pointer (some ⟨g, 0, none⟩)) (hg : w.heap[g]? = some (.cells cs t fr))
    (hu : P.underlying ty = some d) (hd : (match d with | .struct _ | .array _ _ => true | _ => false) = true) (hi : (P.info? ty).map (·.size) = some cs.size) :
    (results fn tmps).run P w = .ok (.tuple #[.agg cs, tmps.getD u undef]) w := by
  rw [results_cell_tmp h, hp]
  simp [asAddr, run_loadVar_row w g t ty cs fr d hg hu hd hi]
theorem rightB_nodes {n : Int} {t : Lv} (h : rightB n t = true) : nodes t ≤ 64 ∧ okB n t = true := by
  unfold rightB at h
  simp at h
  exact ⟨h.1.2, h.2⟩
/-- No answer: the zero level is handed back. -/
theorem instRet_no {w X : World} {bs : List Lv} {t : Lv} {v : Value} (hf : instB bs t = false) (hx : Below w.heap.size w X) (hv : v = .tuple #[.agg #[.int .i64 0, .int .i64 0, .slice none 0 0], .bool false]) : InstRet w bs t (.returned v) X := by
  have hr : instR bs t = .mk 0 0 [] := by unfold instR; rw [hf]; rfl
  refine ⟨.slice none 0 0, ?_, ?_, hx⟩
  · rw [hr, hf, hv]; try rfl
  · rw [hr, LvP]
    exact ⟨none, 0, 0, rfl, rfl, Nat.le_refl _, by omega, fun _ => rfl, by rw [LsP]; trivial⟩

end Go.Proofs.YtlijdgamobpndaaDoor
/-
  The contract of the program's function Inst.
  Conditions: the levels lie in memory as told by 'LvV' and 'LvL', and have at most 1000 nodes each.
-/
namespace Go.Proofs.YtlijdgamobpndaaDoor
open Go.RowKit
open Lvl

mutual
theorem nodes_instF (bs : List Lv) (hb : ∀ b ∈ bs, nodes b ≤ 1000) : ∀ t : Lv, nodes (instF bs t) ≤ nodes t * 1000
  | .mk k n ts => by
    rw [instF]
    by_cases hk : k = 2
    · rw [if_pos hk]
      have h1 : 1 ≤ nodes (.mk k n ts) := nodes_pos _
      rcases Nat.lt_or_ge n.toNat bs.length with h | h
      · have : bs.getD n.toNat (.mk k n ts) = bs[n.toNat] := by simp [List.getD, h]
        rw [this]
        have := hb _ (List.getElem_mem h)
        omega
      · have : bs.getD n.toNat (.mk k n ts) = .mk k n ts := by simp [List.getD, List.getElem?_eq_none h]
        rw [this]
        omega
    · rw [if_neg hk, nodes, nodes]
      have := nodes_instL bs hb ts
      omega
theorem nodes_instL (bs : List Lv) (hb : ∀ b ∈ bs, nodes b ≤ 1000) : ∀ ts : List Lv, nodesL (instL bs ts) ≤ nodesL ts * 1000
  | [] => by rw [instL, nodesL]; omega
  | a :: ts => by
    rw [instL, nodesL, nodesL]
    have := nodes_instF bs hb a
    have := nodes_instL bs hb ts
    omega
end

end Go.Proofs.YtlijdgamobpndaaDoor
