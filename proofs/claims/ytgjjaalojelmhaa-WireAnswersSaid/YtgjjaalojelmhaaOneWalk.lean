/-
  The law WireOne, walked: whatever bytes come in, it returns true, and nothing that was there turns.
  Conditions: the bytes lie in memory as told by 'BSl'.
-/
import Derived.Test.YtgjjaalojelmhaaAlive2
namespace Go.Proofs.Ytgjjaalojelmhaa
open Go.RowKit
open Wire

theorem numsB_nat {v : Nat} (h : v ≤ 1099511627776) : numB (v : Int) = true := decide_eq_true ⟨by omega, by omega⟩
theorem nums_nat {v : Nat} (h : v ≤ 1099511627776) : numsOf [(v : Int)] = enc v := by
  unfold numsOf
  have : [(v : Int)].all numB = true := by simp [numsB_nat h]
  rw [this, if_pos rfl]
  simp [numsL]
theorem nums_nat_b {v : Nat} (h : v ≤ 1099511627776) : [(v : Int)].all numB = true := by simp [numsB_nat h]
theorem txtsL_map (l : List (List UInt8)) : txtsL (l.map ofL) = l := by
  unfold txtsL
  rw [List.map_map]
  exact List.map_id' l
theorem textsE_mem {l : List (List UInt8)} {s : List UInt8} (h : s ∈ l) : s.length ≤ (textsE l).length := by
  induction l with
  | nil => cases h
  | cons t l ih =>
    rw [textsE, List.length_append, List.length_append]
    rcases List.mem_cons.1 h with rfl | h
    · omega
    · have := ih h
      omega
theorem take_sizes {bs r : List UInt8} {l : List (List UInt8)} (h : TakeAt bs l r) : ∀ x ∈ l.map ofL, x.size ≤ bs.length := by
  intro x hx
  obtain ⟨s, hs, rfl⟩ := List.mem_map.1 hx
  have := textsE_mem hs
  rw [ofL_size, h.2.2, List.length_append, List.length_append]
  omega

theorem texts_single (s : List UInt8) : textsE (txtsL [ofL s]) = enc s.length ++ s := by
  show enc s.length ++ (s ++ []) = _
  rw [List.append_nil]
theorem list_again (l : List (List UInt8)) : enc (l.map ofL).length ++ textsE (txtsL (l.map ofL)) = enc l.length ++ textsE l := by
  rw [List.length_map, txtsL_map]

set_option maxRecDepth 100000 in
set_option maxHeartbeats 4000000 in
theorem wireOne_any (S : Value) (bs : List UInt8) (w : World) (hS : BSl w S bs) (hl : bs.length ≤ 140737488355328) : Calls Try.prog 5 #[S] w (Ret w (.bool true)) := by
  obtain ⟨A, n, c, e0, hN, hc, hA, hx⟩ := hS
  have HS := Lib.hid (show BSl w (.slice A n c) bs from ⟨A, n, c, rfl, hN, hc, hA, hx⟩)
  subst e0
  have HN := Lib.hid hN
  have hn : n ≤ 140737488355328 := by rw [← hN]; exact hl
  clear hx hN hA hl
  go_enter Try.func5, Try.ntmps5
  go_wp2_with fail
  refine (alive_any w).mono ?_
  rintro e w1 ⟨rfl, hb1⟩
  have HB := Lib.hid hb1
  clear hb1
  by_cases hbig : 3000 < n
  · have hd : decide ((3000 : Int) < (n : Int)) = true := by simp; omega
    go_wp2_with fail
    go_ret
    exact ⟨rfl, HB.out⟩
  · have hd : decide ((3000 : Int) < (n : Int)) = false := by simp; omega
    have HL : Hid (bs.length ≤ 3000) := by
      have : bs.length ≤ 3000 := by rw [HN.out]; omega
      exact this
    obtain ⟨v, r, nb, hno⟩ := numOut_ex bs
    obtain ⟨s, q, tb, hto⟩ := textOut_ex bs
    obtain ⟨l, p, kb, hko⟩ := takeOut_ex bs 3000
    have HNO := Lib.hid hno
    have HTO := Lib.hid hto
    have HKO := Lib.hid hko
    clear hno hto hko hbig
    go_wp2_with fail
    refine (num_v _ bs _ (HS.out.below HB.out) (by have := HL.out; omega) v r nb HNO.out).mono ?_
    rintro e W ⟨R, rfl, hr, hb⟩
    have HR := Lib.hid hr
    replace HB := Lib.hid (HB.out.trans (hb.mono HB.out.size))
    clear hr hb
    rcases HNO.out with ⟨rfl, hat⟩ | ⟨rfl, _, rfl, rfl⟩
    · have HE : Hid (enc v ++ r = bs) := hat.2.symm
      have hv := hat.1
      clear hat HNO
      go_wp2_with fail
      refine (nums_v _ [(v : Int)] _ (nsl_lit W [(v : Int)] 1 rfl _ rfl) (by simp) _ _ (nums_nat hv) (nums_nat_b hv)).mono ?_
      have hlow : w.heap.size ≤ (W.alloc (.cells #[.int .i64 (v : Int)] 3)).heap.size := Nat.le_trans HB.out.size (below_lit W _).size
      rintro e W ⟨x, M, rfl, ho, hb⟩
      have hb' := below_from hb
      replace HR := Lib.hid (HR.out.below hb')
      replace HB := Lib.hid (HB.out.trans (hb'.mono HB.out.size))
      clear hb hb'
      have HOn := Lib.hid (own_base ho hlow)
      have hbase : w.heap.size ≤ W.heap.size := HB.out.size
      have hlen : M + (r).length ≤ 3000 := by
        have h1 := HL.out
        rw [← HE.out, List.length_append, own_len ho] at h1
        exact h1
      clear ho hlow
      go_wp2_with (at_builtin; refine wpList_append_bytes rfl _ _ rfl w.heap.size _ M _ rfl HOn.out _ _ rfl HR.out ?ca hbase ?_)
      case ca => omega
      intro y W hown hgrow
      replace HB := Lib.hid (HB.out.grown hgrow hbase (own_block HOn.out))
      rw [← List.map_append, HE.out] at hown
      have HY := Lib.hid (bsl_own hown)
      clear hown hgrow HOn HR hlen hbase
      go_wp2_with fail
      refine (sameBytes_b _ _ bs bs _ HY.out (HS.out.below HB.out) (by have := HL.out; omega) true (decide_eq_true rfl)).mono ?_
      rintro e W ⟨rfl, hb⟩
      replace HB := Lib.hid (HB.out.trans (hb.mono HB.out.size))
      clear HY hb HE
      go_wp2_with fail
      refine (text_v _ bs _ (HS.out.below HB.out) (by have := HL.out; omega) s q tb HTO.out).mono ?_
      rintro e W ⟨R, rfl, hr, hb⟩
      have HR := Lib.hid hr
      replace HB := Lib.hid (HB.out.trans (hb.mono HB.out.size))
      clear hr hb
      rcases HTO.out with ⟨rfl, hat⟩ | ⟨rfl, _, rfl, rfl⟩
      · obtain ⟨ds, hds⟩ : ∃ ds, enc s.length ++ s = ds := ⟨_, rfl⟩
        have HDS := Lib.hid ((texts_single s).trans hds)
        have HE : Hid (ds ++ q = bs) := by
          have h := hat.2.symm
          rw [← List.append_assoc, hds] at h
          exact h
        clear hds
        have hsz : ∀ x ∈ [ofL s], x.size ≤ 3000 := fun x hx => by
          rw [List.mem_singleton] at hx
          subst hx
          have h1 := HL.out
          rw [hat.2, List.length_append, List.length_append] at h1
          rw [ofL_size]
          omega
        have HSZ := Lib.hid hsz
        clear hat HTO hsz
        go_wp2_with fail
        refine (texts_v _ [ofL s] _ (tsl_lit W [ofL s] 1 rfl _ rfl) (by simp) HSZ.out ds HDS.out).mono ?_
        have hlow : w.heap.size ≤ (W.alloc (.cells #[.string (ofL s)] 9)).heap.size := Nat.le_trans HB.out.size (below_lit W _).size
        rintro e W ⟨x, M, rfl, ho, hb⟩
        have hb' := below_from hb
        replace HR := Lib.hid (HR.out.below hb')
        replace HB := Lib.hid (HB.out.trans (hb'.mono HB.out.size))
        clear hb hb' HSZ
        have HOn := Lib.hid (own_base ho hlow)
        have hbase : w.heap.size ≤ W.heap.size := HB.out.size
        have hlen : M + (q).length ≤ 3000 := by
          have h1 := HL.out
          rw [← HE.out, List.length_append, own_len ho] at h1
          exact h1
        clear ho hlow
        go_wp2_with (at_builtin; refine wpList_append_bytes_w rfl _ _ rfl w.heap.size _ M _ rfl HOn.out _ _ rfl HR.out ?ca hbase ?_)
        case ca => omega
        intro y W hown hgrow
        replace HB := Lib.hid (HB.out.grown hgrow hbase (own_block HOn.out))
        rw [← List.map_append, HE.out] at hown
        have HY := Lib.hid (bsl_own hown)
        clear hown hgrow HOn HR hlen hbase
        go_wp2_with fail
        refine (sameBytes_b _ _ bs bs _ HY.out (HS.out.below HB.out) (by have := HL.out; omega) true (decide_eq_true rfl)).mono ?_
        rintro e W ⟨rfl, hb⟩
        replace HB := Lib.hid (HB.out.trans (hb.mono HB.out.size))
        clear HY hb HE
        go_wp2_with fail
        refine (take_v _ bs 3000 _ (HS.out.below HB.out) (by have := HL.out; omega) l p kb HKO.out).mono ?_
        rintro e W ⟨V, R, rfl, hv, hr, hb⟩
        have HR := Lib.hid hr
        have HV := Lib.hid hv
        replace HB := Lib.hid (HB.out.trans (hb.mono HB.out.size))
        clear hr hb hv
        rcases HKO.out with ⟨rfl, hat, hmost⟩ | ⟨rfl, _, rfl, rfl⟩
        · obtain ⟨ds, hds⟩ : ∃ ds, enc l.length ++ textsE l = ds := ⟨_, rfl⟩
          have HDS := Lib.hid ((list_again l).trans hds)
          have HE : Hid (ds ++ p = bs) := by
            have h := hat.2.2.symm
            rw [← List.append_assoc, hds] at h
            exact h
          clear hds
          have HSZ : Hid (∀ x ∈ l.map ofL, x.size ≤ 3000) := fun x hx => Nat.le_trans (take_sizes hat x hx) HL.out
          have hl3 : (l.map ofL).length ≤ 3000 := by rw [List.length_map]; omega
          clear hat HKO
          go_wp2_with fail
          refine (list_v _ (l.map ofL) _ HV.out hl3 HSZ.out ds HDS.out).mono ?_
          have hlow : w.heap.size ≤ W.heap.size := HB.out.size
          rintro e W ⟨x, M, rfl, ho, hb⟩
          replace HR := Lib.hid (HR.out.below hb)
          replace HB := Lib.hid (HB.out.trans (hb.mono HB.out.size))
          clear hb HSZ hl3 HV
          have HOn := Lib.hid (own_base ho hlow)
          have hbase : w.heap.size ≤ W.heap.size := HB.out.size
          have hlen : M + (p).length ≤ 3000 := by
            have h1 := HL.out
            rw [← HE.out, List.length_append, own_len ho] at h1
            exact h1
          clear ho hlow
          go_wp2_with (at_builtin; refine wpList_append_bytes_w rfl _ _ rfl w.heap.size _ M _ rfl HOn.out _ _ rfl HR.out ?ca hbase ?_)
          case ca => omega
          intro y W hown hgrow
          replace HB := Lib.hid (HB.out.grown hgrow hbase (own_block HOn.out))
          rw [← List.map_append, HE.out] at hown
          have HY := Lib.hid (bsl_own hown)
          clear hown hgrow HOn HR hlen hbase
          go_wp2_with fail
          refine (sameBytes_b _ _ bs bs _ HY.out (HS.out.below HB.out) (by have := HL.out; omega) true (decide_eq_true rfl)).mono ?_
          rintro e W ⟨rfl, hb⟩
          replace HB := Lib.hid (HB.out.trans (hb.mono HB.out.size))
          clear HY hb HE
          go_wp2_with fail
          go_ret
          exact ⟨rfl, HB.out⟩
        · go_wp2_with fail
          go_ret
          exact ⟨rfl, HB.out⟩
      · clear HTO HR
        go_wp2_with fail
        refine (take_v _ bs 3000 _ (HS.out.below HB.out) (by have := HL.out; omega) l p kb HKO.out).mono ?_
        rintro e W ⟨V, R, rfl, hv, hr, hb⟩
        have HR := Lib.hid hr
        have HV := Lib.hid hv
        replace HB := Lib.hid (HB.out.trans (hb.mono HB.out.size))
        clear hr hb hv
        rcases HKO.out with ⟨rfl, hat, hmost⟩ | ⟨rfl, _, rfl, rfl⟩
        · obtain ⟨ds, hds⟩ : ∃ ds, enc l.length ++ textsE l = ds := ⟨_, rfl⟩
          have HDS := Lib.hid ((list_again l).trans hds)
          have HE : Hid (ds ++ p = bs) := by
            have h := hat.2.2.symm
            rw [← List.append_assoc, hds] at h
            exact h
          clear hds
          have HSZ : Hid (∀ x ∈ l.map ofL, x.size ≤ 3000) := fun x hx => Nat.le_trans (take_sizes hat x hx) HL.out
          have hl3 : (l.map ofL).length ≤ 3000 := by rw [List.length_map]; omega
          clear hat HKO
          go_wp2_with fail
          refine (list_v _ (l.map ofL) _ HV.out hl3 HSZ.out ds HDS.out).mono ?_
          have hlow : w.heap.size ≤ W.heap.size := HB.out.size
          rintro e W ⟨x, M, rfl, ho, hb⟩
          replace HR := Lib.hid (HR.out.below hb)
          replace HB := Lib.hid (HB.out.trans (hb.mono HB.out.size))
          clear hb HSZ hl3 HV
          have HOn := Lib.hid (own_base ho hlow)
          have hbase : w.heap.size ≤ W.heap.size := HB.out.size
          have hlen : M + (p).length ≤ 3000 := by
            have h1 := HL.out
            rw [← HE.out, List.length_append, own_len ho] at h1
            exact h1
          clear ho hlow
          go_wp2_with (at_builtin; refine wpList_append_bytes_w rfl _ _ rfl w.heap.size _ M _ rfl HOn.out _ _ rfl HR.out ?ca hbase ?_)
          case ca => omega
          intro y W hown hgrow
          replace HB := Lib.hid (HB.out.grown hgrow hbase (own_block HOn.out))
          rw [← List.map_append, HE.out] at hown
          have HY := Lib.hid (bsl_own hown)
          clear hown hgrow HOn HR hlen hbase
          go_wp2_with fail
          refine (sameBytes_b _ _ bs bs _ HY.out (HS.out.below HB.out) (by have := HL.out; omega) true (decide_eq_true rfl)).mono ?_
          rintro e W ⟨rfl, hb⟩
          replace HB := Lib.hid (HB.out.trans (hb.mono HB.out.size))
          clear HY hb HE
          go_wp2_with fail
          go_ret
          exact ⟨rfl, HB.out⟩
        · go_wp2_with fail
          go_ret
          exact ⟨rfl, HB.out⟩
    · clear HNO HR
      go_wp2_with fail
      refine (text_v _ bs _ (HS.out.below HB.out) (by have := HL.out; omega) s q tb HTO.out).mono ?_
      rintro e W ⟨R, rfl, hr, hb⟩
      have HR := Lib.hid hr
      replace HB := Lib.hid (HB.out.trans (hb.mono HB.out.size))
      clear hr hb
      rcases HTO.out with ⟨rfl, hat⟩ | ⟨rfl, _, rfl, rfl⟩
      · obtain ⟨ds, hds⟩ : ∃ ds, enc s.length ++ s = ds := ⟨_, rfl⟩
        have HDS := Lib.hid ((texts_single s).trans hds)
        have HE : Hid (ds ++ q = bs) := by
          have h := hat.2.symm
          rw [← List.append_assoc, hds] at h
          exact h
        clear hds
        have hsz : ∀ x ∈ [ofL s], x.size ≤ 3000 := fun x hx => by
          rw [List.mem_singleton] at hx
          subst hx
          have h1 := HL.out
          rw [hat.2, List.length_append, List.length_append] at h1
          rw [ofL_size]
          omega
        have HSZ := Lib.hid hsz
        clear hat HTO hsz
        go_wp2_with fail
        refine (texts_v _ [ofL s] _ (tsl_lit W [ofL s] 1 rfl _ rfl) (by simp) HSZ.out ds HDS.out).mono ?_
        have hlow : w.heap.size ≤ (W.alloc (.cells #[.string (ofL s)] 9)).heap.size := Nat.le_trans HB.out.size (below_lit W _).size
        rintro e W ⟨x, M, rfl, ho, hb⟩
        have hb' := below_from hb
        replace HR := Lib.hid (HR.out.below hb')
        replace HB := Lib.hid (HB.out.trans (hb'.mono HB.out.size))
        clear hb hb' HSZ
        have HOn := Lib.hid (own_base ho hlow)
        have hbase : w.heap.size ≤ W.heap.size := HB.out.size
        have hlen : M + (q).length ≤ 3000 := by
          have h1 := HL.out
          rw [← HE.out, List.length_append, own_len ho] at h1
          exact h1
        clear ho hlow
        go_wp2_with (at_builtin; refine wpList_append_bytes_w rfl _ _ rfl w.heap.size _ M _ rfl HOn.out _ _ rfl HR.out ?ca hbase ?_)
        case ca => omega
        intro y W hown hgrow
        replace HB := Lib.hid (HB.out.grown hgrow hbase (own_block HOn.out))
        rw [← List.map_append, HE.out] at hown
        have HY := Lib.hid (bsl_own hown)
        clear hown hgrow HOn HR hlen hbase
        go_wp2_with fail
        refine (sameBytes_b _ _ bs bs _ HY.out (HS.out.below HB.out) (by have := HL.out; omega) true (decide_eq_true rfl)).mono ?_
        rintro e W ⟨rfl, hb⟩
        replace HB := Lib.hid (HB.out.trans (hb.mono HB.out.size))
        clear HY hb HE
        go_wp2_with fail
        refine (take_v _ bs 3000 _ (HS.out.below HB.out) (by have := HL.out; omega) l p kb HKO.out).mono ?_
        rintro e W ⟨V, R, rfl, hv, hr, hb⟩
        have HR := Lib.hid hr
        have HV := Lib.hid hv
        replace HB := Lib.hid (HB.out.trans (hb.mono HB.out.size))
        clear hr hb hv
        rcases HKO.out with ⟨rfl, hat, hmost⟩ | ⟨rfl, _, rfl, rfl⟩
        · obtain ⟨ds, hds⟩ : ∃ ds, enc l.length ++ textsE l = ds := ⟨_, rfl⟩
          have HDS := Lib.hid ((list_again l).trans hds)
          have HE : Hid (ds ++ p = bs) := by
            have h := hat.2.2.symm
            rw [← List.append_assoc, hds] at h
            exact h
          clear hds
          have HSZ : Hid (∀ x ∈ l.map ofL, x.size ≤ 3000) := fun x hx => Nat.le_trans (take_sizes hat x hx) HL.out
          have hl3 : (l.map ofL).length ≤ 3000 := by rw [List.length_map]; omega
          clear hat HKO
          go_wp2_with fail
          refine (list_v _ (l.map ofL) _ HV.out hl3 HSZ.out ds HDS.out).mono ?_
          have hlow : w.heap.size ≤ W.heap.size := HB.out.size
          rintro e W ⟨x, M, rfl, ho, hb⟩
          replace HR := Lib.hid (HR.out.below hb)
          replace HB := Lib.hid (HB.out.trans (hb.mono HB.out.size))
          clear hb HSZ hl3 HV
          have HOn := Lib.hid (own_base ho hlow)
          have hbase : w.heap.size ≤ W.heap.size := HB.out.size
          have hlen : M + (p).length ≤ 3000 := by
            have h1 := HL.out
            rw [← HE.out, List.length_append, own_len ho] at h1
            exact h1
          clear ho hlow
          go_wp2_with (at_builtin; refine wpList_append_bytes_w rfl _ _ rfl w.heap.size _ M _ rfl HOn.out _ _ rfl HR.out ?ca hbase ?_)
          case ca => omega
          intro y W hown hgrow
          replace HB := Lib.hid (HB.out.grown hgrow hbase (own_block HOn.out))
          rw [← List.map_append, HE.out] at hown
          have HY := Lib.hid (bsl_own hown)
          clear hown hgrow HOn HR hlen hbase
          go_wp2_with fail
          refine (sameBytes_b _ _ bs bs _ HY.out (HS.out.below HB.out) (by have := HL.out; omega) true (decide_eq_true rfl)).mono ?_
          rintro e W ⟨rfl, hb⟩
          replace HB := Lib.hid (HB.out.trans (hb.mono HB.out.size))
          clear HY hb HE
          go_wp2_with fail
          go_ret
          exact ⟨rfl, HB.out⟩
        · go_wp2_with fail
          go_ret
          exact ⟨rfl, HB.out⟩
      · clear HTO HR
        go_wp2_with fail
        refine (take_v _ bs 3000 _ (HS.out.below HB.out) (by have := HL.out; omega) l p kb HKO.out).mono ?_
        rintro e W ⟨V, R, rfl, hv, hr, hb⟩
        have HR := Lib.hid hr
        have HV := Lib.hid hv
        replace HB := Lib.hid (HB.out.trans (hb.mono HB.out.size))
        clear hr hb hv
        rcases HKO.out with ⟨rfl, hat, hmost⟩ | ⟨rfl, _, rfl, rfl⟩
        · obtain ⟨ds, hds⟩ : ∃ ds, enc l.length ++ textsE l = ds := ⟨_, rfl⟩
          have HDS := Lib.hid ((list_again l).trans hds)
          have HE : Hid (ds ++ p = bs) := by
            have h := hat.2.2.symm
            rw [← List.append_assoc, hds] at h
            exact h
          clear hds
          have HSZ : Hid (∀ x ∈ l.map ofL, x.size ≤ 3000) := fun x hx => Nat.le_trans (take_sizes hat x hx) HL.out
          have hl3 : (l.map ofL).length ≤ 3000 := by rw [List.length_map]; omega
          clear hat HKO
          go_wp2_with fail
          refine (list_v _ (l.map ofL) _ HV.out hl3 HSZ.out ds HDS.out).mono ?_
          have hlow : w.heap.size ≤ W.heap.size := HB.out.size
          rintro e W ⟨x, M, rfl, ho, hb⟩
          replace HR := Lib.hid (HR.out.below hb)
          replace HB := Lib.hid (HB.out.trans (hb.mono HB.out.size))
          clear hb HSZ hl3 HV
          have HOn := Lib.hid (own_base ho hlow)
          have hbase : w.heap.size ≤ W.heap.size := HB.out.size
          have hlen : M + (p).length ≤ 3000 := by
            have h1 := HL.out
            rw [← HE.out, List.length_append, own_len ho] at h1
            exact h1
          clear ho hlow
          go_wp2_with (at_builtin; refine wpList_append_bytes_w rfl _ _ rfl w.heap.size _ M _ rfl HOn.out _ _ rfl HR.out ?ca hbase ?_)
          case ca => omega
          intro y W hown hgrow
          replace HB := Lib.hid (HB.out.grown hgrow hbase (own_block HOn.out))
          rw [← List.map_append, HE.out] at hown
          have HY := Lib.hid (bsl_own hown)
          clear hown hgrow HOn HR hlen hbase
          go_wp2_with fail
          refine (sameBytes_b _ _ bs bs _ HY.out (HS.out.below HB.out) (by have := HL.out; omega) true (decide_eq_true rfl)).mono ?_
          rintro e W ⟨rfl, hb⟩
          replace HB := Lib.hid (HB.out.trans (hb.mono HB.out.size))
          clear HY hb HE
          go_wp2_with fail
          go_ret
          exact ⟨rfl, HB.out⟩
        · go_wp2_with fail
          go_ret
          exact ⟨rfl, HB.out⟩
end Go.Proofs.Ytgjjaalojelmhaa
