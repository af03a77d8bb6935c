/-
  The contract of package wire's function Take.
  Conditions: the bytes lie in memory as told by 'Byt'; they are at most 2^40.
-/
import Derived.Test.YtgjjaalojelmhaaTake
namespace Go.Proofs.Ytgjjaalojelmhaa
open Go.RowKit
open Wire

def TakeRet (w : World) (bs : List UInt8) (most : Int) (e : Ending) (w' : World) : Prop :=
  ∃ (l : List (List UInt8)) (r : List UInt8) (b : Bool) (V S : Value), e = .returned (.tuple #[V, S, .bool b]) ∧ TakeOut bs most l r b ∧ TSl w' V (l.map ofL) ∧ BSl w' S r ∧ Below w.heap.size w w'
/-- If there is no number, or a greater one than so many, there is no list of so many. -/
theorem take_none {bs : List UInt8} (most : Int) (h : ∀ v r, ¬ NumAt bs v r) : TakeOut bs most [] [] false := .inr ⟨rfl, fun _ _ ht => absurd ⟨ht.1, ht.2.2⟩ (h _ _), rfl, rfl⟩
theorem take_many {bs : List UInt8} {most : Int} {v : Nat} {r : List UInt8} (h : NumAt bs v r) (hv : most < (v : Int)) : TakeOut bs most [] [] false := .inr ⟨rfl, fun _ _ ht hm => by
  obtain ⟨e, _⟩ := h.one ⟨ht.1, ht.2.2⟩
  omega, rfl, rfl⟩
theorem take_stop {bs : List UInt8} {most : Int} {v : Nat} {r q : List UInt8} {l : List (List UInt8)} (h : NumAt bs v r) (ht : TextsAt r l q) (hl : l.length < v) (hn : ∀ s q', ¬ TextAt q s q') : TakeOut bs most [] [] false := .inr ⟨rfl, fun k q' hk _ => by
  obtain ⟨e1, e2⟩ := h.one ⟨hk.1, hk.2.2⟩
  exact textsAt_stop ht hn k q' (by omega) ⟨hk.2.1, e2⟩, rfl, rfl⟩
theorem take_all {bs : List UInt8} {most : Int} {v : Nat} {r q : List UInt8} {l : List (List UInt8)} (h : NumAt bs v r) (ht : TextsAt r l q) (hl : l.length = v) (hm : (v : Int) ≤ most) : TakeOut bs most l q true := .inl ⟨rfl, ⟨by rw [hl]; exact h.1, ht.1, by rw [hl, ← ht.2]; exact h.2⟩, by rw [hl]; exact hm⟩

theorem byt_if {w : World} {b o c k : Nat} {bs : List UInt8} (h : Byt w (some ⟨b, o, none⟩) bs) (hc : bs.length ≤ c) : Byt w (if c = k then some ⟨b, o, none⟩ else some ⟨b, o + k, none⟩) (bs.drop k) := by
  by_cases e : c = k
  · rw [List.drop_of_length_le (by omega)]
    exact byt_nil _ _
  · rw [if_neg e]
    exact h.drop k
set_option maxHeartbeats 1000000 in
theorem take_any (A : Option Addr) (n c : Nat) (bs : List UInt8) (most : Int) (w : World) (hx : Byt w A bs) (hN : bs.length = n) (hc : n ≤ c) (hA : A = none → c = 0) (hn : n ≤ 5000000) :
    Calls Try.prog 17 #[.slice A n c, .int .i64 most] w (TakeRet w bs most) := by
  obtain ⟨i0, hi, hz0, hz1, hz2⟩ := info_parts infoStr
  have HX := Lib.hid hx
  have HN := Lib.hid hN
  have HA := Lib.hid hA
  clear hx hN hA
  go_enter Try.func17, Try.ntmps17
  go_wp2_with fail
  refine (number_any A n c bs _ HX.out HN.out hc).mono ?_
  rintro e w1 ⟨v, L, rfl, hs, rfl⟩
  have HS := Lib.hid hs
  clear hs
  by_cases h0 : L = 0
  · subst h0
    have HR : Hid (TakeOut bs most [] [] false) := take_none most (numSays_no HS.out).1
    go_wp2_with fail
    go_ret3
    exact ⟨[], [], false, _, _, rfl, HR.out, tsl_nil _, bsl_nil _, Below.refl _ _⟩
  · obtain ⟨h1, h2, h3, h4, h5⟩ := numSays_at HS.out h0
    have hd0 : decide ((L : Int) = 0) = false := by simp; omega
    have h4' : L ≤ n := by rw [← HN.out]; exact h4
    have H1 := Lib.hid h1
    by_cases hm : most < (v : Int)
    · have hd1 : decide (most < (v : Int)) = true := by simp; omega
      have HR : Hid (TakeOut bs most [] [] false) := take_many h1 hm
      clear h1 h2
      go_wp2_with fail
      go_ret3
      exact ⟨[], [], false, _, _, rfl, HR.out, tsl_nil _, bsl_nil _, Below.refl _ _⟩
    · have hd1 : decide (most < (v : Int)) = false := by simp; omega
      obtain ⟨b, o, rfl, hb, _⟩ := HX.out (fun e => by subst e; simp at h4; omega)
      clear h1 h2
      go_wp2_with fail
      have HLV := Lib.hid (show (bs.drop L).length = n - L by rw [List.length_drop, HN.out])
      have hL0 : ((L : Int) == 0) = false := by simp; omega
      rw [hL0]
      go_loopw [8, 9, 25] (fun a lst i wr => ∃ k at_ : Nat, i = .int .i64 k ∧ a = .int .i64 at_ ∧ k ≤ v ∧ k ≤ at_ ∧ at_ ≤ n ∧ ∃ l M, l.length = k ∧ Hid (TextsAt (bs.drop L) l (bs.drop at_)) ∧ wr.ownsRow w.heap.size 9 1 lst M ((l.map ofL).map Value.string) ∧ Below w.heap.size w wr) (fun _ _ i _ => v - (intOf i).toNat)
      case atStart => exact ⟨0, L, rfl, rfl, Nat.zero_le _, Nat.zero_le _, h4', [], 0, rfl, ⟨fun s hs => by simp at hs, by simp [textsE]⟩, World.ownsRow_nil _ _ _ _, Below.refl _ _⟩
      case round =>
        obtain ⟨k, at_, rfl, rfl, hk, hka, han, l, M, hlk, hta, ho, hbel⟩ := hrel
        have HO := Lib.hid ho
        have HB := Lib.hid hbel
        have hbase : w.heap.size ≤ wr.heap.size := hbel.size
        have hMk : M = k := by
          have := ho.1
          simp at this
          omega
        have HLK := Lib.hid hlk
        have HXW := Lib.hid (HX.out.below hbel)
        have HDN := Lib.hid (show (bs.drop at_).length = n - at_ by rw [List.length_drop, HN.out])
        clear ho hbel hlk
        subst hMk
        by_cases hlt : M < v
        · have hln : (M : Int) < (v : Int) := by omega
          by_cases hca : c = at_
          · have hdr : bs.drop at_ = [] := List.drop_of_length_le (by rw [HN.out]; omega)
            have hn0 : n - at_ = 0 := by omega
            have hc0 : c - at_ = 0 := by omega
            rw [hdr] at hta
            have HTA0 := Lib.hid hta.out
            go_wp2_with fail
            refine (text_any _ 0 0 [] wr (byt_nil _ _) rfl (Nat.le_refl _) (fun h => by cases h) (by omega)).mono ?_
            rintro e w1 ⟨s, z, rfl, hs, rfl⟩
            obtain rfl : z = 0 := by
              rcases Nat.eq_zero_or_pos z with h | h
              · exact h
              · have := (textSays_at hs (by omega)).2.1
                simpa using this
            have HS2 := Lib.hid hs
            have HR : Hid (TakeOut bs most [] [] false) := take_stop H1.out HTA0.out (by rw [HLK.out]; exact hlt) (textSays_no HS2.out).1
            clear hs hdr hn0 hc0
            go_wp2_with fail
            go_ret3
            exact ⟨[], [], false, _, _, rfl, HR.out, tsl_nil _, bsl_nil _, HB.out⟩
          · go_wp2_with fail
            refine (text_any _ (n - at_) (c - at_) (bs.drop at_) wr (HXW.out.drop at_) HDN.out (by omega) (fun h => by cases h) (by omega)).mono ?_
            rintro e w1 ⟨s, z, rfl, hs, rfl⟩
            have HS2 := Lib.hid hs
            clear hs
            by_cases hz : z = 0
            · subst hz
              have HR : Hid (TakeOut bs most [] [] false) := take_stop H1.out hta.out (by rw [HLK.out]; exact hlt) (textSays_no HS2.out).1
              go_wp2_with fail
              go_ret3
              exact ⟨[], [], false, _, _, rfl, HR.out, tsl_nil _, bsl_nil _, HB.out⟩
            · obtain ⟨h6, h7, h8⟩ := textSays_at HS2.out hz
              rw [HDN.out] at h7
              rw [List.drop_drop] at h6
              have HTA : Hid (TextsAt (bs.drop L) (l ++ [s]) (bs.drop (at_ + z))) := textsAt_next hta.out h6
              have hdz : decide ((z : Int) = 0) = false := by simp; omega
              clear h6
              go_wp2_with (at_builtin; refine wpList_append_own _ rfl _ _ 23 rfl w.heap.size 9 i0 (.string ByteArray.empty) 1 16 Try.underlying23 hi hz0 hz1 hz2 rfl (by decide) _ M ((l.map ofL).map Value.string) rfl (own_alloc HO.out _) _ 1 1 [_] rfl rfl (cell_one_new _ _ _) (str_oneCell _) ?c4 ?c5 ?c6 ?_)
              case c4 => unfold maxLen; omega
              case c5 => omega
              case c6 => simp; omega
              intro v' w1 hown hgrow _
              have HB' := Lib.hid (below_lay HB.out hbase HO.out hgrow)
              have HO2 : Hid (w1.ownsRow w.heap.size 9 1 v' (M + 1) (((l ++ [s]).map ofL).map Value.string)) := by
                show w1.ownsRow w.heap.size 9 1 v' (M + 1) (((l ++ [s]).map ofL).map Value.string)
                rw [List.map_append, List.map_append, List.map_map]
                exact hown
              have HLK2 : Hid ((l ++ [s]).length = M + 1) := by rw [List.length_append, HLK.out]; rfl
              have hb1 : M + 1 ≤ v := by omega
              have hb2 : M + 1 ≤ at_ + z := by omega
              have hb3 : at_ + z ≤ n := by omega
              clear hown hgrow HO HB
              go_wp2
              go_roundw
              case rel => exact ⟨M + 1, at_ + z, by go_num, by go_num, hb1, hb2, hb3, _, _, HLK2.out, HTA, HO2.out, HB'.out⟩
              case measure => simp [intOf]; omega
        · obtain rfl : M = v := by omega
          have HR : Hid (TakeOut bs most l (bs.drop at_) true) := take_all H1.out hta.out HLK.out (by omega)
          go_wp2_with fail
          refine (behind_own _ n c at_ bs _ _ HXW.out HN.out hc (fun h => by cases h) han (by omega) rfl).mono ?_
          rintro e w2 ⟨S, M2, rfl, ho2, hb2⟩
          have HO2 := Lib.hid ho2
          have HB2 := Lib.hid (HB.out.trans (hb2.mono hbase))
          have HT := Lib.hid ((tsl_own HO.out).below hb2)
          clear ho2 hb2
          go_wp2_with fail
          go_ret3
          exact ⟨l, _, true, _, S, rfl, HR.out, HT.out, bsl_own HO2.out, HB2.out⟩
end Go.Proofs.Ytgjjaalojelmhaa
