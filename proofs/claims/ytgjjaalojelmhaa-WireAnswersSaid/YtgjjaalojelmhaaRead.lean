/-
  The contracts of package wire's functions number, text, behind, Num, Text and Take: what stands at the beginning of bytes, and what behind it.
  Conditions: each contract's own.
-/
import Derived.Test.YtgjjaalojelmhaaNums
namespace Go.Proofs.Ytgjjaalojelmhaa
open Go.RowKit
open Wire

theorem enc_most : (enc 1099511627776).length = 6 := by
  rw [enc_more (by omega), enc_more (by omega), enc_more (by omega), enc_more (by omega), enc_more (by omega), enc_small (by omega)]
  rfl
/-- Up to k all bytes go on. -/
def GoOn (bs : List UInt8) (k : Nat) : Prop := ∀ j (hj : j < bs.length), j < k → 128 ≤ (bs[j]).toNat
theorem GoOn.zero (bs : List UInt8) : GoOn bs 0 := fun _ _ h => absurd h (Nat.not_lt_zero _)
theorem GoOn.succ {bs : List UInt8} {k : Nat} (h : GoOn bs k) (hk : k < bs.length) (e : 128 ≤ (bs[k]).toNat) : GoOn bs (k + 1) := fun j hj hlt => by
  by_cases e' : j = k
  · subst e'; exact e
  · exact h j hj (by omega)
/-- The number at the beginning of bytes and how many of them it has; twice 0, if there is none. -/
def NumSays (bs : List UInt8) (v s : Nat) : Prop := (∃ r, NumAt bs v r ∧ s = (enc v).length) ∨ ((∀ v r, ¬ NumAt bs v r) ∧ v = 0 ∧ s = 0)
/-- Bytes that end are a number's, if they are just as many as those of what they tell. -/
theorem enc_val {l : List UInt8} (hs : Shape l) (hl : (enc (val l)).length = l.length) : enc (val l) = l := by
  obtain ⟨p, c, rfl, h1, h2⟩ := hs
  induction p with
  | nil =>
    have : val ([] ++ [c]) = c.toNat := by simp [val]; omega
    rw [this, enc_small h2, ofNat_toNat]
    rfl
  | cons d p ih =>
    rw [List.cons_append] at hl ⊢
    have hd := h1 d (by simp)
    have hd2 := UInt8.toNat_lt d
    rw [val] at hl ⊢
    by_cases h : d.toNat % 128 + 128 * val (p ++ [c]) < 128
    · rw [enc_small h] at hl
      simp at hl
    · have e1 : (d.toNat % 128 + 128 * val (p ++ [c])) / 128 = val (p ++ [c]) := by omega
      have e2 : (d.toNat % 128 + 128 * val (p ++ [c])) % 128 + 128 = d.toNat := by omega
      rw [enc_more h, e1, e2, List.length_cons, List.length_cons] at hl
      rw [enc_more h, e1, e2, ofNat_toNat, ih (by omega) (fun x hx => h1 x (List.mem_cons_of_mem _ hx))]
theorem goOn_shape {bs : List UInt8} {k : Nat} (h : GoOn bs k) (hk : k < bs.length) (e : (bs[k]).toNat < 128) : Shape (bs.take (k + 1)) :=
  ⟨bs.take k, bs[k], take_snoc bs hk, fun x hx => by
    obtain ⟨j, hj, rfl⟩ := List.mem_take_iff_getElem.1 hx
    exact h j (by omega) (by omega), e⟩
theorem says_none {bs : List UInt8} {k : Nat} (h : GoOn bs k) (hk : bs.length ≤ k ∨ 6 ≤ k) : NumSays bs 0 0 := .inr ⟨fun v r => numAt_none h hk v r, rfl, rfl⟩
theorem says_end {bs : List UInt8} {k : Nat} (h : GoOn bs k) (hk : k < bs.length) (e : (bs[k]).toNat < 128) (L : Nat) (hL : sizeI (val (bs.take (k + 1)) : Nat) = L) :
    (L = k + 1 → NumSays bs (val (bs.take (k + 1))) (k + 1)) ∧ (L ≠ k + 1 → NumSays bs 0 0) := by
  have hlen : (bs.take (k + 1)).length = k + 1 := by rw [List.length_take]; omega
  by_cases hv : val (bs.take (k + 1)) ≤ 1099511627776
  · rw [sizeI_num hv] at hL
    refine ⟨fun h1 => ?_, fun h1 => ?_⟩
    · have h2 := enc_val (goOn_shape h hk e) (by rw [hL, hlen, h1])
      exact .inl ⟨bs.drop (k + 1), (numAt_iff hk h e _ _).2 ⟨hv, rfl, h2, rfl⟩, by rw [hL, h1]⟩
    · refine .inr ⟨fun v r hn => h1 ?_, rfl, rfl⟩
      obtain ⟨_, h3, h4, _⟩ := (numAt_iff hk h e _ _).1 hn
      rw [← hL, ← h3, h4, hlen]
  · rw [sizeI_no (.inr (by omega))] at hL
    refine ⟨fun h1 => by omega, fun _ => .inr ⟨fun v r hn => ?_, rfl, rfl⟩⟩
    obtain ⟨h2, h3, _, _⟩ := (numAt_iff hk h e _ _).1 hn
    omega

/-- One byte more: its low seven bits, seven places higher. -/
theorem val_snoc (p : List UInt8) (c : UInt8) : val (p ++ [c]) = val p + 128 ^ p.length * (c.toNat % 128) := by
  rw [val_append]; simp [val]
theorem and127 (x : UInt8) : bits .and .u8 (x.toNat : Int) 127 = ((x.toNat % 128 : Nat) : Int) := by
  rw [show (127 : Int) = ((127 : Nat) : Int) from rfl, u8_and_nat _ _ (UInt8.toNat_lt x) (by omega)]
  have h := Nat.and_two_pow_sub_one_eq_mod x.toNat 7
  rw [show (2 ^ 7 - 1 : Nat) = 127 from rfl, show (2 ^ 7 : Nat) = 128 from rfl] at h
  rw [h]
theorem i64_or_nat (a b : Nat) (ha : a < 2 ^ 63) (hb : b < 2 ^ 63) : bits .or .i64 (a : Int) (b : Int) = ((a ||| b : Nat) : Int) := by
  have hx : a ||| b < 2 ^ 63 := Nat.or_lt_two_pow ha hb
  show IntKind.i64.wrap ((BitVec.ofInt 64 (a : Int) ||| BitVec.ofInt 64 (b : Int)).toNat : Int) = _
  rw [BitVec.toNat_or, ofInt_u64 a (by omega), ofInt_u64 b (by omega), IntKind.wrap_i64]
  omega
theorem pow128 (k : Nat) : 128 ^ k = 2 ^ (7 * k) := by rw [Nat.pow_mul]
theorem or_step {u k : Nat} (x : UInt8) (hu : u < 128 ^ k) (hk : k ≤ 5) :
    bits .or .i64 (u : Int) (wrap64 (wrap64 (bits .and .u8 (x.toNat : Int) 127) * 2 ^ (7 * k))) = ((u + 128 ^ k * (x.toNat % 128) : Nat) : Int) := by
  have hp : 128 ^ k ≤ 128 ^ 5 := Nat.pow_le_pow_right (by omega) hk
  have hm : 128 ^ k * (x.toNat % 128) ≤ 128 ^ 5 * 127 := Nat.mul_le_mul hp (by omega)
  have e1 : (wrap64 (bits .and .u8 (x.toNat : Int) 127) * 2 ^ (7 * k)) = ((128 ^ k * (x.toNat % 128) : Nat) : Int) := by
    rw [and127, show wrap64 (((x.toNat % 128 : Nat)) : Int) = ((x.toNat % 128 : Nat) : Int) by unfold wrap64; omega, pow128, Int.natCast_mul, Int.mul_comm]
    simp
  rw [e1, show wrap64 ((128 ^ k * (x.toNat % 128) : Nat) : Int) = ((128 ^ k * (x.toNat % 128) : Nat) : Int) by unfold wrap64; omega]
  rw [i64_or_nat _ _ (by omega) (by omega)]
  rw [pow128] at hu ⊢
  rw [Nat.or_comm, ← Nat.two_pow_add_eq_or_of_lt hu, Nat.add_comm]
theorem val_take {bs : List UInt8} {k : Nat} (hk : k < bs.length) : val (bs.take (k + 1)) = val (bs.take k) + 128 ^ k * ((bs[k]).toNat % 128) := by
  rw [take_snoc bs hk, val_snoc, List.length_take, Nat.min_eq_left (by omega)]
theorem val_small (bs : List UInt8) {k : Nat} (hk : k ≤ bs.length) : val (bs.take k) < 128 ^ k := by
  have := val_lt (bs.take k)
  rwa [List.length_take, Nat.min_eq_left hk] at this
set_option maxHeartbeats 1000000 in
theorem number_any (A : Option Addr) (n c : Nat) (bs : List UInt8) (w : World) (hx : Byt w A bs) (hN : bs.length = n) (hc : n ≤ c) :
    Calls Try.prog 29 #[.slice A n c] w fun e w' => ∃ v s : Nat, e = .returned (.tuple #[.int .i64 v, .int .i64 s]) ∧ NumSays bs v s ∧ w = w' := by
  have HX := Lib.hid hx
  have HN := Lib.hid hN
  clear hx hN
  have HL := Lib.hid enc_most
  go_enter Try.func29, Try.ntmps29
  go_wp2_with (go_at_call 19; refine (size_num 1099511627776 _ (Nat.le_refl _) 6 HL.out).mono ?_; rintro e w1 ⟨rfl, rfl⟩)
  · rename_i hmin
    have hn6 : 6 < n := by omega
    rw [show (max 6 0 : Int) = 6 from rfl]
    go_loopw [2, 15] (fun v i wr => ∃ k : Nat, k ≤ 6 ∧ i = .int .i64 k ∧ ∃ u : Nat, v = .int .i64 u ∧ Hid (u = val (bs.take k) ∧ GoOn bs k) ∧ w = wr) (fun _ i _ => 6 - (intOf i).toNat)
    case atStart => exact ⟨0, Nat.zero_le _, rfl, 0, rfl, ⟨by simp [val], GoOn.zero _⟩, rfl⟩
    case round =>
      obtain ⟨k, hk, rfl, u, rfl, hu, rfl⟩ := hrel
      by_cases hlt : k < 6
      · have hx1 : k < bs.length := by rw [HN.out]; omega
        obtain ⟨bk, o, rfl, hb, hcell⟩ := HX.out.at_ hx1
        have hln : (k : Int) < (6 : Int) := by omega
        have hor := or_step bs[k] (u := u) (k := k) (by rw [hu.out.1]; exact val_small bs (by omega)) (by omega)
        have HV : Hid (u + 128 ^ k * ((bs[k]).toNat % 128) = val (bs.take (k + 1))) := by
          have := hu.out.1
          subst this
          exact (val_take hx1).symm
        by_cases hgo : 128 ≤ (bs[k]).toNat
        · have hd : decide ((128 : Int) ≤ ((bs[k]).toNat : Int)) = true := by simp; omega
          have HG : Hid (GoOn bs (k + 1)) := hu.out.2.succ hx1 hgo
          generalize bs[k] = x at *
          have HOR := Lib.hid hor
          clear hor
          go_wp2_with fail
          go_roundw
          case rel => exact ⟨k + 1, by omega, by go_num, _, by rw [HOR.out], ⟨HV.out, HG.out⟩, trivial⟩
          case measure => simp [intOf]; omega
        · have hd : decide ((128 : Int) ≤ ((bs[k]).toNat : Int)) = false := by simp; omega
          obtain ⟨L, hL⟩ : ∃ L, sizeI (val (bs.take (k + 1)) : Nat) = L := ⟨_, rfl⟩
          have HE := Lib.hid (says_end hu.out.2 hx1 (by omega) L hL)
          rw [← HV.out] at hL
          have HSZ := Lib.hid hL
          rw [← HV.out] at HE
          generalize bs[k] = x at *
          have HOR := Lib.hid hor
          clear hor hL
          go_wp2_with fail
          rw [HOR.out]
          generalize u + 128 ^ k * (x.toNat % 128) = U at *
          refine (size_any _ _ L HSZ.out).mono ?_
          rintro e w1 ⟨rfl, rfl⟩
          by_cases hLk : L = k + 1
          · subst hLk
            have HR := Lib.hid (HE.out.1 rfl)
            go_wp2_with fail
            go_ret2
            exact ⟨U, k + 1, by simp, HR.out, rfl⟩
          · have HR := Lib.hid (HE.out.2 hLk)
            have hne : decide ((L : Int) = (k : Int) + 1) = false := by simp; omega
            go_wp2_with fail
            go_ret2
            exact ⟨0, 0, rfl, HR.out, rfl⟩
      · obtain rfl : k = 6 := by omega
        have HR : Hid (NumSays bs 0 0) := says_none hu.out.2 (.inr (Nat.le_refl _))
        go_wp2_with fail
        go_ret2
        exact ⟨0, 0, rfl, HR.out, rfl⟩
  · rename_i hmin
    have hn6 : n ≤ 6 := by omega
    go_loopw [2, 15] (fun v i wr => ∃ k : Nat, k ≤ n ∧ i = .int .i64 k ∧ ∃ u : Nat, v = .int .i64 u ∧ Hid (u = val (bs.take k) ∧ GoOn bs k) ∧ w = wr) (fun _ i _ => n - (intOf i).toNat)
    case atStart => exact ⟨0, Nat.zero_le _, rfl, 0, rfl, ⟨by simp [val], GoOn.zero _⟩, rfl⟩
    case round =>
      obtain ⟨k, hk, rfl, u, rfl, hu, rfl⟩ := hrel
      by_cases hlt : k < n
      · have hx1 : k < bs.length := by rw [HN.out]; omega
        obtain ⟨bk, o, rfl, hb, hcell⟩ := HX.out.at_ hx1
        have hln : (k : Int) < (n : Int) := by omega
        have hor := or_step bs[k] (u := u) (k := k) (by rw [hu.out.1]; exact val_small bs (by omega)) (by omega)
        have HV : Hid (u + 128 ^ k * ((bs[k]).toNat % 128) = val (bs.take (k + 1))) := by
          have := hu.out.1
          subst this
          exact (val_take hx1).symm
        by_cases hgo : 128 ≤ (bs[k]).toNat
        · have hd : decide ((128 : Int) ≤ ((bs[k]).toNat : Int)) = true := by simp; omega
          have HG : Hid (GoOn bs (k + 1)) := hu.out.2.succ hx1 hgo
          generalize bs[k] = x at *
          have HOR := Lib.hid hor
          clear hor
          go_wp2_with fail
          go_roundw
          case rel => exact ⟨k + 1, by omega, by go_num, _, by rw [HOR.out], ⟨HV.out, HG.out⟩, trivial⟩
          case measure => simp [intOf]; omega
        · have hd : decide ((128 : Int) ≤ ((bs[k]).toNat : Int)) = false := by simp; omega
          obtain ⟨L, hL⟩ : ∃ L, sizeI (val (bs.take (k + 1)) : Nat) = L := ⟨_, rfl⟩
          have HE := Lib.hid (says_end hu.out.2 hx1 (by omega) L hL)
          rw [← HV.out] at hL
          have HSZ := Lib.hid hL
          rw [← HV.out] at HE
          generalize bs[k] = x at *
          have HOR := Lib.hid hor
          clear hor hL
          go_wp2_with fail
          rw [HOR.out]
          generalize u + 128 ^ k * (x.toNat % 128) = U at *
          refine (size_any _ _ L HSZ.out).mono ?_
          rintro e w1 ⟨rfl, rfl⟩
          by_cases hLk : L = k + 1
          · subst hLk
            have HR := Lib.hid (HE.out.1 rfl)
            go_wp2_with fail
            go_ret2
            exact ⟨U, k + 1, by simp, HR.out, rfl⟩
          · have HR := Lib.hid (HE.out.2 hLk)
            have hne : decide ((L : Int) = (k : Int) + 1) = false := by simp; omega
            go_wp2_with fail
            go_ret2
            exact ⟨0, 0, rfl, HR.out, rfl⟩
      · obtain rfl : k = n := by omega
        have HR : Hid (NumSays bs 0 0) := says_none hu.out.2 (.inl (by rw [HN.out]; exact Nat.le_refl _))
        go_wp2_with fail
        go_ret2
        exact ⟨0, 0, rfl, HR.out, rfl⟩

set_option maxHeartbeats 1000000 in
theorem behind_own (A : Option Addr) (n c at_ : Nat) (bs ds : List UInt8) (w : World) (hx : Byt w A bs) (hN : bs.length = n) (hc : n ≤ c) (hA : A = none → c = 0) (ha : at_ ≤ n) (hn : n ≤ 140737488355328) (hd : bs.drop at_ = ds) :
    Calls Try.prog 30 #[.slice A n c, .int .i64 at_] w (OwnRet w.heap.size w ds) := by
  obtain ⟨i0, hi, hz0, hz1, hz2⟩ := info_parts infoU8
  by_cases h0 : A = none
  · subst h0
    obtain rfl := hA rfl
    obtain rfl : n = 0 := by omega
    obtain rfl : at_ = 0 := by omega
    obtain rfl : bs = [] := List.length_eq_zero_iff.1 hN
    subst hd
    go_enter Try.func30, Try.ntmps30
    go_wp2_with (at_builtin; refine wpList_append_own_none rfl _ _ 24 rfl w.heap.size 5 i0 1 Try.underlying24 hi _ 0 [] rfl (World.ownsRow_nil _ _ _ _) rfl ?_)
    go_ret
    exact ⟨_, 0, rfl, World.ownsRow_nil _ _ _ _, Below.refl _ _⟩
  · obtain ⟨ad, rfl⟩ : ∃ ad, A = some ad := by
      cases A with
      | none => exact absurd rfl h0
      | some ad => exact ⟨ad, rfl⟩
    have HX := Lib.hid hx
    have HN := Lib.hid hN
    have HD := Lib.hid hd
    have h1 : (at_ : Int) ≤ (n : Int) := by omega
    clear hx hN hd hA h0
    by_cases hca : c = at_
    · obtain rfl : n = c := by omega
      obtain rfl : at_ = n := hca.symm
      obtain rfl : ds = [] := by rw [← HD.out]; exact List.drop_of_length_le (by rw [HN.out]; exact Nat.le_refl _)
      go_enter Try.func30, Try.ntmps30
      go_wp2
      go_ret
      exact ⟨_, 0, rfl, World.ownsRow_nil _ _ _ _, Below.refl _ _⟩
    · have hcl := (HX.out.drop' at_).cells
      rw [HD.out] at hcl
      have HC := Lib.hid hcl
      have HDN : Hid (ds.length = n - at_) := by rw [← HD.out, List.length_drop, HN.out]; rfl
      clear hcl
      go_enter Try.func30, Try.ntmps30
      go_wp2_with (at_builtin; refine wpList_append_own _ rfl _ _ 24 rfl w.heap.size 5 i0 (.int .u8 0) 1 1 Try.underlying24 hi hz0 hz1 hz2 rfl (by decide) _ 0 [] rfl (World.ownsRow_nil _ _ _ _) (ad.add at_) (n - at_) (c - at_) (ds.map bv) rfl ?c2 HC.out (bytes_oneCell _) ?c4 ?c5 ?c6 ?_)
      case c2 => rw [List.length_map, HDN.out, Nat.mul_one]
      case c4 => unfold maxLen; omega
      case c5 => omega
      case c6 => exact Nat.le_refl _
      intro v' w1 hown hgrow _
      have HB := Lib.hid ((Below.refl w.heap.size w).grown hgrow (Nat.le_refl _) (fun k hk => by cases hk))
      have HO := Lib.hid hown
      clear hown hgrow
      go_wp2
      go_ret
      exact ⟨v', _, rfl, HO.out, HB.out⟩
end Go.Proofs.Ytgjjaalojelmhaa
