/-
  Plain facts and contracts that the law's proof stands on, joined.
  Conditions: each fact's own.
-/
import Derived.Test.YteomfakbbcpckaaGreatDoorJ15
import Derived.Test.YteomfakbbcpckaaGreatDoorJ01
import Derived.Test.YteomfakbbcpckaaGreatDoorJ02
import Derived.Test.YteomfakbbcpckaaGreatDoorJ16
import Derived.Test.YteomfakbbcpckaaGreatDoorJ17
import Derived.Test.YteomfakbbcpckaaGreatDoorJ18
import Derived.Deep.DeepFit
import Derived.Deep.QuietTactic
import Derived.BigQuiet
namespace Go.Proofs.YteomfakbbcpckaaGreatDoor
open Go.RowKit
structure Gl (w : World) : Prop where
 mx : ∃ m, w.cell? ⟨1, 0, none⟩ = some (.int .i64 m)
 lt : 1 < w.heap.size
theorem Gl.low {B : Nat} {w w' : World} (h : Gl w) (hb : Below B w w') (hB : 1 < B) : Gl w' := by
 obtain ⟨⟨m, hm⟩, hl⟩ := h
 have := hb.size
 exact ⟨⟨m, (hb.cell (p := ⟨1, 0, none⟩) hB).trans hm⟩, by omega⟩
theorem Gl.below {w w' : World} (h : Gl w) (hb : Below w.heap.size w w') : Gl w' := h.low hb h.lt
theorem pred_odd (w : World) : PredAt Tryz.prog 172 #[] encR oddR w := fun W x _ => by
 unfold FnGives
 exact (isPart1_any (x : Int) W).mono fun e w' ⟨he, hw⟩ => ⟨he, 0, hw.symm⟩
theorem enter_odd : ∀ args w, (callFunc 172 args).run Tryz.prog w = .ok (.enter 172 args) w := enters_of Tryz.func172 (by kernel_rfl) rfl
theorem indexFunc_odd (s : ByteArray) (w : World) (I : Int) (h : Lib.idxFunc oddR true s = I) :
  Calls Tryz.prog 171 #[.string s, .func (.func 172) #[] #[]] w fun e w' => e = .returned (.int .i64 I) ∧ Below w.heap.size w w' := by
 subst h
 exact Tryz.strings_IndexFunc _ #[] enter_odd oddR s w (pred_odd w)
theorem partB_empty {s : ByteArray} (h : s.data.toList = []) : Nm.partB s.data.toList = false := by rw [h]; rfl
theorem partB_odd {s : ByteArray} (h : ¬ Lib.idxFunc oddR true s < 0) : Nm.partB s.data.toList = false := by
 have := idx_neg s
 rw [decide_eq_false h] at this
 unfold Nm.partB
 rw [← this]; simp
theorem partB_head {s : ByteArray} (h : Lib.idxFunc oddR true s < 0) (hp : 0 < s.size) : Nm.partB s.data.toList = !Nm.dg (s[0]'hp) := by
 have := idx_neg s
 rw [decide_eq_true h] at this
 obtain ⟨c, r, e⟩ : ∃ c r, s.data.toList = c :: r := by
  match hh : s.data.toList with
  | [] => rw [Lib.size_eq, hh] at hp; exact absurd hp (by simp)
  | c :: r => exact ⟨c, r, rfl⟩
 have e0 : s[0]'hp = c := by
  have := Lib.data_getElem? s 0 hp
  rw [e] at this
  simpa using this.symm
 unfold Nm.partB
 rw [← this, e0, e]
 cases hd : Nm.dg c <;> simp [hd]
theorem byte32 (c : UInt8) : wrap32 (c.toNat : Int) = (c.toNat : Int) := by
 have := UInt8.toNat_lt c
 unfold wrap32
 omega
set_option maxHeartbeats 400000 in
theorem isPart_any (s : ByteArray) (w : World) (hs : s.size ≤ 140737488355328) :
  Calls Tryz.prog 145 #[.string s] w (Ret w (.bool (Nm.partB s.data.toList))) := by
 obtain ⟨I, hI⟩ : ∃ I, Lib.idxFunc oddR true s = I := ⟨_, rfl⟩
 have HI := Lib.hid hI
 by_cases hp : 0 < s.size
 ·have hne : (!s.toList.isEmpty) = true := by
   rw [ByteArray.toList_eq]
   cases h : s.data.toList with
   | nil => rw [Lib.size_eq, h] at hp; exact absurd hp (by simp)
   | cons c r => rfl
  by_cases hneg : I < 0
  ·have HF := Lib.hid (partB_head (s := s) (by rw [hI]; exact hneg) hp)
   have hd := digI_dg (s[0]'hp)
   rw [← byte32 (s[0]'hp)] at hd
   clear hI
   cases hdg : Nm.dg (s[0]'hp)
   ·rw [hdg] at hd HF
    have HD := Lib.hid hd
    clear hdg hd
    go_enter Tryz.func145, Tryz.ntmps145
    go_wp2_with (first | (go_at_call 171; refine (indexFunc_odd s _ I HI.out).mono ?_; rintro e w' ⟨rfl, hb⟩) | (go_at_call 174; refine (isDigit_no _ _ HD.out).mono ?_; rintro e w' ⟨rfl, rfl⟩))
    go_ret
    exact ⟨by rw [HF.out]; rfl, by assumption⟩
   ·rw [hdg] at hd HF
    have HD := Lib.hid hd
    clear hdg hd
    go_enter Tryz.func145, Tryz.ntmps145
    go_wp2_with (first | (go_at_call 171; refine (indexFunc_odd s _ I HI.out).mono ?_; rintro e w' ⟨rfl, hb⟩) | (go_at_call 174; refine (isDigit_yes _ _ HD.out).mono ?_; rintro e w' ⟨rfl, rfl⟩))
    go_ret
    exact ⟨by rw [HF.out]; rfl, by assumption⟩
  ·have HF := Lib.hid (partB_odd (s := s) (by rw [hI]; exact hneg))
   clear hI
   go_enter Tryz.func145, Tryz.ntmps145
   go_wp2_with (go_at_call 171; refine (indexFunc_odd s _ I HI.out).mono ?_; rintro e w' ⟨rfl, hb⟩)
   go_ret
   exact ⟨by rw [HF.out]; rfl, by assumption⟩
 ·have hnil : s.data.toList = [] := List.length_eq_zero_iff.1 (by rw [← Lib.size_eq]; omega)
  have HF := Lib.hid (partB_empty hnil)
  have hne : (!s.toList.isEmpty) = false := by rw [ByteArray.toList_eq, hnil]; rfl
  clear hI hnil
  go_enter Tryz.func145, Tryz.ntmps145
  go_wp2_with (go_at_call 171; refine (indexFunc_odd s _ I HI.out).mono ?_; rintro e w' ⟨rfl, hb⟩)
  go_ret
  exact ⟨by rw [HF.out]; rfl, by assumption⟩
theorem isPart_yes (s : ByteArray) (w : World) (hs : s.size ≤ 140737488355328) (h : Nm.partB s.data.toList = true) :
  Calls Tryz.prog 145 #[.string s] w (Ret w (.bool true)) := by
 have c := isPart_any s w hs
 rwa [h] at c
theorem isPart_no (s : ByteArray) (w : World) (hs : s.size ≤ 140737488355328) (h : Nm.partB s.data.toList = false) :
  Calls Tryz.prog 145 #[.string s] w (Ret w (.bool false)) := by
 have c := isPart_any s w hs
 rwa [h] at c
theorem split_dot (s : ByteArray) (w : World) (g : Gl w) (hs : s.size < 4294967281) (xs : List ByteArray) (n : Nat) (hx : Nm.parts s = xs) (hn : xs.length = n) :
  Calls Tryz.prog 144 #[.string s, .string ⟨#[46]⟩] w fun e w' => e = .returned (.slice (some ⟨w.heap.size, 0, none⟩) n n) ∧ w' = w.alloc (.cells (xs.map Value.string).toArray 9) := by
 obtain ⟨m, hm⟩ := g.mx
 subst hx
 rw [Nm.parts_length] at hn
 subst hn
 exact (Tryz.strings_Split s ⟨#[46]⟩ m w hs hm (by decide))
def OkTo (xs : List ByteArray) (k : Nat) : Prop := ∀ j (h : j < xs.length), j < k → Nm.partB xs[j].data.toList = true
theorem OkTo.zero (xs : List ByteArray) : OkTo xs 0 := fun _ _ h => absurd h (Nat.not_lt_zero _)
theorem OkTo.succ {xs : List ByteArray} {k : Nat} (h : OkTo xs k) (hk : k < xs.length) (e : Nm.partB xs[k].data.toList = true) : OkTo xs (k + 1) := fun j hj hlt => by
 by_cases e' : j = k
 ·subst e'; exact e
 ·exact h j hj (by omega)
theorem right_all {s : ByteArray} (h40 : s.size ≤ 40) (h : OkTo (Nm.parts s) (Nm.parts s).length) : Nm.rightB s = true := by
 unfold Nm.rightB
 rw [decide_eq_true h40, ← Nm.parts_all, Bool.true_and, List.all_eq_true]
 intro x hx
 obtain ⟨j, hj, rfl⟩ := List.getElem_of_mem hx
 exact h j hj hj
theorem right_one {s : ByteArray} {k : Nat} (hk : k < (Nm.parts s).length) (h : Nm.partB (Nm.parts s)[k].data.toList = false) : Nm.rightB s = false := by
 unfold Nm.rightB
 have : (Nm.parts s).all (fun x => Nm.partB x.data.toList) = false := by
  rw [List.all_eq_false]
  exact ⟨_, List.getElem_mem hk, by rw [h]; simp⟩
 rw [← Nm.parts_all, this, Bool.and_false]
theorem right_long {s : ByteArray} (h : ¬ s.size ≤ 40) : Nm.rightB s = false := by
 unfold Nm.rightB
 rw [decide_eq_false h, Bool.false_and]
theorem part_size {s x : ByteArray} (h : x ∈ Nm.parts s) : x.size ≤ s.size := by
 have h1 : x.data.toList ∈ Nm.spl s.data.toList := by rw [← Nm.parts_data]; exact List.mem_map_of_mem h
 rw [Lib.size_eq, Lib.size_eq]
 exact Nm.spl_le _ _ h1
set_option maxHeartbeats 1000000 in
theorem nm_right_any (s : ByteArray) (w : World) (g : Gl w) (hs : s.size ≤ 140737488355328) :
  Calls Tryz.prog 126 #[.string s] w (Ret w (.bool (Nm.rightB s))) := by
 have G := Lib.hid g
 clear g
 by_cases h40 : s.size ≤ 40
 ·obtain ⟨xs, hxs⟩ : ∃ xs, Nm.parts s = xs := ⟨_, rfl⟩
  obtain ⟨n, hn⟩ : ∃ n, xs.length = n := ⟨_, rfl⟩
  have hn40 : n ≤ 41 := by
   subst hn; subst hxs
   exact Nat.le_trans (Nm.parts_le s) (by omega)
  have HX := Lib.hid hxs
  have HN := Lib.hid hn
  have HA : Hid (OkTo xs n → Nm.rightB s = true) := by subst hxs; subst hn; exact right_all h40
  have HO : Hid (∀ k (hk : k < xs.length), Nm.partB xs[k].data.toList = false → Nm.rightB s = false) := by subst hxs; exact fun k hk => right_one hk
  have HS : Hid (∀ k (hk : k < xs.length), xs[k].size ≤ 140737488355328) := by
   subst hxs
   exact fun k hk => Nat.le_trans (part_size (List.getElem_mem hk)) hs
  clear hxs hn
  have h7 : decide ((40 : Int) < (s.size : Int)) = false := by simp; omega
  go_enter Tryz.func126, Tryz.ntmps126
  go_wp2_with (go_at_call 144; refine (split_dot s _ G.out (by omega) xs n HX.out HN.out).mono ?_; rintro e w' ⟨rfl, rfl⟩)
  obtain ⟨W, hW⟩ : ∃ W : World, W = w.alloc (.cells (xs.map Value.string).toArray 9) := ⟨_, rfl⟩
  rw [← hW]
  have HC : Hid (∀ k (hk : k < xs.length), W.cell? ⟨w.heap.size, k, none⟩ = some (.string xs[k])) := by
   subst hW
   exact fun k hk => cell_alloc_texts w xs k hk
  have HB : Hid (Below w.heap.size w W) := by subst hW; exact (Below.refl _ _).alloc (Nat.le_refl _) _
  have HZ : w.heap.size < W.heap.size := by subst hW; simp
  clear hW
  go_loopw [4, 11] (fun _ i wr => ∃ k : Nat, k ≤ n ∧ i = .int .i64 k ∧ OkTo xs k ∧ Below W.heap.size W wr) (fun _ i _ => n - (intOf i).toNat)
  case atStart => exact ⟨0, Nat.zero_le _, rfl, OkTo.zero _, Below.refl _ _⟩
  case round =>
   obtain ⟨k, hk, rfl, ho, hb⟩ := hrel
   have HK := Lib.hid ho
   clear ho
   by_cases hlt : k < n
   ·have hx1 : k < xs.length := by rw [HN.out]; exact hlt
    have hc : wr.cell? ⟨w.heap.size, k, none⟩ = some (.string xs[k]) := (hb.cell (p := ⟨w.heap.size, k, none⟩) HZ).trans (HC.out k hx1)
    have hsz := HS.out k hx1
    have hln : (k : Int) < (n : Int) := by omega
    cases hp : Nm.partB xs[k].data.toList
    ·have HE := Lib.hid (HO.out k hx1 hp)
     have HP := Lib.hid hp
     clear hp
     generalize xs[k] = x at *
     go_wp2_with (go_at_call 145; refine (isPart_no x _ hsz HP.out).mono ?_; rintro e w' ⟨rfl, hb'⟩)
     go_ret
     exact ⟨by rw [HE.out]; rfl, HB.out.trans ((hb.trans (hb'.mono hb.size)).mono (by omega))⟩
    ·have HE := Lib.hid (HK.out.succ hx1 hp)
     have HP := Lib.hid hp
     clear hp
     generalize xs[k] = x at *
     go_wp2_with (go_at_call 145; refine (isPart_yes x _ hsz HP.out).mono ?_; rintro e w' ⟨rfl, hb'⟩)
     go_roundw
     case rel => exact ⟨k + 1, by omega, by go_num, HE.out, hb.trans (hb'.mono hb.size)⟩
     case measure => simp [intOf]; omega
   ·obtain rfl : k = n := by omega
    have HE := Lib.hid (HA.out HK.out)
    go_wp2
    go_ret
    exact ⟨by rw [HE.out]; rfl, HB.out.trans (hb.mono (by omega))⟩
 ·have HF := Lib.hid (right_long h40)
  go_enter Tryz.func126, Tryz.ntmps126
  go_wp2
  go_ret
  exact ⟨by rw [HF.out]; rfl, Below.refl _ _⟩
end Go.Proofs.YteomfakbbcpckaaGreatDoor
namespace Go.Proofs.YteomfakbbcpckaaGreatDoor
open Go.RowKit
theorem byte46 {c : UInt8} (h : ((c.toNat : Nat) : Int) = 46) : c = 46 := by
 apply UInt8.toNat_inj.1
 show c.toNat = 46
 omega
def ltrI (c : Int) : Bool := (decide (97 ≤ c) && decide (c ≤ 122)) || decide (c = 95)
set_option maxHeartbeats 400000 in
theorem refDigit_is (c : Int) (w : World) (b : Bool) (hb : digI c = b) :
  Calls Tryz.prog 129 #[.int .u8 c] w fun e w' => e = .returned (.bool b) ∧ w = w' := by
 subst hb
 by_cases h1 : 48 ≤ c
 ·by_cases h2 : c ≤ 57
  ·go_enter Tryz.func129, Tryz.ntmps129
   go_wp2
   go_ret
   exact ⟨by simp [digI, h1, h2], rfl⟩
  ·go_enter Tryz.func129, Tryz.ntmps129
   go_wp2
   go_ret
   exact ⟨by simp [digI, h1, h2], rfl⟩
 ·have hf : Hid (digI c = false) := by unfold digI; rw [decide_eq_false h1]; rfl
  go_enter Tryz.func129, Tryz.ntmps129
  go_wp2
  go_ret
  exact ⟨by rw [hf.out]; rfl, rfl⟩
set_option maxHeartbeats 400000 in
theorem refLetter_is (c : Int) (w : World) (b : Bool) (hb : ltrI c = b) :
  Calls Tryz.prog 128 #[.int .u8 c] w fun e w' => e = .returned (.bool b) ∧ w = w' := by
 subst hb
 by_cases h1 : 97 ≤ c
 ·by_cases h2 : c ≤ 122
  ·go_enter Tryz.func128, Tryz.ntmps128
   go_wp2
   go_ret
   exact ⟨by simp [ltrI, h1, h2], rfl⟩
  ·have h3 : (c == 95) = false := by simp; omega
   have hf : Hid (ltrI c = false) := by show ltrI c = false; unfold ltrI; rw [decide_eq_false h2, decide_eq_false (p := c = 95) (by omega)]; simp
   go_enter Tryz.func128, Tryz.ntmps128
   go_wp2
   go_ret
   exact ⟨by rw [hf.out]; rfl, rfl⟩
 ·by_cases h3 : c = 95
  ·subst h3
   go_enter Tryz.func128, Tryz.ntmps128
   go_wp2
   go_ret
   exact ⟨rfl, rfl⟩
  ·have h4 : (c == 95) = false := by simp; omega
   have hf : Hid (ltrI c = false) := by unfold ltrI; rw [decide_eq_false h1, decide_eq_false h3]; rfl
   go_enter Tryz.func128, Tryz.ntmps128
   go_wp2
   go_ret
   exact ⟨by rw [hf.out]; rfl, rfl⟩
def RestTo (s : ByteArray) (k : Nat) (first : Bool) : Prop := Nm.okS true s.data.toList = Nm.okS first (s.data.toList.drop k)
theorem RestTo.zero (s : ByteArray) : RestTo s 0 true := rfl
theorem drop_get {s : ByteArray} {k : Nat} (h : k < s.size) : s.data.toList.drop k = (s[k]'h) :: s.data.toList.drop (k + 1) := by
 have h' : k < s.data.toList.length := by rw [← Lib.size_eq]; exact h
 rw [List.drop_eq_getElem_cons h']
 congr 1
theorem let_pl (c : UInt8) : (ltrI ((c.toNat : Nat) : Int) || Nm.dg c) = Nm.pl c := by
 rw [← plainI_pl, ← digI_dg]
 unfold plainI ltrI
 cases (decide ((97 : Int) ≤ ((c.toNat : Nat) : Int)) && decide (((c.toNat : Nat) : Int) ≤ 122)) <;> cases digI ((c.toNat : Nat) : Int) <;> simp
theorem let_dg (c : UInt8) (h : ltrI ((c.toNat : Nat) : Int) = true) : Nm.dg c = false := by
 rw [← digI_dg]
 unfold ltrI at h
 unfold digI
 rw [Bool.or_eq_true, Bool.and_eq_true, decide_eq_true_iff, decide_eq_true_iff, decide_eq_true_iff] at h
 rw [Bool.and_eq_false_iff, decide_eq_false_iff_not, decide_eq_false_iff_not]
 omega
theorem RestTo.dot {s : ByteArray} {k : Nat} {first : Bool} (h : RestTo s k first) (hk : k < s.size) (hc : s[k]'hk = 46) : (first = true → Nm.okS true s.data.toList = false) ∧ (first = false → RestTo s (k + 1) true) := by
 unfold RestTo at h ⊢
 rw [drop_get hk, hc, Nm.okS, if_pos rfl] at h
 exact ⟨fun e => by rw [h, e]; rfl, fun e => by rw [h, e]; rfl⟩
theorem RestTo.plain {s : ByteArray} {k : Nat} {first : Bool} (h : RestTo s k first) (hk : k < s.size) (hc : s[k]'hk ≠ 46) :
  ((ltrI (((s[k]'hk).toNat : Nat) : Int) || (digI (((s[k]'hk).toNat : Nat) : Int) && !first)) = true → RestTo s (k + 1) false) ∧
  ((ltrI (((s[k]'hk).toNat : Nat) : Int) || (digI (((s[k]'hk).toNat : Nat) : Int) && !first)) = false → Nm.okS true s.data.toList = false) := by
 unfold RestTo at h ⊢
 rw [drop_get hk, Nm.okS, if_neg hc] at h
 rw [digI_dg]
 have hp := let_pl (s[k]'hk)
 have hd := let_dg (s[k]'hk)
 generalize ltrI (((s[k]'hk).toNat : Nat) : Int) = l at *
 generalize Nm.dg (s[k]'hk) = d at *
 rw [h, ← hp]
 cases l <;> cases d <;> cases first <;> simp_all
theorem rest_end {s : ByteArray} {first : Bool} (h : RestTo s s.size first) : Nm.okS true s.data.toList = !first := by
 unfold RestTo at h
 rw [h, Lib.size_eq, List.drop_length]
 rfl
theorem right_size {s : ByteArray} (h : s.size ≤ 40) : Nm.rightB s = Nm.okS true s.data.toList := by unfold Nm.rightB; rw [decide_eq_true h]; rfl
theorem right_empty {s : ByteArray} (h : s.size < 1) : Nm.rightB s = false := by
 have : s.data.toList = [] := List.length_eq_zero_iff.1 (by rw [← Lib.size_eq]; omega)
 unfold Nm.rightB
 rw [this]; simp [Nm.okS]
theorem byte_eq46 (c : UInt8) : (((c.toNat : Nat) : Int) == 46) = decide (c = 46) := by
 by_cases h : c = 46
 ·subst h; rfl
 ·rw [decide_eq_false h, beq_eq_false_iff_ne]
  exact fun e => h (byte46 e)
set_option maxHeartbeats 1000000 in
set_option maxRecDepth 100000 in
theorem refName_any (s : ByteArray) (w : World) (hs : s.size ≤ 140737488355328) :
  Calls Tryz.prog 95 #[.string s] w fun e w' => e = .returned (.bool (Nm.rightB s)) ∧ w = w' := by
 by_cases h1 : s.size < 1
 ·have HF := Lib.hid (right_empty h1)
  go_enter Tryz.func95, Tryz.ntmps95
  go_wp2
  go_ret
  exact ⟨by rw [HF.out]; rfl, rfl⟩
 ·by_cases h40 : s.size ≤ 40
  ·have HR := Lib.hid (right_size h40)
   have hd1 : decide ((s.size : Int) < 1) = false := decide_eq_false (by omega)
   have hd2 : decide ((40 : Int) < (s.size : Int)) = false := decide_eq_false (by omega)
   go_enter Tryz.func95, Tryz.ntmps95
   go_wp2
   go_loop [3, 4] (fun f i => ∃ k : Nat, k ≤ s.size ∧ i = .int .i64 k ∧ ∃ fb : Bool, f = .bool fb ∧ Hid (RestTo s k fb)) (fun _ i => s.size - (intOf i).toNat)
   case atStart => exact ⟨0, Nat.zero_le _, rfl, true, rfl, RestTo.zero s⟩
   case round =>
    obtain ⟨k, hk, rfl, fb, rfl, hrest⟩ := hrel
    by_cases hlt : k < s.size
    ·have hln : (k : Int) < (s.size : Int) := by omega
     have hk0 : (0 : Int) ≤ (k : Int) := by omega
     by_cases hc : s[k]'hlt = 46
     ·have HD := Lib.hid (hrest.out.dot hlt hc)
      have HB : Hid (((((s[k]'hlt).toNat : Nat) : Int) == 46) = true) := by rw [byte_eq46, decide_eq_true hc]; rfl
      clear hc
      cases fb
      ·have HN := Lib.hid (HD.out.2 rfl)
       have hb := HB.out
       go_wp2_with fail
       go_round
       case rel => exact ⟨k + 1, by omega, by go_num, true, rfl, HN.out⟩
       case measure => simp [intOf]; omega
      ·have HN := Lib.hid (HD.out.1 rfl)
       have hb := HB.out
       go_wp2_with fail
       go_ret
       exact ⟨by rw [HR.out, HN.out]; rfl, rfl⟩
     ·have HP := Lib.hid (hrest.out.plain hlt hc)
      have HB : Hid (((((s[k]'hlt).toNat : Nat) : Int) == 46) = false) := by rw [byte_eq46, decide_eq_false hc]; rfl
      clear hc
      cases hl : ltrI (((s[k]'hlt).toNat : Nat) : Int)
      ·cases hg : digI (((s[k]'hlt).toNat : Nat) : Int)
       ·have HN := Lib.hid (HP.out.2 (by rw [hl, hg]; rfl))
        have HL := Lib.hid hl
        have HG := Lib.hid hg
        clear hl hg HP
        have hb := HB.out
        go_wp2_with fail
        refine (refLetter_is _ _ _ HL.out).mono ?_
        rintro e w1 ⟨rfl, rfl⟩
        go_wp2_with fail
        refine (refDigit_is _ _ _ HG.out).mono ?_
        rintro e w2 ⟨rfl, rfl⟩
        go_wp2_with fail
        go_ret
        exact ⟨by rw [HR.out, HN.out]; rfl, rfl⟩
       ·cases fb
        ·have HN := Lib.hid (HP.out.1 (by rw [hl, hg]; rfl))
         have HL := Lib.hid hl
         have HG := Lib.hid hg
         clear hl hg HP
         have hb := HB.out
         go_wp2_with fail
         refine (refLetter_is _ _ _ HL.out).mono ?_
         rintro e w1 ⟨rfl, rfl⟩
         go_wp2_with fail
         refine (refDigit_is _ _ _ HG.out).mono ?_
         rintro e w2 ⟨rfl, rfl⟩
         go_wp2_with fail
         go_round
         case rel => exact ⟨k + 1, by omega, by go_num, false, rfl, HN.out⟩
         case measure => simp [intOf]; omega
        ·have HN := Lib.hid (HP.out.2 (by rw [hl, hg]; rfl))
         have HL := Lib.hid hl
         have HG := Lib.hid hg
         clear hl hg HP
         have hb := HB.out
         go_wp2_with fail
         refine (refLetter_is _ _ _ HL.out).mono ?_
         rintro e w1 ⟨rfl, rfl⟩
         go_wp2_with fail
         refine (refDigit_is _ _ _ HG.out).mono ?_
         rintro e w2 ⟨rfl, rfl⟩
         go_wp2_with fail
         go_ret
         exact ⟨by rw [HR.out, HN.out]; rfl, rfl⟩
      ·have HN := Lib.hid (HP.out.1 (by rw [hl]; rfl))
       have HL := Lib.hid hl
       clear hl HP
       have hb := HB.out
       go_wp2_with fail
       refine (refLetter_is _ _ _ HL.out).mono ?_
       rintro e w1 ⟨rfl, rfl⟩
       go_wp2_with fail
       go_round
       case rel => exact ⟨k + 1, by omega, by go_num, false, rfl, HN.out⟩
       case measure => simp [intOf]; omega
    ·obtain rfl : k = s.size := by omega
     have HN := Lib.hid (rest_end hrest.out)
     go_wp2
     go_ret
     exact ⟨by rw [HR.out, HN.out]; rfl, rfl⟩
  ·have HF := Lib.hid (right_long h40)
   have hd1 : decide ((s.size : Int) < 1) = false := decide_eq_false (by omega)
   go_enter Tryz.func95, Tryz.ntmps95
   go_wp2
   go_ret
   exact ⟨by rw [HF.out]; rfl, rfl⟩
end Go.Proofs.YteomfakbbcpckaaGreatDoor
namespace Go.Proofs.YteomfakbbcpckaaGreatDoor
open Go.RowKit
theorem right_is (s : ByteArray) (w : World) (g : Gl w) (hs : s.size ≤ 140737488355328) (b : Bool) (h : Nm.rightB s = b) :
  Calls Tryz.prog 126 #[.string s] w (Ret w (.bool b)) := by
 subst h
 exact nm_right_any s w g hs
end Go.Proofs.YteomfakbbcpckaaGreatDoor
